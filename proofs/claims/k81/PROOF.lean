import PyProof.Rows.All
import Wide.All
import OpenK.AllK
import Wide.FinOn
import Lean
import PyProof.EqAt
import PyProof.EqKinds
import PyProof.TupleCall
import PySem.Challenge.RW_phialhouse_k81_orders_looked_at
set_option Elab.async false
set_option linter.all false
set_option maxRecDepth 100000
set_option maxHeartbeats 4000000
/-! THE HAND LAYER, for ints, bools, texts, own classes, LISTS and tuples (index, slices, in, append, pop ..), calls, loops. Paste it whole ahead of your own text; what your proof does not reach may be deleted. -/
namespace L2
open PySem PySem.Spec PyProof.Rows

/-- a key: an int or a str -/
abbrev Key := Sum Int Str
def keyIs : Key → Value → Bool
  | .inl k, v => Value.isInt k v
  | .inr x, v => Value.isStrOf x v
def keyH (w : World) : Key → Int
  | .inl k => hashInt k
  | .inr x => hashStr w x
theorem keyIs_shape : ∀ {k : Key} {v : Value}, keyIs k v = true → (∃ i t, k = Sum.inl i ∧ v = Value.int i t) ∨ (∃ x t, k = Sum.inr x ∧ v = Value.str x t)
  | .inl i, v, h => by
    obtain ⟨t, e⟩ := Value.isInt_shape (k := i) (v := v) h
    exact .inl ⟨i, t, rfl, e⟩
  | .inr x, v, h => by
    obtain ⟨t, e⟩ := Value.isStrOf_shape (x := x) (v := v) h
    exact .inr ⟨x, t, rfl, e⟩
theorem keyIs_int (i : Int) (t : Tok) : keyIs (.inl i) (.int i t) = true := by simp [keyIs, Value.isInt]
theorem keyIs_str (x : Str) (t : Tok) : keyIs (.inr x) (.str x t) = true := by simp [keyIs, Value.isStrOf]
theorem key_ll (a b : Int) : decide ((Sum.inl a : Key) = Sum.inl b) = (a == b) := by
  by_cases e : a = b
  · subst e; simp
  · have h : ¬ (Sum.inl a : Key) = Sum.inl b := fun q => e (Sum.inl.inj q)
    rw [decide_eq_false h]
    exact (beq_eq_false_iff_ne.mpr e).symm
theorem key_rr (a b : Str) : decide ((Sum.inr a : Key) = Sum.inr b) = decide (a = b) := by
  by_cases e : a = b
  · subst e; simp
  · have h : ¬ (Sum.inr a : Key) = Sum.inr b := fun q => e (Sum.inr.inj q)
    rw [decide_eq_false h, decide_eq_false e]
theorem key_lr (a : Int) (b : Str) : decide ((Sum.inl a : Key) = Sum.inr b) = false := decide_eq_false (fun q => nomatch q)
theorem key_rl (a : Str) (b : Int) : decide ((Sum.inr a : Key) = Sum.inl b) = false := decide_eq_false (fun q => nomatch q)

def mixKind (prog : Program) (w : World) : PySem.KeyKind prog w Key where
  is := keyIs
  hash := keyH w
  inj := fun v a b ha hb => by
    rcases keyIs_shape ha with ⟨i, t, rfl, rfl⟩ | ⟨x, t, rfl, rfl⟩
    · rcases keyIs_shape hb with ⟨j, u, rfl, e⟩ | ⟨y, u, rfl, e⟩
      · injection e with e1 _; rw [e1]
      · exact nomatch e
    · rcases keyIs_shape hb with ⟨j, u, rfl, e⟩ | ⟨y, u, rfl, e⟩
      · exact nomatch e
      · injection e with e1 _; rw [e1]
  byValue := fun k v h => by
    rcases keyIs_shape h with ⟨i, t, rfl, rfl⟩ | ⟨x, t, rfl, rfl⟩ <;> rfl
  pyHash := fun hv h => by
    rcases keyIs_shape hv with ⟨i, t, rfl, rfl⟩ | ⟨x, t, rfl, rfl⟩
    · exact wpAny_pyHash_int h
    · exact wpAny_pyHash_str h
  eqBool := fun hu hv h => by
    rcases keyIs_shape hu with ⟨i, t, rfl, rfl⟩ | ⟨x, t, rfl, rfl⟩
    · rcases keyIs_shape hv with ⟨j, u, rfl, rfl⟩ | ⟨y, u, rfl, rfl⟩
      · rw [key_ll] at h; exact wpAny_eqBool_int h
      · rw [key_lr] at h; exact SeqAt.EqAt.int_str i t y u _ _ _ _ h
    · rcases keyIs_shape hv with ⟨j, u, rfl, rfl⟩ | ⟨y, u, rfl, rfl⟩
      · rw [key_rl] at h; exact SeqAt.EqAt.str_int x t j u _ _ _ _ h
      · rw [key_rr] at h; exact wpAny_eqBool_str h
  «strs» := fun k x t v h => by
    rcases keyIs_shape h with ⟨i, u, rfl, e⟩ | ⟨y, u, rfl, e⟩
    · exact nomatch e
    · injection e with e1 _
      subst e1
      cases v <;> rfl

theorem mixKind_int (prog : Program) (w : World) (i : Int) (t : Tok) : (mixKind prog w).is (.inl i) (.int i t) = true := keyIs_int i t
theorem mixKind_str (prog : Program) (w : World) (x : Str) (t : Tok) : (mixKind prog w).is (.inr x) (.str x t) = true := keyIs_str x t
end L2

namespace L2
open PySem PySem.Spec PyProof.Rows

/-- a value, without the heap -/
inductive V where
  | non | bl (b : Bool) | int (i : Int) | str (x : Str) | byt (b : Array UInt8) | flt (b : UInt64) | ref (a : Addr) | ty (n : String)
  deriving DecidableEq

def RelV : V → Value → Prop
  | .non, u => u = Value.none
  | .bl b, u => u = Value.bool b
  | .int i, u => ∃ t, u = Value.int i t
  | .str x, u => ∃ t, u = Value.str x t
  | .byt b, u => ∃ t, u = Value.bytes b t
  | .flt b, u => ∃ t, u = Value.float b t
  | .ref a, u => u = Value.ref a
  | .ty n, u => u = Value.type n

abbrev Vals : List V → List Value → Prop := Paired RelV
theorem Vals.length {xs : List V} {us : List Value} (r : Vals xs us) : xs.length = us.length := Paired.length r
theorem Vals.get : ∀ {xs : List V} {us : List Value} {i : Nat} {x : V}, Vals xs us → xs[i]? = some x → ∃ u, us[i]? = some u ∧ RelV x u
  | _, _, _, _, .nil, e => by simp at e
  | _, _, 0, _, .cons r _, e => by simp at e; subst e; exact ⟨_, rfl, r⟩
  | _, _, i + 1, x, .cons _ t, e => by
    obtain ⟨u, h1, h2⟩ := Vals.get (i := i) (x := x) t (by simpa using e)
    exact ⟨u, by simpa using h1, h2⟩
theorem Vals.append : ∀ {xs ys : List V} {us ws : List Value}, Vals xs us → Vals ys ws → Vals (xs ++ ys) (us ++ ws)
  | _, _, _, _, .nil, s => s
  | _, _, _, _, .cons r t, s => .cons r (Vals.append t s)
theorem Vals.take : ∀ {xs : List V} {us : List Value} (n : Nat), Vals xs us → Vals (xs.take n) (us.take n)
  | _, _, 0, _ => .nil
  | _, _, _ + 1, .nil => .nil
  | _, _, n + 1, .cons r t => .cons r (Vals.take n t)
theorem Vals.drop : ∀ {xs : List V} {us : List Value} (n : Nat), Vals xs us → Vals (xs.drop n) (us.drop n)
  | _, _, 0, r => r
  | _, _, _ + 1, .nil => .nil
  | _, _, n + 1, .cons _ t => Vals.drop n t
def RelO : Option V → Option Value → Prop
  | some v, some u => RelV v u
  | none, none => True
  | _, _ => False
def KV {κ : Type} : List (κ × V) → List (κ × Value) → Prop := Paired fun (p : κ × V) (q : κ × Value) => p.1 = q.1 ∧ RelV p.2 q.2

/-- a key of a dict (00_mix): an int or a text -/
def kV : Key → V
  | .inl i => .int i
  | .inr x => .str x

/-- what stands at a tracked address -/
inductive HO where
  /-- a list -/
  | lst (xs : List V)
  /-- a tuple (never changes) -/
  | tup (xs : List V)
  /-- a dict whose keys are ints and texts; one whose keys are tuples of ints and texts (the empty one is both) -/
  | dK (kvs : List (Key × V)) | dT (kvs : List (List Key × V))
  /-- a set of ints: its members, its size -/
  | set (S : Int → Bool) (n : Nat)
  /-- an instance of the class at C, its dict at dx, its attributes -/
  | ins (C dx : Addr) (fs : List (Str × V))
  /-- the dict of the instance at x -/
  | own (x : Addr)
  /-- the dict of an exception -/
  | xd (fs : List (Str × V))
  /-- a bound method, f of x -/
  | met (f x : Addr)
  /-- a range object lo, lo + 1, .. below hi -/
  | rng (lo hi : Int)
  /-- a thing that is known to the object (the script; a dict while a loop walks it): read, never written while it is so -/
  | frz (o : Obj) (u : HO)
  /-- a code object's table -/
  | tbl (ps : Array Value)
  /-- any other thing, by what is true of its one object (a def of one's own: SetO a S n := HO.ext fun h => ..) -/
  | ext (φ : Heap → Prop)

abbrev Hp := Addr → Option HO
def upd (H : Hp) (a : Addr) (o : HO) : Hp := fun b => if b = a then some o else H b
theorem upd_same {H : Hp} {a : Addr} {o : HO} : upd H a o a = some o := by unfold upd; rw [if_pos rfl]
theorem upd_ne {H : Hp} {a b : Addr} {o : HO} (h : b ≠ a) : upd H a o b = H b := by unfold upd; rw [if_neg h]
/-- two objects of different content stand apart -/
theorem ne_of {H : Hp} {a b : Addr} {o u : HO} (h : H a = some o) (h' : H b = some u) (d : o ≠ u) : a ≠ b := by
  intro e; subst e; rw [h] at h'; exact d (Option.some.inj h')
theorem ne_of_none {H : Hp} {a b : Addr} {o : HO} (h : H a = some o) (h' : H b = none) : a ≠ b := by
  intro e; subst e; rw [h] at h'; cases h'

section
variable (P : Program) (w : World)
def ObjOk (H : Hp) (h : Heap) (a : Addr) : HO → Prop
  | .lst xs => xs.length ≤ sizeLine ∧ ∃ (its : List Value) (n : Nat), Vals xs its ∧ h.get? a = some { cls := .type "list", data := .seq its.toArray n }
  | .tup xs => xs.length ≤ sizeLine ∧ ∃ its : List Value, Vals xs its ∧ IsTup h a its.toArray
  | .dK kvs => kvs.length ≤ sizeLine ∧ (a == sysModules) = false ∧ ∃ vs, KV kvs vs ∧ h.DictOf (mixKind P w) a vs
  | .dT kvs => kvs.length ≤ sizeLine ∧ (a == sysModules) = false ∧ ∃ xs : List (List Key × Addr × Value),
      Paired (fun (p : List Key × V) (q : List Key × Addr × Value) => p.1 = q.1 ∧ H q.2.1 = some (.tup (p.1.map kV)) ∧ RelV p.2 q.2.2) kvs xs ∧
      ∃ o es ep, h.get? a = some o ∧ o.ExactDict ∧ o.data = .dict es ep ∧ es.toList = xs.map (entryOfKey (tupleKind (mixKind P w))) ∧ (xs.map (·.1)).Nodup
  | .set S n => h.SetOf (intKind P w) a S n
  | .ins C dx fs => H dx = some (.own a) ∧ fs.length ≤ 1000 ∧ dx ≠ a ∧ h.get? a = some (PySem.W.instObj C dx) ∧
      ∃ mA, h.Ns1 dx mA ∧ (∀ f, RelO (fs.lookup f) (mA f)) ∧ PySem.Within mA (fs.map (·.1))
  | .own _ => ∃ o, h.get? a = some o
  | .xd fs => ∃ mA, h.Ns1 a mA ∧ ∀ f, RelO (fs.lookup f) (mA f)
  | .rng lo hi => ∃ t u v, h.get? a = some { cls := .type "range", data := .fields #[.int lo t, .int hi u, .int 1 v] }
  | .frz o u => h.get? a = some o ∧ ObjOk H h a u
  | .tbl ps => h.get? a = some { cls := .none, data := .fields ps }
  | .met f x => h.get? a = some (PySem.W.methodObj (.ref f) (.ref x))
  | .ext φ => φ h ∧ (∃ o, h.get? a = some o) ∧ ∀ h1 h2 : Heap, φ h1 → (∀ o, h1.get? a = some o → h2.get? a = some o) → φ h2
/-- the abstract heap is held -/
def HOk (H : Hp) (h : Heap) : Prop := ∀ a o, H a = some o → ObjOk P w H h a o
end

section
variable {P : Program} {w : World} {H H' : Hp} {h h' : Heap} {a : Addr} {o : HO}
theorem ObjOk.lt (x : ObjOk P w H h a o) : a < h.objs.size := by
  cases o with
  | lst xs => obtain ⟨_, _, _, _, e⟩ := x; exact Heap.lt_size e
  | tup xs => obtain ⟨_, _, _, p⟩ := x; exact p.lt
  | dK kvs => obtain ⟨_, _, _, _, o, _, _, e, _⟩ := x; exact Heap.lt_size e
  | dT kvs => obtain ⟨_, _, _, _, o, _, _, e, _⟩ := x; exact Heap.lt_size e
  | set S n => obtain ⟨o, _, _, _, e, _⟩ := x; exact Heap.lt_size e
  | ins C dx fs => obtain ⟨_, _, _, e, _⟩ := x; exact Heap.lt_size e
  | own y => obtain ⟨_, e⟩ := x; exact Heap.lt_size e
  | xd fs => obtain ⟨_, ⟨_, _, _, e, _⟩, _⟩ := x; exact Heap.lt_size e
  | rng lo hi => obtain ⟨_, _, _, e⟩ := x; exact Heap.lt_size e
  | frz ob u => obtain ⟨e, _⟩ := x; exact Heap.lt_size e
  | tbl ps => exact Heap.lt_size (show h.get? a = some _ from x)
  | met f y => exact Heap.lt_size (show h.get? a = some _ from x)
  | ext φ => obtain ⟨_, ⟨_, e⟩, _⟩ := x; exact Heap.lt_size e
theorem Paired.mapP {α β : Type} {F G : α → β → Prop} : ∀ {l₁ : List α} {l₂ : List β}, Paired F l₁ l₂ → (∀ a b, F a b → G a b) → Paired G l₁ l₂
  | _, _, .nil, _ => .nil
  | _, _, .cons r t, f => .cons (f _ _ r) (Paired.mapP t f)
/-- what an object's description leans on: its own object, its own dict, the tuples -/
theorem ObjOk.stay (x : ObjOk P w H h a o) (k : ∀ b u, (b = a ∨ H b = some (.own a)) → h.get? b = some u → h'.get? b = some u)
    (ho : ∀ b, H b = some (.own a) → H' b = some (.own a)) (ht : ∀ b xs, H b = some (.tup xs) → H' b = some (.tup xs)) : ObjOk P w H' h' a o := by
  induction o with
  | lst xs => obtain ⟨z, its, n, r, e⟩ := x; exact ⟨z, its, n, r, k _ _ (.inl rfl) e⟩
  | tup xs => obtain ⟨z, its, r, ob, e, c⟩ := x; exact ⟨z, its, r, ob, k _ _ (.inl rfl) e, c⟩
  | dK kvs => obtain ⟨z, y, vs, r, ob, es, ep, e, c⟩ := x; exact ⟨z, y, vs, r, ob, es, ep, k _ _ (.inl rfl) e, c⟩
  | dT kvs =>
    obtain ⟨z, y, xs, r, ob, es, ep, e, c⟩ := x
    exact ⟨z, y, xs, Paired.mapP r fun p q z => ⟨z.1, ht _ _ z.2.1, z.2.2⟩, ob, es, ep, k _ _ (.inl rfl) e, c⟩
  | set S n => obtain ⟨ob, es, ep, t, e, c⟩ := x; exact ⟨ob, es, ep, t, k _ _ (.inl rfl) e, c⟩
  | ins C dx fs =>
    obtain ⟨d, z, ne, e, mA, ⟨od, es, ep, e2, c⟩, r⟩ := x
    exact ⟨ho _ d, z, ne, k _ _ (.inl rfl) e, mA, ⟨od, es, ep, k _ _ (.inr d) e2, c⟩, r⟩
  | own y => obtain ⟨ob, e⟩ := x; exact ⟨ob, k _ _ (.inl rfl) e⟩
  | xd fs => obtain ⟨mA, ⟨od, es, ep, e, c⟩, r⟩ := x; exact ⟨mA, ⟨od, es, ep, k _ _ (.inl rfl) e, c⟩, r⟩
  | rng lo hi => obtain ⟨t, u, v, e⟩ := x; exact ⟨t, u, v, k _ _ (.inl rfl) e⟩
  | frz ob u ih => obtain ⟨e, q⟩ := x; exact ⟨k _ _ (.inl rfl) e, ih q⟩
  | tbl ps =>
    have e : h.get? a = some { cls := .none, data := .fields ps } := x
    show h'.get? a = some { cls := .none, data := .fields ps }
    exact k a _ (.inl rfl) e
  | met f y =>
    have e : h.get? a = some (PySem.W.methodObj (.ref f) (.ref y)) := x
    show h'.get? a = some (PySem.W.methodObj (.ref f) (.ref y))
    exact k a _ (.inl rfl) e
  | ext φ => obtain ⟨p, ⟨o, e⟩, st⟩ := x; exact ⟨st _ _ p fun o q => k _ _ (.inl rfl) q, ⟨o, k _ _ (.inl rfl) e⟩, st⟩
theorem HOk.lt (x : HOk P w H h) (e : H a = some o) : a < h.objs.size := (x a o e).lt
theorem HOk.fresh (x : HOk P w H h) (e : h.objs.size ≤ a) : H a = none := by
  cases q : H a with
  | none => rfl
  | some u => exact absurd (Nat.lt_of_lt_of_le (x.lt q) e) (Nat.lt_irrefl _)
/-- every object of the heap is kept -/
theorem HOk.kept (x : HOk P w H h) (k : ∀ b u, h.get? b = some u → h'.get? b = some u) : HOk P w H h' := fun a o e =>
  (x a o e).stay (fun b u _ q => k b u q) (fun _ q => q) fun _ _ q => q
/-- a new object is laid and tracked -/
theorem HOk.laid (x : HOk P w H h) (k : ∀ b u, h.get? b = some u → h'.get? b = some u) (hp : h.objs.size ≤ a) (new : ObjOk P w (upd H a o) h' a o) : HOk P w (upd H a o) h' := fun b u e => by
  have hn := x.fresh hp
  by_cases hb : b = a
  · subst hb; rw [upd_same] at e; cases e; exact new
  · rw [upd_ne hb] at e
    exact (x b u e).stay (fun c v _ q => k c v q) (fun c q => by rw [upd_ne (ne_of_none q hn)]; exact q) fun c xs q => by rw [upd_ne (ne_of_none q hn)]; exact q
end

/-- what may be read as u: it is u, or a known u -/
def Rd (H : Hp) (a : Addr) (u : HO) : Prop := H a = some u ∨ ∃ o, H a = some (.frz o u)
theorem Rd.ok {P : Program} {w : World} {H : Hp} {h : Heap} {a : Addr} {u : HO} (r : Rd H a u) (x : HOk P w H h) : ObjOk P w H h a u := by
  rcases r with r | ⟨o, r⟩
  · exact x a u r
  · obtain ⟨_, q⟩ := x a _ r
    exact q
/-- what may be written -/
def Mut : Option HO → Prop
  | some (.lst _) => True
  | some (.dK _) => True
  | some (.dT _) => True
  | some (.set _ _) => True
  | some (.ins _ _ _) => True
  | some (.ext _) => True
  | _ => False
section
variable {P : Program} {w : World} {H : Hp} {h h' : Heap} {x e : Addr} {o' : HO}
/-- the object at e is changed: x itself, or the dict of the instance x -/
theorem HOk.write (ok : HOk P w H h) (mu : Mut (H x)) (he : e = x ∨ H e = some (.own x)) (k : ∀ b u, b ≠ e → h.get? b = some u → h'.get? b = some u) (heo : ∃ u, h'.get? e = some u)
    (new : ObjOk P w (upd H x o') h' x o') : HOk P w (upd H x o') h' := fun b u q => by
  have nown : ∀ c y, H c = some (.own y) → c ≠ x := fun c y r z => by subst z; rw [r] at mu; exact mu
  have ntup : ∀ c xs, H c = some (.tup xs) → c ≠ x := fun c xs r z => by subst z; rw [r] at mu; exact mu
  by_cases hb : b = x
  · subst hb; rw [upd_same] at q; cases q; exact new
  · rw [upd_ne hb] at q
    by_cases hbe : b = e
    · have q' : H b = some (.own x) := by
        rcases he with z | z
        · exact absurd (hbe.trans z) hb
        · rw [hbe]; exact z
      rw [q] at q'; cases q'
      obtain ⟨v, hv⟩ := heo
      exact ⟨v, by rw [hbe]; exact hv⟩
    · refine (ok b u q).stay (fun c v hc r => k c v ?_ r) (fun c r => by rw [upd_ne (nown c b r)]; exact r) fun c xs r => by rw [upd_ne (ntup c xs r)]; exact r
      rcases hc with rfl | hc
      · exact hbe
      · rintro rfl
        rcases he with z | z
        · exact nown c b hc z
        · rw [hc] at z; cases z; exact hb rfl
end

/-! ### kept unless tracked; of the frames at fs (the callers') the slots may change (an exception that passes writes there); of the records at ex (iterators) nothing is said -/
structure Un (fs ex : List Addr) (H H' : Hp) (h h' : Heap) : Prop where
  keep : ∀ b o, h.get? b = some o → H b = none → b ∉ fs → b ∉ ex → h'.get? b = some o
  slot : ∀ b o, h.get? b = some o → H b = none → b ∈ fs → b ∉ ex → ∃ sl, h'.get? b = some { o with slots := sl }
  free : ∀ b o, h.get? b = some o → H b = none → b ∉ ex → H' b = none
  there : ∀ b o, h.get? b = some o → b ∉ ex → ∃ o', h'.get? b = some o'
  tups : ∀ b xs, H b = some (.tup xs) → H' b = some (.tup xs)
  frzs : ∀ b o u, H b = some (.frz o u) → H' b = some (.frz o u)
  tbls : ∀ b ps, H b = some (.tbl ps) → ∃ more, H' b = some (.tbl (ps ++ more))
section
variable {fs fs' ex ex' : List Addr} {H H1 H2 : Hp} {h h1 h2 h' : Heap} {a x e : Addr} {o : HO}
theorem Un.any (u : Un fs ex H H1 h h1) {b : Addr} {ob : Obj} (q : h.get? b = some ob) (n : H b = none) (hx : b ∉ ex) : ∃ sl, h1.get? b = some { ob with slots := sl } := by
  by_cases hb : b ∈ fs
  · exact u.slot b ob q n hb hx
  · exact ⟨ob.slots, u.keep b ob q n hb hx⟩
theorem Un.kept (k : ∀ b u, h.get? b = some u → h'.get? b = some u) : Un fs ex H H h h' :=
  ⟨fun b ob q _ _ _ => k b ob q, fun b ob q _ _ _ => ⟨ob.slots, k b ob q⟩, fun _ _ _ n _ => n, fun b ob q _ => ⟨ob, k b ob q⟩, fun _ _ q => q, fun _ _ _ q => q, fun _ ps q => ⟨#[], by rw [q]; simp⟩⟩
theorem Un.refl : Un fs ex H H h h := Un.kept fun _ _ q => q
theorem Un.laid (k : ∀ b u, h.get? b = some u → h'.get? b = some u) (hp : h.objs.size ≤ a) (hn : H a = none) : Un fs ex H (upd H a o) h h' where
  keep := fun b u q _ _ _ => k b u q
  slot := fun b u q _ _ _ => ⟨u.slots, k b u q⟩
  free := fun b u q n _ => by rw [upd_ne (Nat.ne_of_lt (Nat.lt_of_lt_of_le (Heap.lt_size q) hp))]; exact n
  there := fun b u q _ => ⟨u, k b u q⟩
  tups := fun b xs q => by rw [upd_ne (ne_of_none q hn)]; exact q
  frzs := fun b u xs q => by rw [upd_ne (ne_of_none q hn)]; exact q
  tbls := fun b ps q => ⟨#[], by rw [upd_ne (ne_of_none q hn), q]; simp⟩
theorem Un.write (mu : Mut (H x)) (he : e = x ∨ H e = some (.own x)) (k : ∀ b u, b ≠ e → h.get? b = some u → h'.get? b = some u) (heo : ∃ u, h'.get? e = some u) : Un fs ex H (upd H x o) h h' := by
  have hx : ∀ b, H b = none → b ≠ x := fun b n z => by subst z; rw [n] at mu; exact mu
  have hb : ∀ b, H b = none → b ≠ e := fun b n z => by
    subst z
    rcases he with r | r
    · exact hx b n r
    · rw [n] at r; cases r
  have hm : ∀ b u, H b = some u → ¬ Mut (some u) → b ≠ x := fun b u q nm z => by subst z; rw [q] at mu; exact nm mu
  refine ⟨fun b u q n _ _ => k b u (hb b n) q, fun b u q n _ _ => ⟨u.slots, k b u (hb b n) q⟩, fun b u q n _ => by rw [upd_ne (hx b n)]; exact n, fun b u q _ => ?_,
    fun b xs q => by rw [upd_ne (hm b _ q fun z => z)]; exact q, fun b u xs q => by rw [upd_ne (hm b _ q fun z => z)]; exact q, fun b ps q => ⟨#[], by rw [upd_ne (hm b _ q fun z => z), q]; simp⟩⟩
  by_cases hbe : b = e
  · subst hbe; exact heo
  · exact ⟨u, k b u hbe q⟩
end

/-! ### the heap without what is tracked -/
def trk (h : Heap) (H : Hp) : List Addr := (List.range h.objs.size).filter fun a => (H a).isSome
def hidT (h : Heap) (H : Hp) : Heap := PySem.W.hideAll h (trk h H)
theorem hidT_size (h : Heap) (H : Hp) : (hidT h H).objs.size = h.objs.size := PySem.W.hideAll_size _ _
theorem hidT_get {h : Heap} {H : Hp} {b : Addr} {o : Obj} (e : h.get? b = some o) (n : H b = none) : (hidT h H).get? b = some o :=
  PySem.W.hideAll_get _ e fun hm => by
    have q : (H b).isSome = true := (List.mem_filter.mp hm).2
    rw [n] at q; simp at q
theorem of_hidT {h : Heap} {H : Hp} {b : Addr} {o : Obj} (e : (hidT h H).get? b = some o) : h.get? b = some o ∧ H b = none := by
  have e' : h.get? b = some o := PySem.W.of_hideAll (trk h H) e
  refine ⟨e', ?_⟩
  cases q : H b with
  | none => rfl
  | some x =>
    have hm : b ∈ trk h H := List.mem_filter.mpr ⟨List.mem_range.mpr (Heap.lt_size e'), by simp [q]⟩
    have z : (hidT h H).get? b = none := PySem.W.hideAll_none (trk h H) hm
    rw [z] at e; cases e

/-! ### OpenK's ledger, filled with every new object but one -/
def allNews (g h : Heap) (L : Addr) : List (Addr × Obj) := (List.range h.objs.size).filterMap fun a => if a = L ∨ (g.get? a).isSome = true then none else (h.get? a).map fun o => (a, o)
def rest (g h : Heap) (L d : Addr) : List (Addr × Obj) := (allNews g h L).filter fun p => decide (p.1 ≠ d)
end L2

namespace L2
open PySem PySem.Spec PyProof.Rows

/-- the module's facts, over the base: the heap at the law's entry without what is tracked there -/
structure Mod (K : PySem.W.Frag) (mg : Str → Option Value) (base : Heap) : Prop where
  kin : K.In base
  glob : base.Ns mainGlobals mg
  blt : ∃ mb, base.Ns builtinsNs mb ∧ ∀ x : Str, x ≠ "__name__" → mb x = bootBuiltins x
  nolimit : base.NoLimit

/-- the context: a def's body (or a comprehension's block) running. base: fixed through the whole law; s₀, H₀: the entry; outer: the frames whose slots others may change (a def's callers); stack: all frames that run;
   ex: iterators that were made ahead of the entry and are walked here (a comprehension's); fn: the names whose cells were made at the entry (a def: all; a comprehension's block: its own); calm: not within an except suite; pn: pins that every state bears; xe: what is wanted of an exception that leaves the code -/
structure Cx where
  prog : Program
  w : World
  K : PySem.W.Frag
  mg : Str → Option Value
  base : Heap
  A : Around
  N : List Str
  s₀ : Shared
  H₀ : Hp
  env : Env
  outer : List Env
  stack : List Env
  ex : List Addr
  fn : Str → Bool
  calm : Bool
  pn : List (Addr × Obj)
  xe : Value → Shared → Prop
/-- the callers' frames -/
def frs (l : List Env) : List Addr := l.filterMap (·.frame)
abbrev Cx.fs (X : Cx) : List Addr := frs X.outer

def Vis (sc : Scope) (x : Str) : Prop := sc.names.lookup x = some .local ∨ sc.names.lookup x = some .cell ∨ sc.names.lookup x = some .free
def Loc (sc : Scope) (x : Str) : Prop := sc.names.lookup x = some .local ∨ sc.names.lookup x = some .cell
def Look (env : Env) (h : Heap) (m : Str → Option Value) (x : Str) (u : Value) : Prop :=
  (env.kindOf x = some .local ∧ m x = some u) ∨ ((env.kindOf x = some .cell ∨ env.kindOf x = some .free) ∧ ∃ c, env.cells.lookup x = some c ∧ h.IsCell c (some u))

structure Cx.Ok (X : Cx) : Prop where
  mod : Mod X.K X.mg X.base
  kind : X.env.scope.kind = .function
  glob : X.env.globals = mainGlobals
  blt : X.env.builtins = builtinsNs
  above : X.s₀.heap.objs.size ≤ X.env.locals
  inj : ∀ x y c, X.env.cells.lookup x = some c → X.env.cells.lookup y = some c → x = y
  has : ∀ x, (X.env.kindOf x = some .cell ∨ X.env.kindOf x = some .free) → ∃ c, X.env.cells.lookup x = some c
  cab : ∀ x c, X.fn x = true → X.env.cells.lookup x = some c → X.s₀.heap.objs.size ≤ c
  hd : X.calm = true → X.A.handled = none
  frames : X.A.frames = some X.stack
  stk : X.stack = X.outer ∨ (X.stack = X.env :: X.outer ∧ X.env.frame = some X.env.locals)
  exf : ∀ b ∈ X.ex, b ≠ X.env.locals ∧ ∀ x c, X.env.cells.lookup x = some c → c ≠ b
  bs : ∀ b o, X.base.get? b = some o → X.s₀.heap.get? b = some o ∧ X.H₀ b = none
  bsz : X.base.objs.size ≤ X.s₀.heap.objs.size
  noex : ∀ b o, X.base.get? b = some o → b ∉ X.ex
  exfs : ∀ b ∈ X.ex, b ∉ X.fs
  funs : X.s₀.heap.FunFrames X.base X.outer
  frf : ∀ b ∈ X.fs, X.H₀ b = none

structure Inv (X : Cx) (pins : List (Addr × Obj)) (σ : List (Option V)) (H : Hp) (s : Shared) : Prop where
  ok : X.Ok
  os : s.os = X.s₀.os
  bare : AllBare s.gens
  base : Un X.fs X.ex X.H₀ H X.s₀.heap s.heap
  loc : ∃ m, s.heap.Ns X.env.locals m ∧ ∀ (i : Nat) (x : Str) (v : V), X.N[i]? = some x → σ[i]? = some (some v) → Vis X.env.scope x → ∃ u, RelV v u ∧ Look X.env s.heap m x u
  cell : ∀ x c, X.env.cells.lookup x = some c → ∃ v, s.heap.IsCell c v
  free : H X.env.locals = none
  freeC : ∀ x c, X.env.cells.lookup x = some c → H c = none
  pin : ∀ p ∈ X.pn ++ pins, s.heap.get? p.1 = some p.2 ∧ H p.1 = none ∧ p.1 ≠ X.env.locals ∧ p.1 ∉ X.fs ∧ ∀ v, p.2.data ≠ .cell v
  hok : HOk X.prog X.w H s.heap
  len : σ.length = X.N.length

section
variable {X : Cx} {pins : List (Addr × Obj)} {σ : List (Option V)} {H H' : Hp} {s : Shared} {h' : Heap}

theorem Cx.Ok.nofr (ok : X.Ok) {b : Addr} {o : Obj} (e : X.base.get? b = some o) : b ∉ X.fs := fun hb => by
  have := (ok.funs.mem hb).1
  rw [e] at this; cases this
theorem Inv.bs (I : Inv X pins σ H s) : ∀ b o, X.base.get? b = some o → s.heap.get? b = some o ∧ H b = none := fun b o e =>
  ⟨I.base.keep b o (I.ok.bs b o e).1 (I.ok.bs b o e).2 (I.ok.nofr e) (I.ok.noex b o e), I.base.free b o (I.ok.bs b o e).1 (I.ok.bs b o e).2 (I.ok.noex b o e)⟩
theorem Inv.bk (I : Inv X pins σ H s) : ∀ b o, X.base.get? b = some o → s.heap.get? b = some o := fun b o e => (I.bs b o e).1
theorem Inv.mod (I : Inv X pins σ H s) : Mod X.K X.mg X.base := I.ok.mod
theorem Inv.kIn (I : Inv X pins σ H s) : X.K.In s.heap := I.ok.mod.kin.keeps I.bk
/-- the frame over the base: for OpenK's rules (K.In X.base is I.mod.kin) -/
theorem Inv.fr (I : Inv X pins σ H s) : ∃ m, Fr X.base X.env.locals s.heap m :=
  let ⟨m, hn, _⟩ := I.loc
  ⟨m, hn, I.bk, Nat.le_trans I.ok.bsz I.ok.above⟩
theorem Inv.lt (I : Inv X pins σ H s) : X.env.locals < s.heap.objs.size := let ⟨_, hn, _⟩ := I.loc; hn.lt
theorem Inv.sz (I : Inv X pins σ H s) : X.s₀.heap.objs.size ≤ s.heap.objs.size := Nat.le_trans I.ok.above (Nat.le_of_lt I.lt)
theorem Inv.nofs (I : Inv X pins σ H s) {a : Addr} (h : s.heap.objs.size ≤ a) : a ∉ X.fs := fun hb => by
  obtain ⟨_, o, ho, _⟩ := I.ok.funs.mem hb
  exact absurd (Nat.lt_of_lt_of_le (Heap.lt_size ho) (Nat.le_trans I.sz h)) (Nat.lt_irrefl _)
theorem Inv.cne (I : Inv X pins σ H s) : ∀ x c, X.env.cells.lookup x = some c → c ≠ X.env.locals := fun x c e z => by
  obtain ⟨v, o, ho, hd⟩ := I.cell x c e
  obtain ⟨m, ⟨o', es, ep, ho', hd', _⟩, _⟩ := I.loc
  rw [z, ho'] at ho; cases ho; rw [hd'] at hd; cases hd
theorem Inv.funs (I : Inv X pins σ H s) : s.heap.FunFrames X.base X.outer := by
  have all : ∀ (l : List Env), (∀ b ∈ frs l, b ∈ X.fs) → X.s₀.heap.FunFrames X.base l → s.heap.FunFrames X.base l := by
    intro l
    induction l with
    | nil => intro _ _; trivial
    | cons env r ih =>
      intro hs hl
      obtain ⟨hk, ⟨L, o, hf, hn, ho, hd⟩, hr⟩ := hl
      have hL : L ∈ X.fs := hs L (by unfold frs; rw [List.filterMap_cons, hf]; exact List.mem_cons_self)
      obtain ⟨sl, e⟩ := I.base.slot L o ho (I.ok.frf L hL) hL fun z => I.ok.exfs L z hL
      exact ⟨hk, ⟨L, _, hf, hn, e, hd⟩, ih (fun b hb => hs b (by unfold frs; rw [List.filterMap_cons, hf]; exact List.mem_cons_of_mem _ hb)) hr⟩
  exact all X.outer (fun _ hb => hb) I.ok.funs

/-- the frames that run, for a call -/
theorem Inv.stack (I : Inv X pins σ H s) : s.heap.FunFrames X.base X.stack := by
  rcases I.ok.stk with e | ⟨e, hf⟩
  · rw [e]; exact I.funs
  · rw [e]
    obtain ⟨m, hn, _⟩ := I.loc
    refine .cons (by rw [I.ok.kind]; decide) hf hn ?_ I.funs
    exact Heap.get?_none_of_le (Nat.le_trans I.ok.bsz I.ok.above)
theorem Inv.stkSub (I : Inv X pins σ H s) : ∀ b ∈ frs X.stack, b ∈ X.env.locals :: X.fs := fun b hb => by
  rcases I.ok.stk with e | ⟨e, hf⟩
  · rw [e] at hb; exact List.mem_cons_of_mem _ hb
  · rw [e] at hb
    unfold frs at hb
    rw [List.filterMap_cons, hf] at hb
    exact hb
theorem Inv.stkFree (I : Inv X pins σ H s) : ∀ b ∈ frs X.stack, H b = none := fun b hb => by
  rcases List.mem_cons.mp (I.stkSub b hb) with e | hb
  · rw [e]; exact I.free
  · obtain ⟨_, o, ho, _⟩ := I.ok.funs.mem hb
    exact I.base.free b o ho (I.ok.frf b hb) fun z => I.ok.exfs b z hb

/-- THE STEP: the untracked objects but the frame and the records at ch are kept (the callers' frames up to slots), the frame's map is kept, the new abstract heap is held -/
theorem Inv.step {g' : Array GenState} {t' : Nat} {d' : Drawn} {ch : List Addr} (I : Inv X pins σ H s)
    (hch : ∀ b ∈ ch, (b ∈ X.ex ∨ X.s₀.heap.objs.size ≤ b) ∧ b ≠ X.env.locals ∧ (∀ x c, X.env.cells.lookup x = some c → c ≠ b) ∧ ∀ p ∈ X.pn ++ pins, p.1 ≠ b)
    (keep : ∀ b o, b ≠ X.env.locals → b ∉ X.fs → b ∉ ch → s.heap.get? b = some o → H b = none → h'.get? b = some o)
    (slot : ∀ b o, b ≠ X.env.locals → b ∈ X.fs → b ∉ ch → s.heap.get? b = some o → H b = none → ∃ sl, h'.get? b = some { o with slots := sl }) (free : ∀ b o, b ∉ ch → s.heap.get? b = some o → H b = none → H' b = none)
    (there : ∀ b o, b ∉ ch → s.heap.get? b = some o → ∃ o', h'.get? b = some o')
    (tups : ∀ b xs, H b = some (.tup xs) → H' b = some (.tup xs)) (frzs : ∀ b o u, H b = some (.frz o u) → H' b = some (.frz o u)) (tbls : ∀ b ps, H b = some (.tbl ps) → ∃ more, H' b = some (.tbl (ps ++ more)))
    (ns : ∀ m, s.heap.Ns X.env.locals m → h'.Ns X.env.locals m) (hok : HOk X.prog X.w H' h') (hg : AllBare g') :
    Inv X pins σ H' { s with heap := h', gens := g', drawn := d', toks := t' } := by
  have neL : ∀ b o, X.s₀.heap.get? b = some o → b ≠ X.env.locals := fun b o e => Nat.ne_of_lt (Nat.lt_of_lt_of_le (Heap.lt_size e) I.ok.above)
  have neC : ∀ b o, X.s₀.heap.get? b = some o → b ∉ X.ex → b ∉ ch := fun b o e hx hb => by
    rcases (hch b hb).1 with z | z
    · exact hx z
    · exact absurd (Nat.lt_of_lt_of_le (Heap.lt_size e) z) (Nat.lt_irrefl _)
  have cellK : ∀ x c, X.env.cells.lookup x = some c → ∀ v, s.heap.IsCell c v → h'.IsCell c v := fun x c e v ⟨o, ho, hd⟩ => by
    have nch : c ∉ ch := fun z => (hch c z).2.2.1 x c e rfl
    by_cases hc : c ∈ X.fs
    · obtain ⟨sl, q⟩ := slot c o (I.cne x c e) hc nch ho (I.freeC x c e)
      exact ⟨_, q, hd⟩
    · exact ⟨o, keep c o (I.cne x c e) hc nch ho (I.freeC x c e), hd⟩
  refine ⟨I.ok, I.os, hg, ⟨fun b o e n hb hx => ?_, fun b o e n hb hx => ?_, fun b o e n hx => ?_, fun b o e hx => ?_, fun b xs e => tups b xs (I.base.tups b xs e), fun b o xs e => frzs b o xs (I.base.frzs b o xs e), fun b ps e => ?_⟩, ?_, fun x c e => ?_, ?_, fun x c e => ?_, fun p hp => ?_, hok, I.len⟩
  · exact keep b o (neL b o e) hb (neC b o e hx) (I.base.keep b o e n hb hx) (I.base.free b o e n hx)
  · obtain ⟨sl, e1⟩ := I.base.slot b o e n hb hx
    obtain ⟨sl', e2⟩ := slot b _ (neL b o e) hb (neC b o e hx) e1 (I.base.free b o e n hx)
    exact ⟨sl', e2⟩
  · obtain ⟨o', e1⟩ := I.base.there b o e hx
    exact free b o' (neC b o e hx) e1 (I.base.free b o e n hx)
  · obtain ⟨o', e1⟩ := I.base.there b o e hx
    exact there b o' (neC b o e hx) e1
  · obtain ⟨m1, e1⟩ := I.base.tbls b ps e
    obtain ⟨m2, e2⟩ := tbls b _ e1
    exact ⟨m1 ++ m2, by rw [e2, Array.append_assoc]⟩
  · obtain ⟨m, hn, hl⟩ := I.loc
    refine ⟨m, ns m hn, fun i x v e1 e2 e3 => ?_⟩
    obtain ⟨u, r, l⟩ := hl i x v e1 e2 e3
    refine ⟨u, r, ?_⟩
    rcases l with l | ⟨k, c, e, z⟩
    · exact .inl l
    · exact .inr ⟨k, c, e, cellK x c e _ z⟩
  · obtain ⟨v, z⟩ := I.cell x c e
    exact ⟨v, cellK x c e v z⟩
  · obtain ⟨m, ⟨o, _, _, ho, _⟩, _⟩ := I.loc
    exact free _ o (fun z => (hch _ z).2.1 rfl) ho I.free
  · obtain ⟨v, o, ho, hd⟩ := I.cell x c e
    exact free c o (fun z => (hch c z).2.2.1 x c e rfl) ho (I.freeC x c e)
  · obtain ⟨e, n, ne, nf, d⟩ := I.pin p hp
    have nch : p.1 ∉ ch := fun z => (hch p.1 z).2.2.2 p hp rfl
    exact ⟨keep p.1 p.2 ne nf nch e n, free p.1 p.2 nch e n, ne, nf, d⟩
/-- .. where the frame's own object is kept too -/
theorem Inv.un {t' : Nat} (I : Inv X pins σ H s) (u : Un X.fs [] H H' s.heap h') (hok : HOk X.prog X.w H' h') : Inv X pins σ H' { s with heap := h', toks := t' } := by
  obtain ⟨m, ⟨o, es, ep, ho, r⟩, _⟩ := id I.loc
  obtain ⟨sl, hL⟩ := u.any ho I.free (by simp)
  exact I.step (g' := s.gens) (d' := s.drawn) (ch := []) (fun _ z => nomatch z) (fun b o _ hb _ e n => u.keep b o e n hb (by simp)) (fun b o _ hb _ e n => u.slot b o e n hb (by simp)) (fun b o _ e n => u.free b o e n (by simp)) (fun b o _ e => u.there b o e (by simp)) u.tups u.frzs u.tbls (fun m' hm => by
    obtain ⟨o', es', ep', ho', r'⟩ := hm
    rw [ho] at ho'; cases ho'
    exact ⟨_, es', ep', hL, r'⟩) hok I.bare
/-- behind a call (or a comprehension's block): the slots of this frame may have changed too, the records at ch may have turned -/
theorem Inv.call {g' : Array GenState} {t' : Nat} {d' : Drawn} {ch : List Addr} (I : Inv X pins σ H s) (u : Un (frs X.stack) ch H H' s.heap h') (hok : HOk X.prog X.w H' h') (hg : AllBare g')
    (hch : ∀ b ∈ ch, (b ∈ X.ex ∨ X.s₀.heap.objs.size ≤ b) ∧ b ≠ X.env.locals ∧ (∀ x c, X.env.cells.lookup x = some c → c ≠ b) ∧ ∀ p ∈ X.pn ++ pins, p.1 ≠ b) :
    Inv X pins σ H' { s with heap := h', gens := g', drawn := d', toks := t' } := by
  obtain ⟨m, ⟨o, es, ep, ho, r⟩, _⟩ := id I.loc
  obtain ⟨sl, hL⟩ := u.any ho I.free fun z => (hch _ z).2.1 rfl
  exact I.step (ch := ch) hch (fun b o hL hb hc e n => u.keep b o e n (fun z => (List.mem_cons.mp (I.stkSub b z)).elim hL hb) hc) (fun b o _ _ hc e n => u.any e n hc) (fun b o hc e n => u.free b o e n hc) (fun b o hc e => u.there b o e hc) u.tups u.frzs u.tbls (fun m' hm => by
    obtain ⟨o', es', ep', ho', r'⟩ := hm
    rw [ho] at ho'; cases ho'
    exact ⟨_, es', ep', hL, r'⟩) hok hg
/-- an untracked record of ours (an iterator) has turned -/
theorem Inv.turned {t' : Nat} {it : Addr} (I : Inv X pins σ H s) (k : ∀ b o, b ≠ it → s.heap.get? b = some o → h'.get? b = some o) (hn : H it = none) (hL : it ≠ X.env.locals)
    (h1 : it ∈ X.ex ∨ X.s₀.heap.objs.size ≤ it) (h2 : ∀ x c, X.env.cells.lookup x = some c → c ≠ it) (h3 : ∀ p ∈ X.pn ++ pins, p.1 ≠ it) : Inv X pins σ H { s with heap := h', toks := t' } := by
  have nit : ∀ b u, H b = some u → b ≠ it := fun b u e z => by rw [z, hn] at e; cases e
  refine I.step (g' := s.gens) (d' := s.drawn) (ch := [it]) (fun b hb => ?_) (fun b o _ _ hc e _ => k b o (fun z => hc (by simp [z])) e) (fun b o _ _ hc e _ => ⟨o.slots, k b o (fun z => hc (by simp [z])) e⟩) (fun _ _ _ _ n => n)
    (fun b o hc e => ⟨o, k b o (fun z => hc (by simp [z])) e⟩) (fun _ _ e => e) (fun _ _ _ e => e) (fun b ps e => ⟨#[], by rw [e]; simp⟩) (fun m hm => ?_) (fun b u e => ?_) I.bare
  · have e : b = it := by simpa using hb
    subst e
    exact ⟨h1, hL, h2, h3⟩
  · obtain ⟨o, es, ep, ho, r⟩ := hm
    exact ⟨o, es, ep, k _ o (Ne.symm hL) ho, r⟩
  · refine (I.hok b u e).stay (fun c v hc q => k c v ?_ q) (fun _ q => q) fun _ _ q => q
    rcases hc with z | z
    · rw [z]; exact nit b u e
    · exact nit c _ z
theorem Inv.tok (I : Inv X pins σ H s) (t : Nat) : Inv X pins σ H { s with toks := t } := I.un (h' := s.heap) (t' := t) Un.refl I.hok
/-- all objects kept -/
theorem Inv.kept {t' : Nat} (I : Inv X pins σ H s) (k : ∀ b u, s.heap.get? b = some u → h'.get? b = some u) : Inv X pins σ H { s with heap := h', toks := t' } := I.un (Un.kept k) (I.hok.kept k)
/-- a new object laid and tracked -/
theorem Inv.laid {a : Addr} {o : HO} {t' : Nat} (I : Inv X pins σ H s) (k : ∀ b u, s.heap.get? b = some u → h'.get? b = some u) (hp : s.heap.objs.size ≤ a) (new : ObjOk X.prog X.w (upd H a o) h' a o) :
    Inv X pins σ (upd H a o) { s with heap := h', toks := t' } := I.un (Un.laid k hp (I.hok.fresh hp)) (I.hok.laid k hp new)
/-- an object written -/
theorem Inv.write {x e : Addr} {o : HO} {t' : Nat} (I : Inv X pins σ H s) (mu : Mut (H x)) (he : e = x ∨ H e = some (.own x)) (k : ∀ b u, b ≠ e → s.heap.get? b = some u → h'.get? b = some u) (heo : ∃ u, h'.get? e = some u)
    (new : ObjOk X.prog X.w (upd H x o) h' x o) : Inv X pins σ (upd H x o) { s with heap := h', toks := t' } := I.un (Un.write mu he k heo) (I.hok.write mu he k heo new)
/-- forgetting slots, pins -/
theorem Inv.weak {σ' : List (Option V)} (I : Inv X pins σ H s) (hl : σ'.length = σ.length) (w : ∀ (i : Nat) v, σ'[i]? = some (some v) → σ[i]? = some (some v)) : Inv X pins σ' H s :=
  ⟨I.ok, I.os, I.bare, I.base, let ⟨m, hn, hl'⟩ := I.loc; ⟨m, hn, fun i x v e1 e2 e3 => hl' i x v e1 (w i v e2) e3⟩, I.cell, I.free, I.freeC, I.pin, I.hok, hl.trans I.len⟩
theorem Inv.pins_of {pins' : List (Addr × Obj)} (I : Inv X pins σ H s) (h : ∀ p ∈ pins', s.heap.get? p.1 = some p.2 ∧ H p.1 = none ∧ p.1 ≠ X.env.locals ∧ p.1 ∉ X.fs ∧ ∀ v, p.2.data ≠ .cell v) : Inv X pins' σ H s :=
  ⟨I.ok, I.os, I.bare, I.base, I.loc, I.cell, I.free, I.freeC, fun p hp => (List.mem_append.mp hp).elim (fun z => I.pin p (List.mem_append_left _ z)) (h p), I.hok, I.len⟩

theorem nodup_ix {N : List Str} (hN : N.Nodup) {i j : Nat} {x : Str} (a : N[i]? = some x) (b : N[j]? = some x) : i = j := by
  obtain ⟨h1, e1⟩ := List.getElem?_eq_some_iff.mp a
  obtain ⟨h2, e2⟩ := List.getElem?_eq_some_iff.mp b
  exact (List.getElem_inj hN).mp (e1.trans e2.symm)

/-- a name is stored; what changed -/
theorem store_ok2 {M : Model} {A : Around} {E : Value → Shared → Prop} {i : Nat} {x : Str} {v : V} {u : Value} {Q : Unit → Shared → Prop} (I : Inv X pins σ H s) (hN : X.N.Nodup) (hi : X.N[i]? = some x) (hx : Loc X.env.scope x) (r : RelV v u)
    (h : ∀ s', Inv X pins (σ.set i (some v)) H s' → (∃ a, Heap.SameBut a s.heap s'.heap ∧ (a = X.env.locals ∨ X.env.cells.lookup x = some a)) → Q () s') (hf : X.fn x = true ∨ X.env.scope.names.lookup x = some .local := by first | exact .inl rfl | exact .inr rfl | assumption) : wpAny M A (storeName X.env x u) Q E s := by
  obtain ⟨m, hn, hl⟩ := id I.loc
  have hcls : (X.env.scope.kind == .class || (X.env.scope.kind == .module && X.env.locals != X.env.globals)) = false := by rw [I.ok.kind]; rfl
  have hiσ : i < σ.length := by rw [I.len]; exact (List.getElem?_eq_some_iff.mp hi).1
  have cne := I.cne
  have tracked : ∀ {a : Addr} {h' : Heap}, (∃ o, s.heap.get? a = some o ∧ H a = none) → Heap.SameBut a s.heap h' → HOk X.prog X.w H h' := fun {a h'} ha hs b ob e => by
    obtain ⟨_, _, hfree⟩ := ha
    refine (I.hok b ob e).stay (fun c w' hc q => (hs.2 c ?_).trans q) (fun _ q => q) fun _ _ q => q
    rintro rfl
    rcases hc with rfl | hc
    · rw [hfree] at e; cases e
    · rw [hfree] at hc; cases hc
  rcases hx with hk | hk
  · refine wpAny_storeName_local hk hn (fun h' hn' hs => ?_) hcls
    obtain ⟨oL, _, _, hoL, _⟩ := id hn
    refine h _ ⟨I.ok, I.os, I.bare, ⟨fun b o e n hb hx => ?_, fun b o e n hb hx => ?_, I.base.free, fun b o e hx => ?_, I.base.tups, I.base.frzs, I.base.tbls⟩, ⟨_, hn', fun j y v' e1 e2 e3 => ?_⟩, fun y c e => ?_, I.free, I.freeC, fun p hp => ?_, tracked ⟨oL, hoL, I.free⟩ hs, by simpa using I.len⟩ ⟨_, hs, .inl rfl⟩
    · exact (hs.2 b (Nat.ne_of_lt (Nat.lt_of_lt_of_le (Heap.lt_size e) I.ok.above))).trans (I.base.keep b o e n hb hx)
    · obtain ⟨sl, e1⟩ := I.base.slot b o e n hb hx
      exact ⟨sl, (hs.2 b (Nat.ne_of_lt (Nat.lt_of_lt_of_le (Heap.lt_size e) I.ok.above))).trans e1⟩
    · obtain ⟨o', e1⟩ := I.base.there b o e hx
      exact ⟨o', (hs.2 b (Nat.ne_of_lt (Nat.lt_of_lt_of_le (Heap.lt_size e) I.ok.above))).trans e1⟩
    · by_cases hj : j = i
      · subst hj
        rw [hi] at e1; cases e1
        rw [List.getElem?_set_self hiσ] at e2
        cases e2
        exact ⟨u, r, .inl ⟨hk, by simp⟩⟩
      · rw [List.getElem?_set_ne (Ne.symm hj)] at e2
        obtain ⟨u', r', q⟩ := hl j y v' e1 e2 e3
        refine ⟨u', r', ?_⟩
        rcases q with ⟨k, e⟩ | ⟨k, c, e, z⟩
        · refine .inl ⟨k, ?_⟩
          have : y ≠ x := fun e => hj (nodup_ix hN e1 (e ▸ hi))
          simp [this, e]
        · exact .inr ⟨k, c, e, z.sameBut hs (cne y c e)⟩
    · obtain ⟨w', z⟩ := I.cell y c e
      exact ⟨w', z.sameBut hs (cne y c e)⟩
    · obtain ⟨e, n, ne, nf, d⟩ := I.pin p hp
      exact ⟨(hs.2 p.1 ne).trans e, n, ne, nf, d⟩
  · have hfn : X.fn x = true := by
      rcases hf with z | z
      · exact z
      · rw [z] at hk; cases hk
    obtain ⟨c, hc⟩ := I.ok.has x (.inl hk)
    obtain ⟨w', z⟩ := I.cell x c hc
    refine wpAny_storeName_cell I.ok.kind hk hc z (fun h' hc' hs => ?_)
    obtain ⟨oc, hoc, hocd⟩ := id z
    refine h { s with heap := h' } ⟨I.ok, I.os, I.bare, ⟨fun b o e n hb hx => ?_, fun b o e n hb hx => ?_, I.base.free, fun b o e hx => ?_, I.base.tups, I.base.frzs, I.base.tbls⟩, ⟨m, hn.sameBut hs (Ne.symm (cne x c hc)), fun j y v' e1 e2 e3 => ?_⟩, fun y c' e => ?_, I.free, I.freeC, fun p hp => ?_, tracked ⟨oc, hoc, I.freeC x c hc⟩ hs, by simpa using I.len⟩ ⟨c, hs, .inr hc⟩
    · exact (hs.2 b (Nat.ne_of_lt (Nat.lt_of_lt_of_le (Heap.lt_size e) (I.ok.cab x c hfn hc)))).trans (I.base.keep b o e n hb hx)
    · obtain ⟨sl, e1⟩ := I.base.slot b o e n hb hx
      exact ⟨sl, (hs.2 b (Nat.ne_of_lt (Nat.lt_of_lt_of_le (Heap.lt_size e) (I.ok.cab x c hfn hc)))).trans e1⟩
    · obtain ⟨o', e1⟩ := I.base.there b o e hx
      exact ⟨o', (hs.2 b (Nat.ne_of_lt (Nat.lt_of_lt_of_le (Heap.lt_size e) (I.ok.cab x c hfn hc)))).trans e1⟩
    · by_cases hj : j = i
      · subst hj
        rw [hi] at e1; cases e1
        rw [List.getElem?_set_self hiσ] at e2
        cases e2
        exact ⟨u, r, .inr ⟨.inl hk, c, hc, hc'⟩⟩
      · rw [List.getElem?_set_ne (Ne.symm hj)] at e2
        obtain ⟨u', r', q⟩ := hl j y v' e1 e2 e3
        refine ⟨u', r', ?_⟩
        rcases q with q | ⟨k, c', e, z'⟩
        · exact .inl q
        · refine .inr ⟨k, c', e, z'.sameBut hs ?_⟩
          rintro rfl
          exact hj (nodup_ix hN e1 (I.ok.inj _ _ _ e hc ▸ hi))
    · by_cases hcc : c' = c
      · subst hcc; exact ⟨_, hc'⟩
      · obtain ⟨w2, z2⟩ := I.cell y c' e
        exact ⟨w2, z2.sameBut hs hcc⟩
    · obtain ⟨e, n, ne, nf, d⟩ := I.pin p hp
      refine ⟨(hs.2 p.1 ?_).trans e, n, ne, nf, d⟩
      intro q
      rw [q, hoc] at e
      have q' : oc = p.2 := Option.some.inj e
      exact d w' (by rw [← q']; exact hocd)
theorem store_ok {M : Model} {A : Around} {E : Value → Shared → Prop} {i : Nat} {x : Str} {v : V} {u : Value} {Q : Unit → Shared → Prop} (I : Inv X pins σ H s) (hN : X.N.Nodup) (hi : X.N[i]? = some x) (hx : Loc X.env.scope x) (r : RelV v u)
    (h : ∀ s', Inv X pins (σ.set i (some v)) H s' → Q () s') (hf : X.fn x = true ∨ X.env.scope.names.lookup x = some .local := by first | exact .inl rfl | exact .inr rfl | assumption) : wpAny M A (storeName X.env x u) Q E s :=
  store_ok2 I hN hi hx r (fun s' I' _ => h s' I') hf
/-- behind a call or a block, the state as it is -/
theorem Inv.call' {s' : Shared} {ch : List Addr} (I : Inv X pins σ H s) (ho : s'.os = s.os) (u : Un (frs X.stack) ch H H' s.heap s'.heap) (hok : HOk X.prog X.w H' s'.heap) (hg : AllBare s'.gens)
    (hch : ∀ b ∈ ch, (b ∈ X.ex ∨ X.s₀.heap.objs.size ≤ b) ∧ b ≠ X.env.locals ∧ (∀ x c, X.env.cells.lookup x = some c → c ≠ b) ∧ ∀ p ∈ X.pn ++ pins, p.1 ≠ b) : Inv X pins σ H' s' := by
  obtain ⟨h', g', d', t', o'⟩ := s'
  have e : o' = s.os := ho
  subst e
  exact I.call (g' := g') (t' := t') (d' := d') u hok hg hch
end

/-! ### the judgements -/
/-- an exception: its class, its own dict's address (where it has one), the abstract heap behind it -/
abbrev XK := Value → Option Addr → Hp → Prop
abbrev St := List (Option V)
abbrev VK := V → Hp → Prop
/-- an expression's reading; a test's; an argument list's -/
abbrev TE := St → Hp → VK → Prop
abbrev TT := St → Hp → (Bool → Hp → Prop) → Prop
abbrev TA := St → Hp → (List V → Hp → Prop) → Prop
/-- what is wanted behind a statement -/
structure Ends where
  nx : St → Hp → Prop
  rt : VK
  bk : St → Hp → Prop := fun _ _ => False
  ct : St → Hp → Prop := fun _ _ => False
abbrev TS := Ends → St → Hp → Prop

def EP (X : Cx) (pins : List (Addr × Obj)) (σ : St) (Q : VK) (u : Value) (s' : Shared) : Prop := ∃ v H', Inv X pins σ H' s' ∧ RelV v u ∧ Q v H'
def TP (X : Cx) (pins : List (Addr × Obj)) (σ : St) (Q : Bool → Hp → Prop) (b : Bool) (s' : Shared) : Prop := ∃ H', Inv X pins σ H' s' ∧ Q b H'
def AP (X : Cx) (pins : List (Addr × Obj)) (σ : St) (Q : List V → Hp → Prop) (us : List Value) (s' : Shared) : Prop := ∃ vs H', Inv X pins σ H' s' ∧ Vals vs us ∧ Q vs H'
def SP (X : Cx) (pins : List (Addr × Obj)) (D : Ends) (f : Flow) (s' : Shared) : Prop :=
  match f with
  | .next => ∃ σ' H', Inv X pins σ' H' s' ∧ D.nx σ' H'
  | .brk => ∃ σ' H', Inv X pins σ' H' s' ∧ D.bk σ' H'
  | .cont => ∃ σ' H', Inv X pins σ' H' s' ∧ D.ct σ' H'
  | .ret u => ∃ v σ' H', Inv X pins σ' H' s' ∧ RelV v u ∧ D.rt v H'

def PE (X : Cx) (e : Expr) (t : TE) : Prop :=
  ∀ (pins : List (Addr × Obj)) (s : Shared) (σ : St) (H : Hp) (Q : VK), Inv X pins σ H s → t σ H Q → wpAny (model X.prog X.w) X.A (eval e X.env) (EP X pins σ Q) X.xe s
def PT (X : Cx) (e : Expr) (t : TT) : Prop :=
  ∀ (pins : List (Addr × Obj)) (s : Shared) (σ : St) (H : Hp) (Q : Bool → Hp → Prop), Inv X pins σ H s → t σ H Q → wpAny (model X.prog X.w) X.A (isTrue e X.env (eval e X.env)) (TP X pins σ Q) X.xe s
/-- a test whatever its 'whole' is (and, or) -/
def PW (X : Cx) (e : Expr) (t : TT) : Prop :=
  ∀ (whole : Sem Value) (pins : List (Addr × Obj)) (s : Shared) (σ : St) (H : Hp) (Q : Bool → Hp → Prop), Inv X pins σ H s → t σ H Q → wpAny (model X.prog X.w) X.A (isTrue e X.env whole) (TP X pins σ Q) X.xe s
theorem PW.pt {X : Cx} {e : Expr} {t : TT} (h : PW X e t) : PT X e t := h _
/-- an argument list (no star), from the left -/
def PA (X : Cx) (es : List Expr) (t : TA) : Prop :=
  ∀ (pos : Pos) (pins : List (Addr × Obj)) (s : Shared) (σ : St) (H : Hp) (Q : List V → Hp → Prop), Inv X pins σ H s → t σ H Q → wpAny (model X.prog X.w) X.A (spliced (backTo pos (starEach es X.env))) (AP X pins σ Q) X.xe s
def PS (X : Cx) (st : Stmt) (t : TS) : Prop :=
  ∀ (pins : List (Addr × Obj)) (s : Shared) (σ : St) (H : Hp) (D : Ends), Inv X pins σ H s → t D σ H → wpAny (model X.prog X.w) X.A (exec st X.env) (SP X pins D) X.xe s
def PSs (X : Cx) (st : List Stmt) (t : TS) : Prop :=
  ∀ (pins : List (Addr × Obj)) (s : Shared) (σ : St) (H : Hp) (D : Ends), Inv X pins σ H s → t D σ H → wpAny (model X.prog X.w) X.A (execs st X.env) (SP X pins D) X.xe s
/-- weaken the end -/
theorem thn {α : Type} {t : Sem α} {Q Q' : α → Shared → Prop} {M : Model} {A : Around} {E : Value → Shared → Prop} {s : Shared} (h : wpAny M A t Q E s) (hQ : ∀ a s, Q a s → Q' a s) : wpAny M A t Q' E s := wpAny_mono h hQ fun _ _ x => x
end L2

namespace L2
open PySem PySem.Spec PyProof.Rows
section
variable {X : Cx}

/-- two expressions in a row -/
theorem bin {a b : Expr} {ta tb : TE} (ha : PE X a ta) (hb : PE X b tb) {pins : List (Addr × Obj)} {s : Shared} {σ : St} {H : Hp} {R : V → V → Hp → Prop} (I : Inv X pins σ H s) (h : ta σ H fun x H1 => tb σ H1 fun y H2 => R x y H2)
    {α : Type} {Q : α → Shared → Prop} {f : Value → Value → Sem α}
    (hf : ∀ v u s2 x y H2, Inv X pins σ H2 s2 → RelV x v → RelV y u → R x y H2 → wpAny (model X.prog X.w) X.A (f v u) Q X.xe s2) :
    wpAny (model X.prog X.w) X.A (eval a X.env) (fun v s₁ => wpAny (model X.prog X.w) X.A (eval b X.env) (fun u s₂ => wpAny (model X.prog X.w) X.A (f v u) Q X.xe s₂) X.xe s₁) X.xe s := by
  refine thn (ha pins s σ H _ I h) fun v s1 ⟨x, H1, I1, r1, q1⟩ => ?_
  refine thn (hb pins s1 σ H1 _ I1 q1) fun u s2 ⟨y, H2, I2, r2, q2⟩ => ?_
  exact hf v u s2 x y H2 I2 r1 r2 q2

/-! ### names and constants -/
def tVar (i : Nat) : TE := fun σ H Q => ∃ v, σ[i]? = some (some v) ∧ Q v H
def tC (v : V) : TE := fun _ H Q => Q v H
theorem pe_var {i : Nat} {x : Str} {pos : Pos} (hN : X.N[i]? = some x) (hv : Vis X.env.scope x) (hd : (x == ("__debug__" : Str)) = false := by decide) (hcd : (x == ("__classdict__" : Str)) = false := by decide) : PE X (.Name x pos) (tVar i) := by
  intro pins s σ H Q I h
  obtain ⟨v, e, h⟩ := h
  obtain ⟨m, hn, hl⟩ := I.loc
  obtain ⟨u, r, l⟩ := hl i x v hN e hv
  have fin : EP X pins σ Q u s := ⟨v, H, I, r, h⟩
  rcases l with ⟨hk, hm⟩ | ⟨hk, c, hc, hcell⟩
  · exact wpAny_Name (wpAny_loadName_local I.ok.kind hk hn hm fin) hd
  · rcases hk with hk | hk
    · exact wpAny_Name (wpAny_loadName_cell I.ok.kind hk hc hcell fin) hd
    · exact wpAny_Name (wpAny_loadName_free I.ok.kind hk hc hcell fin hcd) hd
theorem pe_int {i j pos} : PE X (.Constant (.int i) j pos) (tC (.int i)) := fun _ _ _ H _ I h => wpAny_Constant_int ⟨.int i, H, I.tok _, ⟨_, rfl⟩, h⟩
theorem pe_bl {b j pos} : PE X (.Constant (.bool b) j pos) (tC (.bl b)) := fun _ _ _ H _ I h => Constant_bool ⟨.bl b, H, I, rfl, h⟩
theorem pe_non {j pos} : PE X (.Constant .none j pos) (tC .non) := fun _ _ _ H _ I h => Constant_none ⟨.non, H, I, rfl, h⟩
theorem pe_str {x j pos} : PE X (.Constant (.str x) j pos) (tC (.str x)) := fun _ _ _ H _ I h => Calls.Constant_str ⟨.str x, H, I.tok _, ⟨_, rfl⟩, h⟩

/-- a global name of the def -/
def Gl (X : Cx) (x : Str) : Prop := X.env.kindOf x = some .globalImplicit
theorem ld_glob {E : Value → Shared → Prop} {pins : List (Addr × Obj)} {s : Shared} {σ : St} {H : Hp} {x : Str} {u : Value} {pos : Pos} {Q : Value → Shared → Prop} (I : Inv X pins σ H s) (hg : Gl X x) (hm : X.mg x = some u) (h : Q u s)
    (hd : (x == ("__debug__" : Str)) = false := by decide) : wpAny (model X.prog X.w) X.A (eval (.Name x pos) X.env) Q E s :=
  Calls.Name_function_global I.ok.kind hg (Calls.loadGlobal_global (by rw [I.ok.glob]; exact I.mod.glob.keeps I.bk) hm h) hd
theorem ld_blt {E : Value → Shared → Prop} {pins : List (Addr × Obj)} {s : Shared} {σ : St} {H : Hp} {x : Str} {u : Value} {pos : Pos} {Q : Value → Shared → Prop} (I : Inv X pins σ H s) (hg : Gl X x) (hm : X.mg x = none) (hv : bootBuiltins x = some u) (h : Q u s)
    (hn : x ≠ "__name__" := by decide) (hd : (x == ("__debug__" : Str)) = false := by decide) : wpAny (model X.prog X.w) X.A (eval (.Name x pos) X.env) Q E s := by
  obtain ⟨mb, h1, h2⟩ := I.mod.blt
  exact Calls.Name_function_global I.ok.kind hg (Calls.loadGlobal_builtin (by rw [I.ok.glob]; exact I.mod.glob.keeps I.bk) hm (by rw [I.ok.blt]; exact h1.keeps I.bk) ((h2 x hn).trans hv) h) hd
/-- a module's constant, a class, a function, as a value -/
theorem pe_glob {x : Str} {v : V} {u : Value} {pos : Pos} (hg : Gl X x) (hm : X.mg x = some u) (r : RelV v u) (hd : (x == ("__debug__" : Str)) = false := by decide) : PE X (.Name x pos) (tC v) :=
  fun _ _ _ H _ I h => ld_glob I hg hm ⟨v, H, I, r, h⟩ hd
theorem pe_bltn {x : Str} {v : V} {u : Value} {pos : Pos} (hg : Gl X x) (hm : X.mg x = none) (hv : bootBuiltins x = some u) (r : RelV v u) (hn : x ≠ "__name__" := by decide) (hd : (x == ("__debug__" : Str)) = false := by decide) : PE X (.Name x pos) (tC v) :=
  fun _ _ _ H _ I h => ld_blt I hg hm hv ⟨v, H, I, r, h⟩ hn hd

/-! ### arithmetic -/
/-- two ints -/
def t2I (ta tb : TE) (k : Int → Int → Hp → Prop) : St → Hp → Prop := fun σ H => ta σ H fun x H1 => tb σ H1 fun y H2 => ∃ i j, x = .int i ∧ y = .int j ∧ k i j H2
def tAdd (ta tb : TE) : TE := fun σ H Q => t2I ta tb (fun i j H2 => Q (.int (i + j)) H2) σ H
def tSub (ta tb : TE) : TE := fun σ H Q => t2I ta tb (fun i j H2 => Q (.int (i - j)) H2) σ H
/-- the left factor below 2^64 -/
def tMul (ta tb : TE) : TE := fun σ H Q => t2I ta tb (fun i j H2 => (-(2 ^ 64) < i ∧ i < 2 ^ 64) ∧ Q (.int (i * j)) H2) σ H
variable {a b : Expr} {ta tb : TE} {pos : Pos}
/-! ### comparisons -/
def PC (X : Cx) (op : CmpOp) (a b : Expr) (t : TE) : Prop :=
  ∀ (pins : List (Addr × Obj)) (s : Shared) (σ : St) (H : Hp) (Q : VK), Inv X pins σ H s → t σ H Q →
    wpAny (model X.prog X.w) X.A (eval a X.env) (fun v s₁ => wpAny (model X.prog X.w) X.A (eval b X.env) (fun u s₂ => wpAny (model X.prog X.w) X.A (compareOp op v u) (EP X pins σ Q) X.xe s₂) X.xe s₁) X.xe s
def tCmp (p : Int → Int → Bool) (ta tb : TE) : TE := fun σ H Q => t2I ta tb (fun i j H2 => Q (.bl (p i j)) H2) σ H
abbrev tLt : TE → TE → TE := tCmp fun i j => decide (i < j)
abbrev tLe : TE → TE → TE := tCmp fun i j => decide (i ≤ j)
abbrev tGt : TE → TE → TE := tCmp fun i j => decide (j < i)
abbrev tGe : TE → TE → TE := tCmp fun i j => decide (j ≤ i)
abbrev tEqI : TE → TE → TE := tCmp fun i j => decide (i = j)
abbrev tNeI : TE → TE → TE := tCmp fun i j => !decide (i = j)
/-- is None -/
def tIsN (ta : TE) : TE := fun σ H Q => ta σ H fun x H1 => Q (.bl (decide (x = .non))) H1
def tNotN (ta : TE) : TE := fun σ H Q => ta σ H fun x H1 => Q (.bl (!decide (x = .non))) H1
/-- a comparison as a value, as a test -/
def tB (t : TE) : TT := fun σ H Q => t σ H fun x H1 => ∃ c, x = .bl c ∧ Q c H1
theorem pt_cmp {op : CmpOp} {t : TE} (h : PC X op a b t) (h1 : behindInMarks op b = false := by first | exact nobehind _ (by decide) (by decide) | rfl) : PT X (.Compare a [op] [b] pos) (tB t) := by
  intro pins s σ H Q I hw
  refine wpAny_isTrue_Compare1 (thn (h pins s σ H _ I hw) fun v s1 h1 => thn h1 fun u s2 h2 => thn h2 fun c s3 ⟨x, H1, I1, r1, q1⟩ => ?_) h1
  obtain ⟨d, rfl, q⟩ := q1
  cases r1
  exact wpAny_truthy_bool ⟨H1, I1, q⟩
/-- an expression whose value is a bool, as a test -/
theorem pt_val {e : Expr} {t : TE} (h : PE X e t) (he : ∀ whole, isTrue e X.env whole = (do let v ← whole; standAt e.pos; holding [v] (truthy v)) := by intro _; rfl) : PT X e (tB t) := by
  intro pins s σ H Q I hw
  refine isTrue_plain (thn (h pins s σ H _ I hw) fun v s1 ⟨x, H1, I1, r1, q1⟩ => ?_) (he _)
  obtain ⟨d, rfl, q⟩ := q1
  cases r1
  exact wpAny_truthy_bool ⟨H1, I1, q⟩

/-! ### and, or, not -/
variable {tA tB' : TT} {rest : List Expr}
def tAnd (t u : TT) : TT := fun σ H Q => t σ H fun c H1 => if c = true then u σ H1 Q else Q false H1
def tOr (t u : TT) : TT := fun σ H Q => t σ H fun c H1 => if c = true then Q true H1 else u σ H1 Q
def tNot (t : TT) : TT := fun σ H Q => t σ H fun c H1 => Q (!c) H1
theorem pw_and1 (ha : PT X a tA) : PW X (.BoolOp .And [a] pos) tA := by
  intro wh pins s σ H Q I h
  refine isTrue_and (thn (ha pins s σ H Q I h) fun c s1 e => ?_)
  cases c with
  | true => exact isTrue_and_nil e
  | false => exact e
theorem pw_or1 (ha : PT X a tA) : PW X (.BoolOp .Or [a] pos) tA := by
  intro wh pins s σ H Q I h
  refine isTrue_or (thn (ha pins s σ H Q I h) fun c s1 e => ?_)
  cases c with
  | false => exact isTrue_or_nil e
  | true => exact e
theorem pw_and (ha : PT X a tA) (hb : PW X (.BoolOp .And (b :: rest) pos) tB') : PW X (.BoolOp .And (a :: b :: rest) pos) (tAnd tA tB') := by
  intro wh pins s σ H Q I h
  refine isTrue_and (thn (ha pins s σ H _ I h) fun c s1 ⟨H1, I1, q1⟩ => ?_)
  cases c with
  | true => exact hb wh pins s1 σ H1 Q I1 q1
  | false => exact ⟨H1, I1, q1⟩
theorem pw_or (ha : PT X a tA) (hb : PW X (.BoolOp .Or (b :: rest) pos) tB') : PW X (.BoolOp .Or (a :: b :: rest) pos) (tOr tA tB') := by
  intro wh pins s σ H Q I h
  refine isTrue_or (thn (ha pins s σ H _ I h) fun c s1 ⟨H1, I1, q1⟩ => ?_)
  cases c with
  | true => exact ⟨H1, I1, q1⟩
  | false => exact hb wh pins s1 σ H1 Q I1 q1
theorem pt_not (ha : PT X a tA) : PT X (.UnaryOp .Not a pos) (tNot tA) := by
  intro pins s σ H Q I h
  exact isTrue_not (ha pins s σ H (fun c H1 => Q (!c) H1) I h)
/-- .. as values (bools) -/
def tAndV (ta tb : TE) : TE := fun σ H Q => ta σ H fun x H1 => ∃ c, x = .bl c ∧ if c = true then tb σ H1 Q else Q (.bl false) H1
def tOrV (ta tb : TE) : TE := fun σ H Q => ta σ H fun x H1 => ∃ c, x = .bl c ∧ if c = true then Q (.bl true) H1 else tb σ H1 Q
def tNotV (ta : TE) : TE := fun σ H Q => ta σ H fun x H1 => ∃ c, x = .bl c ∧ Q (.bl (!c)) H1
theorem pe_one {op} {t : TE} (h : PE X a t) : PE X (.BoolOp op [a] pos) t := fun pins s σ H Q I hw => BoolOp_one (h pins s σ H Q I hw)
theorem pe_and (ha : PE X a ta) (hb : PE X (.BoolOp .And (b :: rest) pos) tb) : PE X (.BoolOp .And (a :: b :: rest) pos) (tAndV ta tb) := by
  intro pins s σ H Q I h
  refine BoolOp_and (thn (ha pins s σ H _ I h) fun v s1 ⟨x, H1, I1, r1, q1⟩ => ?_)
  obtain ⟨c, rfl, q1⟩ := q1
  cases r1
  refine wpAny_truthy_bool ?_
  cases c with
  | true => exact hb pins s1 σ H1 Q I1 q1
  | false => exact ⟨.bl false, H1, I1, rfl, q1⟩
theorem pe_not (ha : PE X a ta) : PE X (.UnaryOp .Not a pos) (tNotV ta) := by
  intro pins s σ H Q I h
  refine UnaryOp_ (thn (ha pins s σ H _ I h) fun v s1 ⟨x, H1, I1, r1, q1⟩ => ?_)
  obtain ⟨c, rfl, q1⟩ := q1
  cases r1
  exact not_of (wpAny_truthy_bool ⟨.bl (!c), H1, I1, rfl, q1⟩)
/-- a if t else b -/
def tIf (t : TT) (ta tb : TE) : TE := fun σ H Q => t σ H fun c H1 => if c = true then ta σ H1 Q else tb σ H1 Q
end
end L2

namespace L2
open PySem PySem.Spec PyProof.Rows

/-! ### a list, a tuple that is read: tracked, frozen, or an object of the module -/
def SqL (K : PySem.W.Frag) (H : Hp) (a : Addr) (xs : List V) : Prop :=
  Rd H a (.lst xs) ∨
    ∃ (o : Obj) (its : Array Value) (n : Nat), K.lookup a = some o ∧ o.cls = .type "list" ∧ o.dict = none ∧ o.data = .seq its n ∧ its.size ≤ sizeLine ∧ Vals xs its.toList
def SqT (K : PySem.W.Frag) (H : Hp) (a : Addr) (xs : List V) : Prop :=
  Rd H a (.tup xs) ∨
    ∃ (o : Obj) (its : Array Value) (n : Nat), K.lookup a = some o ∧ o.cls = .type "tuple" ∧ o.data = .seq its n ∧ its.size ≤ sizeLine ∧ Vals xs its.toList
def absV : Value → Option V
  | .none => some .non
  | .bool b => some (.bl b)
  | .int i _ => some (.int i)
  | .str x _ => some (.str x)
  | .bytes b _ => some (.byt b)
  | .float b _ => some (.flt b)
  | .ref a => some (.ref a)
  | .type n => some (.ty n)
  | _ => none
theorem RelV.abs {x : V} {u : Value} (r : RelV x u) : absV u = some x := by
  cases x with
  | non => cases r; rfl
  | bl _ => cases r; rfl
  | int _ => obtain ⟨t, rfl⟩ := r; rfl
  | str _ => obtain ⟨t, rfl⟩ := r; rfl
  | byt _ => obtain ⟨t, rfl⟩ := r; rfl
  | flt _ => obtain ⟨t, rfl⟩ := r; rfl
  | ref _ => cases r; rfl
  | ty _ => cases r; rfl
theorem RelV.inj {x y : V} {u : Value} (r : RelV x u) (q : RelV y u) : x = y := Option.some.inj (r.abs.symm.trans q.abs)
theorem Vals.inj : ∀ {xs ys : List V} {us : List Value}, Vals xs us → Vals ys us → xs = ys
  | _, _, _, .nil, .nil => rfl
  | _, _, _, .cons r t, .cons r' t' => by rw [r.inj r', Vals.inj t t']
section
variable {X : Cx} {pins : List (Addr × Obj)} {σ : St} {H : Hp} {s : Shared} {a : Addr} {xs ys : List V}
theorem SqL.of {K : PySem.W.Frag} (h : H a = some (.lst xs)) : SqL K H a xs := .inl (.inl h)
theorem SqT.of {K : PySem.W.Frag} (h : H a = some (.tup xs)) : SqT K H a xs := .inl (.inl h)
theorem Inv.list (I : Inv X pins σ H s) (h : SqL X.K H a xs) : ∃ its : List Value, Vals xs its ∧ PlainL s.heap a its.toArray ∧ xs.length ≤ sizeLine := by
  rcases h with h | ⟨o, its, n, hk, hc, hd, hs, hz, r⟩
  · obtain ⟨z, its, n, r, e⟩ := h.ok I.hok
    exact ⟨its, r, ⟨_, n, e, rfl, rfl, rfl⟩, z⟩
  · refine ⟨its.toList, r, ⟨o, n, I.kIn a o hk, hc, hd, by simpa using hs⟩, ?_⟩
    have e := r.length
    simp only [Array.length_toList] at e
    omega
theorem Inv.tuple (I : Inv X pins σ H s) (h : SqT X.K H a xs) : ∃ its : List Value, Vals xs its ∧ IsTup s.heap a its.toArray ∧ xs.length ≤ sizeLine := by
  rcases h with h | ⟨o, its, n, hk, hc, hs, hz, r⟩
  · obtain ⟨z, its, r, p⟩ := h.ok I.hok
    exact ⟨its, r, p, z⟩
  · refine ⟨its.toList, r, ⟨o, I.kIn a o hk, hc, n, by simpa using hs⟩, ?_⟩
    have e := r.length
    simp only [Array.length_toList] at e
    omega
theorem Inv.list_inj (I : Inv X pins σ H s) (h : SqL X.K H a xs) (h' : SqL X.K H a ys) : xs = ys := by
  obtain ⟨its, r, ⟨o, n, e, _, _, d⟩, _⟩ := I.list h
  obtain ⟨its', r', ⟨o', n', e', _, _, d'⟩, _⟩ := I.list h'
  rw [e] at e'; cases e'
  rw [d] at d'
  injection d' with d1 _
  have : its = its' := by simpa using congrArg Array.toList d1
  subst this
  exact r.inj r'
theorem Inv.tuple_inj (I : Inv X pins σ H s) (h : SqT X.K H a xs) (h' : SqT X.K H a ys) : xs = ys := by
  obtain ⟨its, r, ⟨o, e, _, n, d⟩, _⟩ := I.tuple h
  obtain ⟨its', r', ⟨o', e', _, n', d'⟩, _⟩ := I.tuple h'
  rw [e] at e'; cases e'
  rw [d] at d'
  injection d' with d1 _
  have : its = its' := by simpa using congrArg Array.toList d1
  subst this
  exact r.inj r'
end

/-! ### another wish about exceptions -/
abbrev Cx.wish (X : Cx) (E : Value → Shared → Prop) : Cx := { X with xe := E }
/-- no exception leaves -/
abbrev Cx.nox (X : Cx) : Cx := X.wish fun _ _ => False
theorem Cx.Ok.wish {X : Cx} (ok : X.Ok) (E : Value → Shared → Prop) : (X.wish E).Ok :=
  ⟨ok.mod, ok.kind, ok.glob, ok.blt, ok.above, ok.inj, ok.has, ok.cab, ok.hd, ok.frames, ok.stk, ok.exf, ok.bs, ok.bsz, ok.noex, ok.exfs, ok.funs, ok.frf⟩
theorem Cx.Ok.unwish {X : Cx} {E : Value → Shared → Prop} (ok : (X.wish E).Ok) : X.Ok :=
  ⟨ok.mod, ok.kind, ok.glob, ok.blt, ok.above, ok.inj, ok.has, ok.cab, ok.hd, ok.frames, ok.stk, ok.exf, ok.bs, ok.bsz, ok.noex, ok.exfs, ok.funs, ok.frf⟩
section
variable {X : Cx} {pins : List (Addr × Obj)} {σ : St} {H : Hp} {s : Shared} {E : Value → Shared → Prop}
theorem Inv.wish (I : Inv X pins σ H s) (E : Value → Shared → Prop) : Inv (X.wish E) pins σ H s := ⟨I.ok.wish E, I.os, I.bare, I.base, I.loc, I.cell, I.free, I.freeC, I.pin, I.hok, I.len⟩
theorem Inv.unwish (I : Inv (X.wish E) pins σ H s) : Inv X pins σ H s := ⟨I.ok.unwish, I.os, I.bare, I.base, I.loc, I.cell, I.free, I.freeC, I.pin, I.hok, I.len⟩
theorem SP.unwish {D : Ends} {f : Flow} {s' : Shared} (h : SP (X.wish E) pins D f s') : SP X pins D f s' := by
  cases f with
  | next => obtain ⟨σ', H', I, q⟩ := h; exact ⟨σ', H', I.unwish, q⟩
  | brk => obtain ⟨σ', H', I, q⟩ := h; exact ⟨σ', H', I.unwish, q⟩
  | cont => obtain ⟨σ', H', I, q⟩ := h; exact ⟨σ', H', I.unwish, q⟩
  | ret u => obtain ⟨v, σ', H', I, r, q⟩ := h; exact ⟨v, σ', H', I.unwish, r, q⟩
theorem PSs.nox {st : List Stmt} {t : TS} (h : PSs X.nox st t) : PSs X st t := fun pins s σ H D I hw =>
  wpAny_mono (h pins s σ H D (I.wish _) hw) (fun _ _ q => q.unwish) fun _ _ z => False.elim z
end

/-! ### blocks and small statements -/
section
variable {X : Cx} {st : Stmt} {rest : List Stmt} {t u : TS} {e : Expr} {te : TE} {pos : Pos}
def tNext : TS := fun D σ H => D.nx σ H
def tSeq (t u : TS) : TS := fun D σ H => t { D with nx := u D } σ H
theorem pss_nil : PSs X [] tNext := fun _ _ σ H _ I h => wpAny_execs_nil ⟨σ, H, I, h⟩
theorem pss_cons (h1 : PS X st t) (h2 : PSs X rest u) : PSs X (st :: rest) (tSeq t u) := by
  intro pins s σ H D I h
  refine wpAny_execs_cons (thn (h1 pins s σ H { D with nx := u D } I h) fun f s1 q => ?_)
  cases f with
  | next =>
    obtain ⟨σ', H', I', q⟩ := q
    exact h2 pins s1 σ' H' D I' q
  | ret v => exact q
  | brk => exact q
  | cont => exact q
theorem pss_one (h1 : PS X st t) : PSs X [st] t := by
  intro pins s σ H D I h
  refine wpAny_execs_cons (thn (h1 pins s σ H D I h) fun f s1 q => ?_)
  cases f with
  | next => exact wpAny_execs_nil q
  | ret v => exact q
  | brk => exact q
  | cont => exact q
def tBreak : TS := fun D σ H => D.bk σ H
def tCont : TS := fun D σ H => D.ct σ H
/-- in a def's body nothing is shown -/
theorem Inv.quiet {pins : List (Addr × Obj)} {σ : St} {H : Hp} {s : Shared} (I : Inv X pins σ H s) : interactive X.env = false := by simp [interactive, I.ok.kind]
/-- an expression whose value is dropped -/
def tDrop (te : TE) : TS := fun D σ H => te σ H fun _ H1 => D.nx σ H1
theorem ps_expr (he : PE X e te) (hs : swapsWith e none pos.line X.env = pure false := by rfl) : PS X (.Expr e pos) (tDrop te) := by
  intro pins s σ H D I h
  exact wpAny_Expr_any (thn (he pins s σ H _ I h) fun v s1 ⟨x, H1, I1, r1, q1⟩ => ⟨σ, H1, I1, q1⟩) I.quiet hs
def tRet (te : TE) : TS := fun D σ H => te σ H D.rt
theorem ps_ret (he : PE X e te) : PS X (.Return (some e) pos) (tRet te) := by
  intro pins s σ H D I h
  exact wpAny_Return_some (thn (he pins s σ H _ I h) fun v s1 ⟨x, H1, I1, r1, q1⟩ => ⟨x, σ, H1, I1, r1, q1⟩)
def tRetN : TS := fun D _ H => D.rt .non H
def tIfS (c : TT) (t u : TS) : TS := fun D σ H => c σ H fun b H1 => if b = true then t D σ H1 else u D σ H1
theorem ps_if {c : Expr} {a b : List Stmt} {tc : TT} (hc : PT X c tc) (ha : PSs X a t) (hb : PSs X b u) : PS X (.If c a b pos) (tIfS tc t u) := by
  intro pins s σ H D I h
  refine wpAny_If (thn (hc pins s σ H _ I h) fun d s1 ⟨H1, I1, q1⟩ => ?_)
  cases d with
  | true => exact ha pins s1 σ H1 D I1 q1
  | false => exact hb pins s1 σ H1 D I1 q1
/-- code that the proof never comes to -/
def tNever : TS := fun _ _ _ => False
end

/-! ### targets -/
abbrev TG := V → St → Hp → (St → Hp → Prop) → Prop
abbrev TGs := List V → St → Hp → (St → Hp → Prop) → Prop
def PG (X : Cx) (target : Expr) (t : TG) : Prop :=
  ∀ (pins : List (Addr × Obj)) (s : Shared) (σ : St) (H : Hp) (v : V) (u : Value) (Q : St → Hp → Prop), Inv X pins σ H s → RelV v u → t v σ H Q →
    wpAny (model X.prog X.w) X.A (assign target X.env u) (fun _ s' => ∃ σ' H', Inv X pins σ' H' s' ∧ Q σ' H') X.xe s
/-- several targets, one after another -/
def PGs (X : Cx) (ts : List Expr) (t : TGs) : Prop :=
  ∀ (pins : List (Addr × Obj)) (s : Shared) (σ : St) (H : Hp) (vs : List V) (us : List Value) (Q : St → Hp → Prop), Inv X pins σ H s → Vals vs us → t vs σ H Q →
    wpAny (model X.prog X.w) X.A (assignInOrder ((assignEach ts X.env).map (·.2)) us) (fun _ s' => ∃ σ' H', Inv X pins σ' H' s' ∧ Q σ' H') X.xe s
/-- o[i] = v, by values -/
abbrev TSet := V → V → V → Hp → (Hp → Prop) → Prop
def PSet (X : Cx) (t : TSet) : Prop :=
  ∀ (pins : List (Addr × Obj)) (s : Shared) (σ : St) (H : Hp) (o i v : V) (ov iv u : Value) (Q : Hp → Prop), Inv X pins σ H s → RelV o ov → RelV i iv → RelV v u → t o i v H Q →
    wpAny (model X.prog X.w) X.A (setItem ov iv u) (fun _ s' => ∃ H', Inv X pins σ H' s' ∧ Q H') X.xe s
/-- a op= b, by values -/
abbrev TIp := V → V → Hp → VK → Prop
def PIp (X : Cx) (op : Operator) (t : TIp) : Prop :=
  ∀ (pins : List (Addr × Obj)) (s : Shared) (σ : St) (H : Hp) (x y : V) (v u : Value) (Q : VK), Inv X pins σ H s → RelV x v → RelV y u → t x y H Q →
    wpAny (model X.prog X.w) X.A (inplaceOp op v u) (EP X pins σ Q) X.xe s
section
variable {X : Cx} {pos : Pos}
def gName (i : Nat) : TG := fun v σ H Q => Q (σ.set i (some v)) H
theorem pg_name {i : Nat} {x : Str} (hN : X.N.Nodup) (hi : X.N[i]? = some x) (hx : Loc X.env.scope x) (hf : X.fn x = true ∨ X.env.scope.names.lookup x = some .local := by first | exact .inl rfl | exact .inr rfl | assumption) : PG X (.Name x pos) (gName i) := by
  intro pins s σ H v u Q I r h
  exact wpAny_assign_Name (store_ok I hN hi hx r (fun s' I' => ⟨_, H, I', h⟩) hf)
def gNil : TGs := fun vs σ H Q => vs = [] ∧ Q σ H
def gCons (t : TG) (u : TGs) : TGs := fun vs σ H Q => ∃ v r, vs = v :: r ∧ t v σ H fun σ' H' => u r σ' H' Q
theorem pgs_nil : PGs X [] gNil := by
  intro pins s σ H vs us Q I r h
  obtain ⟨e, h⟩ := h
  subst e
  cases r
  exact assignInOrder_nil ⟨σ, H, I, h⟩
theorem pgs_cons {e : Expr} {es : List Expr} {t : TG} {u : TGs} (h1 : PG X e t) (h2 : PGs X es u)
    (hs : (assignEach (e :: es) X.env).map (·.2) = assign e X.env :: (assignEach es X.env).map (·.2) := by rfl) : PGs X (e :: es) (gCons t u) := by
  intro pins s σ H vs us Q I r h
  obtain ⟨v, vr, e1, h⟩ := h
  subst e1
  cases r with
  | cons r rr =>
    rw [hs]
    refine assignInOrder_cons (thn (h1 pins s σ H _ _ _ I r h) fun _ s1 ⟨σ1, H1, I1, q1⟩ => ?_)
    exact h2 pins s1 σ1 H1 _ _ Q I1 rr q1
/-- (a, b, ..) = a tuple of that length -/
def gTup (K : PySem.W.Frag) (n : Nat) (t : TGs) : TG := fun v σ H Q => ∃ a xs, v = .ref a ∧ SqT K H a xs ∧ xs.length = n ∧ t xs σ H Q
theorem pg_tup {es : List Expr} {k : Nat} {t : TGs} {n : Nat} (hc : X.calm = true) (h : PGs X es t)
    (hn : (assignEach es X.env).length = n := by rfl) (hst : (assignEach es X.env).findIdx? (·.1) = none := by rfl) : PG X (.Tuple es k pos) (gTup X.K n t) := by
  intro pins s σ H v u Q I r hw
  obtain ⟨a, xs, e1, hq, hl, hw⟩ := hw
  subst e1
  cases r
  obtain ⟨its, rv, ht, hz⟩ := I.tuple hq
  refine assign_Tuple_tuple (I.ok.hd hc) ht (by simp [hn, ← hl, rv.length]) hst fun h' hx => ?_
  have I1 : Inv X pins σ H { s with heap := h' } := I.kept (t' := s.toks) fun b o e => hx b o (Nat.ne_of_lt (Heap.lt_size e)) e
  exact h pins _ σ H xs _ Q I1 (by simpa using rv) hw
/-- o[i] = .. -/
def gSub (to ti : TE) (t : TSet) : TG := fun v σ H Q => to σ H fun o H1 => ti σ H1 fun i H2 => t o i v H2 fun H3 => Q σ H3
/-- target = value -/
def tAsg (te : TE) (g : TG) : TS := fun D σ H => te σ H fun x H1 => g x σ H1 D.nx
theorem ps_asg {tg e : Expr} {te : TE} {g : TG} (he : PE X e te) (hg : PG X tg g) (hs : swapsWithSole [tg] e pos.line X.env = pure false := by rfl) (hw : swappedStores [tg] e X.env = pure none := by rfl)
    (h1 : (assignEach [tg] X.env).map (·.2) = [assign tg X.env] := by rfl) : PS X (.Assign [tg] e pos) (tAsg te g) := by
  intro pins s σ H D I h
  refine wpAny_Assign_stores (thn (he pins s σ H _ I h) fun v s1 ⟨x, H1, I1, r1, q1⟩ => ?_) hs hw
  rw [h1]
  exact thn (hg pins s1 σ H1 x v _ I1 r1 q1) fun _ s2 q => q
/-- name = value -/
theorem ps_set {i : Nat} {x : Str} {e : Expr} {te : TE} {pos' : Pos} (hN : X.N.Nodup) (hi : X.N[i]? = some x) (hx : Loc X.env.scope x) (he : PE X e te) (hs : swapsWith e (some (.Name x pos')) pos.line X.env = pure false := by rfl) (hf : X.fn x = true ∨ X.env.scope.names.lookup x = some .local := by first | exact .inl rfl | exact .inr rfl | assumption) :
    PS X (.Assign [.Name x pos'] e pos) (tAsg te (gName i)) := by
  intro pins s σ H D I h
  refine wpAny_Assign_Name (thn (he pins s σ H _ I h) fun v s1 ⟨y, H1, I1, r1, q1⟩ => ?_) hs
  exact store_ok I1 hN hi hx r1 (fun s2 I2 => ⟨_, H1, I2, q1⟩) hf
/-- a, b = x, y with plain local names: stored from the right; the pair itself is not tracked (the opening rows as in PyProof/Rows/TupAssign.lean:23) -/
def tPar (i j : Nat) (ta : TA) : TS := fun D σ H => ta σ H fun vs H1 => ∃ v w, vs = [v, w] ∧ D.nx ((σ.set i (some v)).set j (some w)) H1
/-- name op= e -/
def tAug (i : Nat) (te : TE) (ti : TIp) : TS := fun D σ H => ∃ x, σ[i]? = some (some x) ∧ te σ H fun y H1 => ti x y H1 fun z H2 => D.nx (σ.set i (some z)) H2
/-- o[i] op= e -/
def tAugS (to ti te : TE) (tget : V → V → Hp → VK → Prop) (tip : TIp) (tset : TSet) : TS := fun D σ H => to σ H fun o H1 => ti σ H1 fun i H2 => tget o i H2 fun x H3 => te σ H3 fun y H4 => tip x y H4 fun z H5 => tset o i z H5 fun H6 => D.nx σ H6
/-- o[i], by values -/
def PGet (X : Cx) (t : V → V → Hp → VK → Prop) : Prop :=
  ∀ (pins : List (Addr × Obj)) (s : Shared) (σ : St) (H : Hp) (o i : V) (ov iv : Value) (Q : VK), Inv X pins σ H s → RelV o ov → RelV i iv → t o i H Q →
    wpAny (model X.prog X.w) X.A (getItem ov iv) (EP X pins σ Q) X.xe s
/-- ints -/
def ipI (f : Int → Int → Int) : TIp := fun x y H Q => ∃ i j, x = .int i ∧ y = .int j ∧ Q (.int (f i j)) H
end

/-! ### while -/
section
variable {X : Cx} {pos : Pos}
/-- the invariant W with its measure -/
def tWhile (c : TT) (tb : TS) : TS := fun D σ H => ∃ W : Nat → St → Hp → Prop, (∃ m, W m σ H) ∧ ∀ m σ H, W m σ H →
  c σ H fun b H1 => if b = true then ∃ N : St → Hp → Prop, (∀ σ' H', N σ' H' → ∃ m', m' < m ∧ W m' σ' H') ∧ tb { D with nx := N, ct := N, bk := D.nx } σ H1 else D.nx σ H1
end

/-! ### what a loop or a comprehension walks -/
/-- at turn i: it yields x (the heap may grow), or it stops -/
structure It where
  go : Nat → Hp → Prop
  yld : Nat → Hp → V → Hp → Prop
  stop : Nat → Hp → Prop
/-- the iterator's own objects may turn: they are not the frame's, not pinned, younger than the entry (or a comprehension's own) -/
def FpOk (X : Cx) (pins : List (Addr × Obj)) (H : Hp) (b : Addr) : Prop :=
  H b = none ∧ b ≠ X.env.locals ∧ b ∉ X.fs ∧ (b ∈ X.ex ∨ X.s₀.heap.objs.size ≤ b) ∧ (∀ x c, X.env.cells.lookup x = some c → c ≠ b) ∧ ∀ p ∈ X.pn ++ pins, p.1 ≠ b
theorem Inv.fpOk {X : Cx} {pins : List (Addr × Obj)} {σ : St} {H H' : Hp} {s : Shared} {b : Addr} (I : Inv X pins σ H s) (hb : s.heap.objs.size ≤ b) (hn : H' b = none) : FpOk X pins H' b := by
  refine ⟨hn, Nat.ne_of_gt (Nat.lt_of_lt_of_le I.lt hb), I.nofs hb, .inr (Nat.le_trans I.sz hb), fun x c e z => ?_, fun p hp z => ?_⟩
  · obtain ⟨v, q⟩ := I.cell x c e
    exact absurd (Nat.lt_of_lt_of_le q.lt (by rw [z]; exact hb)) (Nat.lt_irrefl _)
  · exact absurd (Nat.lt_of_lt_of_le (Heap.lt_size (I.pin p hp).1) (by rw [z]; exact hb)) (Nat.lt_irrefl _)
structure Turn (P : Program) (w : World) (K : PySem.W.Frag) (tg : Expr) (J : It) (fp : List Addr) (it : Addr) (tn : Nat → Heap → Prop) : Prop where
  mem : it ∈ fp
  obj : ∀ i h, tn i h → ∀ b ∈ fp, ∃ o, h.get? b = some o ∧ ∀ v, o.data ≠ .cell v
  keep : ∀ i h h', tn i h → (∀ b ∈ fp, ∀ o, h.get? b = some o → h'.get? b = some o) → tn i h'
  item : ∀ (X : Cx), X.prog = P → X.w = w → X.K = K → X.calm = true → ∀ (i : Nat) (pins : List (Addr × Obj)) (s : Shared) (σ : St) (H : Hp) (E : Value → Shared → Prop), Inv X pins σ H s → (∀ b ∈ fp, FpOk X pins H b) → tn i s.heap → J.go i H →
    wpAny (model P w) X.A (pyNext (.ref it)) (fun r s1 => ∃ u, r = some u ∧
      wpAny (model P w) X.A (letOwnedTupleGo tg (.ref it) u) (fun _ s2 => ∃ x H', Inv X pins σ H' s2 ∧ RelV x u ∧ J.yld i H x H' ∧ tn (i + 1) s2.heap ∧ ∀ b ∈ fp, H' b = none) E s1) E s
  done : ∀ (X : Cx), X.prog = P → X.w = w → X.K = K → X.calm = true → ∀ (i : Nat) (pins : List (Addr × Obj)) (s : Shared) (σ : St) (H : Hp) (E : Value → Shared → Prop), Inv X pins σ H s → (∀ b ∈ fp, FpOk X pins H b) → tn i s.heap → J.stop i H →
    wpAny (model P w) X.A (pyNext (.ref it)) (fun r s1 => r = none ∧ Inv X pins σ H s1) E s
  self : ∀ (A : Around) (i : Nat) (s : Shared) (Q : Value → Shared → Prop) (E : Value → Shared → Prop), tn i s.heap → Q (.ref it) s → wpAny (model P w) A (pyIter (.ref it)) Q E s
abbrev TI := St → Hp → (It → Hp → Prop) → Prop
/-- an iterator has come -/
def PIE (X : Cx) (pins : List (Addr × Obj)) (σ : St) (tg : Expr) (R : It → Hp → Prop) (itv : Value) (s2 : Shared) : Prop :=
  ∃ (it : Addr) (fp : List Addr) (tn : Nat → Heap → Prop) (J : It) (H' : Hp), itv = .ref it ∧ Inv X pins σ H' s2 ∧ Turn X.prog X.w X.K tg J fp it tn ∧ tn 0 s2.heap ∧ (∀ b ∈ fp, FpOk X pins H' b) ∧ R J H'
def PI (X : Cx) (tg iter : Expr) (wi : TI) : Prop :=
  ∀ (pins : List (Addr × Obj)) (s : Shared) (σ : St) (H : Hp) (R : It → Hp → Prop), Inv X pins σ H s → wi σ H R →
    wpAny (model X.prog X.w) X.A (eval iter X.env) (fun v s1 => wpAny (model X.prog X.w) X.A (pyIter v) (PIE X pins σ tg R) X.xe s1) X.xe s

/-- the step ahead of the store is nothing for an iterator that keeps no tuple -/
theorem go_of {M : Model} {A : Around} {E : Value → Shared → Prop} {s : Shared} {tg : Expr} {it : Addr} {u : Value} {o : Obj} {n : String} {vs : Array Value} {Q : Unit → Shared → Prop} (ho : s.heap.get? it = some o) (hc : o.cls = .type n) (hd : o.data = .fields vs)
    (hn : ["enumerate", "zip", "dict_itemiterator", "dict_reverseitemiterator", "odict_iterator", "itertools.zip_longest", "itertools.pairwise"].contains n = false) (hQ : Q () s) : wpAny M A (letOwnedTupleGo tg (.ref it) u) Q E s := by
  unfold letOwnedTupleGo
  cases tg <;> first
    | exact wpAny_pure hQ
    | (cases u <;> first
        | exact wpAny_pure hQ
        | (refine wpAny_bind (wpAny_load ho ?_)
           rw [hc, hd]
           show wpAny M A (if (["enumerate", "zip", "dict_itemiterator", "dict_reverseitemiterator", "odict_iterator", "itertools.zip_longest", "itertools.pairwise"].contains n && vs[0]? == some (rawInt _)) = true then _ else _) Q E s
           rw [if_neg (by intro h; rw [hn, Bool.false_and] at h; cases h)]
           exact wpAny_pure hQ))

/-- the list at a, as it stands at each turn (a loop may append to it) -/
def Itl (K : PySem.W.Frag) (a : Addr) : It :=
  ⟨fun i H => ∃ xs x, SqL K H a xs ∧ xs[i]? = some x, fun i H x H' => H' = H ∧ ∀ xs, SqL K H a xs → xs[i]? = some x, fun i H => ∃ xs, SqL K H a xs ∧ xs.length ≤ i⟩
def Itt (K : PySem.W.Frag) (a : Addr) : It :=
  ⟨fun i H => ∃ xs x, SqT K H a xs ∧ xs[i]? = some x, fun i H x H' => H' = H ∧ ∀ xs, SqT K H a xs → xs[i]? = some x, fun i H => ∃ xs, SqT K H a xs ∧ xs.length ≤ i⟩
/-- lo, lo + 1, .. (n of them) -/
def Itr (lo : Int) (n : Nat) : It := ⟨fun i _ => i < n, fun i H x H' => H' = H ∧ x = .int (lo + i), fun i _ => n ≤ i⟩
theorem turn_list {P : Program} {w : World} {K : PySem.W.Frag} {tg : Expr} (a it : Addr) : Turn P w K tg (Itl K a) [it] it (fun i h => h.IsListIter it a i) where
  mem := by simp
  obj := fun i h st b hb => by
    have e : b = it := by simpa using hb
    subst e
    obtain ⟨o, e, c, d⟩ := st
    exact ⟨o, e, fun v z => by rw [d] at z; cases z⟩
  keep := fun i h h' st k => st.at fun o e => k it (by simp) o e
  item := by
    intro X hP hw hK hc i pins s σ H E I hf st hg
    subst hP hw hK
    obtain ⟨xs, x, hq, hx⟩ := hg
    obtain ⟨its, rv, p, hz⟩ := I.list hq
    obtain ⟨u, hu, ru⟩ := rv.get hx
    obtain ⟨f0, f1, f2, f3, f4, f5⟩ := hf it (by simp)
    refine wpAny_pyNext_list_item st p.isList (x := u) (by simpa using hu) fun h' st' sb => ?_
    have I1 : Inv X pins σ H { s with heap := h' } := I.turned (t' := s.toks) (fun b o hb e => (sb.2 b hb).trans e) f0 f1 f3 f4 f5
    obtain ⟨o, e, c, d⟩ := id st'
    exact ⟨u, rfl, go_of (s := { s with heap := h' }) e c d (by decide) ⟨x, H, I1, ru, ⟨rfl, fun ys hy => by rw [I.list_inj hy hq]; exact hx⟩, st', fun b hb => (hf b hb).1⟩⟩
  done := by
    intro X hP hw hK hc i pins s σ H E I hf st hg
    subst hP hw hK
    obtain ⟨xs, hq, hx⟩ := hg
    obtain ⟨its, rv, p, hz⟩ := I.list hq
    obtain ⟨f0, f1, f2, f3, f4, f5⟩ := hf it (by simp)
    have hl := rv.length
    exact wpAny_pyNext_list_end (I.ok.hd hc) st p.isList (by simp; omega) fun h' eb => ⟨rfl, I.turned (t' := s.toks) (fun b o hb e => eb b o hb e) f0 f1 f3 f4 f5⟩
  self := fun _ _ _ _ _ st h => wpAny_pyIter_listiter st h
theorem turn_tuple {P : Program} {w : World} {K : PySem.W.Frag} {tg : Expr} (a it : Addr) : Turn P w K tg (Itt K a) [it] it (fun i h => h.IsTupleIter it a i) where
  mem := by simp
  obj := fun i h st b hb => by
    have e : b = it := by simpa using hb
    subst e
    obtain ⟨o, e, c, d⟩ := st
    exact ⟨o, e, fun v z => by rw [d] at z; cases z⟩
  keep := fun i h h' st k => st.at fun o e => k it (by simp) o e
  item := by
    intro X hP hw hK hc i pins s σ H E I hf st hg
    subst hP hw hK
    obtain ⟨xs, x, hq, hx⟩ := hg
    obtain ⟨its, rv, p, hz⟩ := I.tuple hq
    obtain ⟨u, hu, ru⟩ := rv.get hx
    obtain ⟨f0, f1, f2, f3, f4, f5⟩ := hf it (by simp)
    refine wpAny_pyNext_tuple_item st (show s.heap.IsTuple a its.toArray from p) (x := u) (by simpa using hu) fun h' st' sb => ?_
    have I1 : Inv X pins σ H { s with heap := h' } := I.turned (t' := s.toks) (fun b o hb e => (sb.2 b hb).trans e) f0 f1 f3 f4 f5
    obtain ⟨o, e, c, d⟩ := id st'
    exact ⟨u, rfl, go_of (s := { s with heap := h' }) e c d (by decide) ⟨x, H, I1, ru, ⟨rfl, fun ys hy => by rw [I.tuple_inj hy hq]; exact hx⟩, st', fun b hb => (hf b hb).1⟩⟩
  done := by
    intro X hP hw hK hc i pins s σ H E I hf st hg
    subst hP hw hK
    obtain ⟨xs, hq, hx⟩ := hg
    obtain ⟨its, rv, p, hz⟩ := I.tuple hq
    obtain ⟨f0, f1, f2, f3, f4, f5⟩ := hf it (by simp)
    have hl := rv.length
    exact wpAny_pyNext_tuple_end (I.ok.hd hc) st (show s.heap.IsTuple a its.toArray from p) (by simp; omega) fun h' eb => ⟨rfl, I.turned (t' := s.toks) (fun b o hb e => eb b o hb e) f0 f1 f3 f4 f5⟩
  self := fun _ _ _ _ _ st h => wpAny_pyIter_tupleiter st h
theorem turn_range {P : Program} {w : World} {K : PySem.W.Frag} {tg : Expr} (it : Addr) (lo : Int) (n : Nat) : Turn P w K tg (Itr lo n) [it] it (fun i h => IsRangeIter h it (lo + (i : Nat) * 1) ((n : Int) - (i : Nat)) 1) where
  mem := by simp
  obj := fun i h st b hb => by
    have e : b = it := by simpa using hb
    subst e
    exact ⟨_, st, fun v z => by
      have z' : Data.fields _ = Data.cell v := z
      cases z'⟩
  keep := fun i h h' st k => k it (by simp) _ st
  item := by
    intro X hP hw hK hc i pins s σ H E I hf st hg
    subst hP hw hK
    obtain ⟨f0, f1, f2, f3, f4, f5⟩ := hf it (by simp)
    have W := Walks.range (prog := X.prog) (w := X.w) (I.ok.hd hc) it lo 1 n
    refine W.item i s _ _ hg st fun v h' tk hv st' kk => ?_
    obtain ⟨t, rfl⟩ := hv
    have I1 : Inv X pins σ H { s with heap := h', toks := tk } := I.turned (fun b o hb e => kk b o (by simpa using hb) e) f0 f1 f3 f4 f5
    refine ⟨_, rfl, go_of (s := { s with heap := h', toks := tk }) (n := "range_iterator") st' rfl rfl (by decide) ⟨.int (lo + i), H, I1, ⟨t, ?_⟩, ⟨rfl, rfl⟩, st', fun b hb => (hf b hb).1⟩⟩
    rw [Int.mul_one]
  done := by
    intro X hP hw hK hc i pins s σ H E I hf st hg
    subst hP hw hK
    obtain ⟨f0, f1, f2, f3, f4, f5⟩ := hf it (by simp)
    exact wpAny_pyNext_range_end (I.ok.hd hc) st (by have : n ≤ i := hg; omega) fun h' eb => ⟨rfl, I.turned (t' := s.toks) (fun b o hb e => eb b o hb e) f0 f1 f3 f4 f5⟩
  self := fun _ _ _ _ _ st h => wpAny_pyIter_rangeiter st h
end L2

namespace L2
open PySem PySem.Spec PyProof.Rows
section
variable {X : Cx} {tg : Expr}
def iList (K : PySem.W.Frag) (tl : TE) : TI := fun σ H R => tl σ H fun x H1 => ∃ a, x = .ref a ∧ (∃ xs, SqL K H1 a xs) ∧ R (Itl K a) H1
def iTup (K : PySem.W.Frag) (tl : TE) : TI := fun σ H R => tl σ H fun x H1 => ∃ a, x = .ref a ∧ (∃ xs, SqT K H1 a xs) ∧ R (Itt K a) H1
theorem pi_list {l : Expr} {tl : TE} (hl : PE X l tl) : PI X tg l (iList X.K tl) := by
  intro pins s σ H R I h
  refine thn (hl pins s σ H _ I h) fun v s1 ⟨x, H1, I1, r1, q1⟩ => ?_
  obtain ⟨a, e, ⟨xs, hq⟩, q⟩ := q1
  subst e
  cases r1
  obtain ⟨its, rv, p, hz⟩ := I1.list hq
  refine wpAny_pyIter_list p.isList ?_
  refine ⟨s1.heap.objs.size, [s1.heap.objs.size], _, _, H1, rfl, I1.kept (t' := s1.toks) fun b o e => Heap.get?_push_of_some _ e, turn_list a _, ⟨_, Heap.get?_push_size _ rfl, rfl, rfl⟩, fun b hb => ?_, q⟩
  have e : b = s1.heap.objs.size := by simpa using hb
  subst e
  exact I1.fpOk (Nat.le_refl _) (I1.hok.fresh (Nat.le_refl _))
theorem pi_tup {l : Expr} {tl : TE} (hl : PE X l tl) : PI X tg l (iTup X.K tl) := by
  intro pins s σ H R I h
  refine thn (hl pins s σ H _ I h) fun v s1 ⟨x, H1, I1, r1, q1⟩ => ?_
  obtain ⟨a, e, ⟨xs, hq⟩, q⟩ := q1
  subst e
  cases r1
  obtain ⟨its, rv, p, hz⟩ := I1.tuple hq
  refine wpAny_pyIter_tuple (show s1.heap.IsTuple a its.toArray from p) ?_
  refine ⟨s1.heap.objs.size, [s1.heap.objs.size], _, _, H1, rfl, I1.kept (t' := s1.toks) fun b o e => Heap.get?_push_of_some _ e, turn_tuple a _, ⟨_, Heap.get?_push_size _ rfl, rfl, rfl⟩, fun b hb => ?_, q⟩
  have e : b = s1.heap.objs.size := by simpa using hb
  subst e
  exact I1.fpOk (Nat.le_refl _) (I1.hok.fresh (Nat.le_refl _))
/-- a range object just made, walked -/
theorem range_it {pins : List (Addr × Obj)} {σ : St} {H : Hp} {s : Shared} {R : It → Hp → Prop} {E : Value → Shared → Prop} {lo hi : Int} {t u v : Tok} {tk : Nat} (I : Inv X pins σ H s) (h1 : -(2 ^ 62) ≤ lo) (h2 : lo < 2 ^ 62) (h3 : -(2 ^ 62) ≤ hi) (h4 : hi < 2 ^ 62)
    (q : R (Itr lo (hi - lo).toNat) H) : wpAny (model X.prog X.w) X.A (pyIter (.ref s.heap.objs.size)) (PIE X pins σ tg R) E { s with heap := s.heap.push { cls := .type "range", data := .fields #[.int lo t, .int hi u, .int 1 v] }, toks := tk } := by
  refine wpAny_pyIter_range (IsRange.new ..) (small_one h1 h2 h3 h4) ?_
  have I1 : Inv X pins σ H { s with heap := s.heap.push { cls := .type "range", data := .fields #[.int lo t, .int hi u, .int 1 v] }, toks := tk } := I.kept fun b o e => Heap.get?_push_of_some _ e
  refine ⟨(s.heap.push { cls := .type "range", data := .fields #[.int lo t, .int hi u, .int 1 v] }).objs.size, [(s.heap.push { cls := .type "range", data := .fields #[.int lo t, .int hi u, .int 1 v] }).objs.size], _, _, H, rfl,
    I1.kept (t' := tk) fun b o e => Heap.get?_push_of_some _ e, turn_range _ lo (hi - lo).toNat, ?_, fun b hb => ?_, q⟩
  · have e1 : lo + ((0 : Nat) : Int) * 1 = lo := by simp
    have e2 : (((hi - lo).toNat : Nat) : Int) - ((0 : Nat) : Int) = Builtin.Range.rangeSize lo hi 1 := by rw [rangeSize_one]; split <;> omega
    show IsRangeIter _ _ (lo + ((0 : Nat) : Int) * 1) ((((hi - lo).toNat : Nat) : Int) - ((0 : Nat) : Int)) 1
    rw [e1, e2]
    exact Heap.get?_push_size _ rfl
  · have e : b = (s.heap.push { cls := .type "range", data := .fields #[.int lo t, .int hi u, .int 1 v] }).objs.size := by simpa using hb
    subst e
    exact I1.fpOk (Nat.le_refl _) (I1.hok.fresh (Nat.le_refl _))
def iRng1 (ta : TA) : TI := fun σ H R => ta σ H fun vs H1 => ∃ j : Int, vs = [.int j] ∧ -(2 ^ 62) ≤ j ∧ j < 2 ^ 62 ∧ R (Itr 0 j.toNat) H1
def iRng2 (ta : TA) : TI := fun σ H R => ta σ H fun vs H1 => ∃ i j : Int, vs = [.int i, .int j] ∧ (-(2 ^ 62) ≤ i ∧ i < 2 ^ 62 ∧ -(2 ^ 62) ≤ j ∧ j < 2 ^ 62) ∧ R (Itr i (j - i).toNat) H1
theorem pi_range1 {a : Expr} {ta : TA} {p pos : Pos} (hg : Gl X "range") (hm : X.mg "range" = none) (ha : PA X [a] ta) (hs : starEach [a] X.env = [(false, eval a X.env)] := by rfl) : PI X tg (.Call (.Name "range" p) [a] [] pos) (iRng1 ta) := by
  intro pins s σ H R I h
  refine Call_ (ld_blt I hg hm boot_range (PyProof.Rows.callWith_type1 (thn (ha pos pins s σ H _ I h) fun us s1 ⟨vs, H1, I1, r1, q1⟩ => ?_) hs rfl))
  obtain ⟨j, e, q1, q2, q⟩ := q1
  subst e
  cases r1 with
  | cons r rr =>
    cases rr
    obtain ⟨t, rfl⟩ := r
    exact call_range_1 (range_it I1 (by omega) (by omega) q1 q2 (by simpa using q))
/-! ### for -/
/-- W: the invariant by the turn and a measure; N: what the body is to reach -/
def tFor (wi : TI) (g : TG) (tb : TS) : TS := fun D σ H => wi σ H fun J H1 => ∃ W : Nat → Nat → St → Hp → Prop, (∃ m, W 0 m σ H1) ∧ ∀ i m σ H, W i m σ H →
  (J.stop i H ∧ D.nx σ H) ∨ (J.go i H ∧ ∃ N : St → Hp → Prop, (∀ σ' H', N σ' H' → ∃ m', m' < m ∧ W (i + 1) m' σ' H') ∧ ∀ x H', J.yld i H x H' → g x σ H' fun σ2 H2 => tb { D with nx := N, ct := N, bk := D.nx } σ2 H2)
/-- the records at fp as they stand -/
def pinsAt (fp : List Addr) (h : Heap) : List (Addr × Obj) := fp.filterMap fun b => (h.get? b).map fun o => (b, o)
theorem mem_pinsAt {fp : List Addr} {h : Heap} {b : Addr} {o : Obj} (hb : b ∈ fp) (e : h.get? b = some o) : (b, o) ∈ pinsAt fp h := List.mem_filterMap.mpr ⟨b, hb, by rw [e]; rfl⟩
theorem of_pinsAt {fp : List Addr} {h : Heap} {p : Addr × Obj} (hp : p ∈ pinsAt fp h) : p.1 ∈ fp ∧ h.get? p.1 = some p.2 := by
  obtain ⟨b, hb, e⟩ := List.mem_filterMap.mp hp
  cases q : h.get? b with
  | none => rw [q] at e; cases e
  | some o =>
    rw [q] at e
    have e' : (b, o) = p := Option.some.inj e
    subst e'
    exact ⟨hb, q⟩
theorem Inv.pinned {pins : List (Addr × Obj)} {σ : St} {H : Hp} {s : Shared} {fp : List Addr} (I : Inv X pins σ H s) (hf : ∀ b ∈ fp, FpOk X pins H b) (ho : ∀ b ∈ fp, ∃ o, s.heap.get? b = some o ∧ ∀ v, o.data ≠ .cell v) : Inv X (pins ++ pinsAt fp s.heap) σ H s :=
  I.pins_of fun p hp => (List.mem_append.mp hp).elim (fun z => I.pin p (List.mem_append_right _ z)) fun z => by
    obtain ⟨hb, e⟩ := of_pinsAt z
    obtain ⟨f0, f1, f2, _⟩ := hf p.1 hb
    obtain ⟨o, e', d⟩ := ho p.1 hb
    rw [e] at e'; cases e'
    exact ⟨e, f0, f1, f2, d⟩
theorem Inv.unpinned {pins pl : List (Addr × Obj)} {σ : St} {H : Hp} {s : Shared} (I : Inv X (pins ++ pl) σ H s) : Inv X pins σ H s := I.pins_of fun p hp => I.pin p (List.mem_append_right _ (List.mem_append_left _ hp))
theorem ps_for {iter : Expr} {body : List Stmt} {wi : TI} {g : TG} {tb : TS} {pos : Pos} (hp : PassesOwn (model X.prog X.w) X.A X.env X.xe) (hc : X.calm = true) (hi : PI X tg iter wi) (hg : PG X tg g) (hb : PSs X body tb)
    (hs : ∀ x, foldedSetIterable iter X.env x = pure x := by intro _; rfl) : PS X (.For tg iter body [] pos) (tFor wi g tb) := by
  intro pins s σ H D I h
  refine wpAny_For (thn (hi pins s σ H _ I h) fun v s1 h1 => thn h1 fun itv s2 h2 => ?_) hs
  obtain ⟨it, fp, tn, J, H2, e, I2, T, st2, f2, W, ⟨m0, w0⟩, turn⟩ := h2
  subst e
  -- what stays true of the iterator's objects through the loop
  have stat : ∀ {H' : Hp}, (∀ b ∈ fp, H' b = none) → ∀ b ∈ fp, FpOk X pins H' b := fun hn b hb => ⟨hn b hb, (f2 b hb).2⟩
  refine codeAny_forLoop_any (fun n s' => ∃ i σ' H', Inv X pins σ' H' s' ∧ tn i s'.heap ∧ (∀ b ∈ fp, H' b = none) ∧ W i n σ' H') ?_ m0 ⟨0, σ, H2, I2, st2, fun b hb => (f2 b hb).1, w0⟩
  rintro n s3 ⟨i, σ3, H3, I3, st3, fr3, w3⟩
  rcases turn i n σ3 H3 w3 with ⟨stop, qn⟩ | ⟨go, N, hN, step⟩
  · refine wpAny_passesOwn hp (thn (T.done X rfl rfl rfl hc i pins s3 σ3 H3 X.xe I3 (stat fr3) st3 stop) fun r s4 ⟨hr, I4⟩ => ?_)
    subst hr
    exact wpAny_execs_nil ⟨σ3, H3, I4, qn⟩
  · refine wpAny_passesOwn hp (thn (T.item X rfl rfl rfl hc i pins s3 σ3 H3 X.xe I3 (stat fr3) st3 go) fun r s4 ⟨u, hr, h4⟩ => ?_)
    subst hr
    refine wpAny_passesOwn hp (thn h4 fun _ s5 ⟨x, H5, I5, r5, y5, st5, fr5⟩ => ?_)
    have I5' := I5.pinned (stat fr5) (T.obj _ _ st5)
    refine wpAny_passesOwn hp (thn (hg _ s5 σ3 H5 x u _ I5' r5 (step x H5 y5)) fun _ s6 ⟨σ6, H6, I6, q6⟩ => ?_)
    refine wpAny_passesOwn hp (thn (hb _ s6 σ6 H6 _ I6 q6) fun f s7 q7 => ?_)
    have again : ∀ {σ7 : St} {H7 : Hp}, Inv X (pins ++ pinsAt fp s5.heap) σ7 H7 s7 → N σ7 H7 → ∃ m, m < n ∧ ∃ i σ' H', Inv X pins σ' H' s7 ∧ tn i s7.heap ∧ (∀ b ∈ fp, H' b = none) ∧ W i m σ' H' := fun {σ7 H7} I7 n7 => by
      obtain ⟨m', hm, w7⟩ := hN σ7 H7 n7
      refine ⟨m', hm, i + 1, σ7, H7, I7.unpinned, T.keep _ _ _ st5 fun b hb o e => (I7.pin (b, o) (List.mem_append_right _ (List.mem_append_right _ (mem_pinsAt hb e)))).1, fun b hb => ?_, w7⟩
      obtain ⟨o, e, d⟩ := T.obj _ _ st5 b hb
      exact (I7.pin (b, o) (List.mem_append_right _ (List.mem_append_right _ (mem_pinsAt hb e)))).2.1
    cases f with
    | next => obtain ⟨σ7, H7, I7, n7⟩ := q7; exact again I7 n7
    | cont => obtain ⟨σ7, H7, I7, n7⟩ := q7; exact again I7 n7
    | brk => obtain ⟨σ7, H7, I7, q7⟩ := q7; exact ⟨σ7, H7, I7.unpinned, q7⟩
    | ret v => obtain ⟨x7, σ7, H7, I7, r7, q7⟩ := q7; exact ⟨x7, σ7, H7, I7.unpinned, r7, q7⟩
end

/-! ### the forms one uses -/
/-- over a list that the body leaves as it is -/
theorem for_list {K : PySem.W.Frag} {a : Addr} {xs : List V} {g : TG} {tb : TS} {D : Ends} {σ : St} {H : Hp} (Pv : Nat → St → Hp → Prop) (h0 : Pv 0 σ H) (hl : ∀ i σ H, i ≤ xs.length → Pv i σ H → SqL K H a xs)
    (hs : ∀ i x σ H, xs[i]? = some x → Pv i σ H → g x σ H fun σ2 H2 => tb { D with nx := Pv (i + 1), ct := Pv (i + 1), bk := D.nx } σ2 H2) (hd : ∀ σ H, Pv xs.length σ H → D.nx σ H) :
    ∃ W : Nat → Nat → St → Hp → Prop, (∃ m, W 0 m σ H) ∧ ∀ i m σ H, W i m σ H →
      ((Itl K a).stop i H ∧ D.nx σ H) ∨ ((Itl K a).go i H ∧ ∃ N : St → Hp → Prop, (∀ σ' H', N σ' H' → ∃ m', m' < m ∧ W (i + 1) m' σ' H') ∧ ∀ x H', (Itl K a).yld i H x H' → g x σ H' fun σ2 H2 => tb { D with nx := N, ct := N, bk := D.nx } σ2 H2) := by
  refine ⟨fun i m σ H => m = xs.length - i ∧ i ≤ xs.length ∧ Pv i σ H, ⟨xs.length, by simp, Nat.zero_le _, h0⟩, ?_⟩
  rintro i m σ H ⟨rfl, hi, p⟩
  have q := hl i σ H hi p
  by_cases hlt : i < xs.length
  · refine .inr ⟨⟨xs, xs[i], q, by simp [hlt]⟩, Pv (i + 1), fun σ' H' p' => ⟨xs.length - (i + 1), by omega, rfl, hlt, p'⟩, fun x H' y => ?_⟩
    obtain ⟨e, y⟩ := y
    subst e
    exact hs i x σ _ (y xs q) p
  · have e : i = xs.length := by omega
    subst e
    exact .inl ⟨⟨xs, q, Nat.le_refl _⟩, hd σ H p⟩
theorem for_range {lo : Int} {n : Nat} {g : TG} {tb : TS} {D : Ends} {σ : St} {H : Hp} (Pv : Nat → St → Hp → Prop) (h0 : Pv 0 σ H)
    (hs : ∀ i σ H, i < n → Pv i σ H → g (.int (lo + i)) σ H fun σ2 H2 => tb { D with nx := Pv (i + 1), ct := Pv (i + 1), bk := D.nx } σ2 H2) (hd : ∀ σ H, Pv n σ H → D.nx σ H) :
    ∃ W : Nat → Nat → St → Hp → Prop, (∃ m, W 0 m σ H) ∧ ∀ i m σ H, W i m σ H →
      ((Itr lo n).stop i H ∧ D.nx σ H) ∨ ((Itr lo n).go i H ∧ ∃ N : St → Hp → Prop, (∀ σ' H', N σ' H' → ∃ m', m' < m ∧ W (i + 1) m' σ' H') ∧ ∀ x H', (Itr lo n).yld i H x H' → g x σ H' fun σ2 H2 => tb { D with nx := N, ct := N, bk := D.nx } σ2 H2) := by
  refine ⟨fun i m σ H => m = n - i ∧ i ≤ n ∧ Pv i σ H, ⟨n, by simp, Nat.zero_le _, h0⟩, ?_⟩
  rintro i m σ H ⟨rfl, hi, p⟩
  by_cases hlt : i < n
  · refine .inr ⟨hlt, Pv (i + 1), fun σ' H' p' => ⟨n - (i + 1), by omega, rfl, hlt, p'⟩, fun x H' y => ?_⟩
    obtain ⟨e, y⟩ := y
    subst e y
    exact hs i σ _ hlt p
  · have e : i = n := by omega
    subst e
    exact .inl ⟨Nat.le_refl _, hd σ H p⟩
end L2

namespace L2
open PySem PySem.Spec PyProof.Rows

abbrev R2 := V → V → Hp → VK → Prop
/-- a two-place operation on values: f is binaryOp op, inplaceOp op or compareOp op -/
def OpR (X : Cx) (f : Value → Value → Sem Value) (r : R2) : Prop :=
  ∀ (pins : List (Addr × Obj)) (s : Shared) (σ : St) (H : Hp) (x y : V) (v u : Value) (Q : VK), Inv X pins σ H s → RelV x v → RelV y u → r x y H Q →
    wpAny (model X.prog X.w) X.A (f v u) (EP X pins σ Q) X.xe s
/-- a one-place operation -/
def UnR (X : Cx) (f : Value → Sem Value) (r : V → Hp → VK → Prop) : Prop :=
  ∀ (pins : List (Addr × Obj)) (s : Shared) (σ : St) (H : Hp) (x : V) (v : Value) (Q : VK), Inv X pins σ H s → RelV x v → r x H Q →
    wpAny (model X.prog X.w) X.A (f v) (EP X pins σ Q) X.xe s
/-- a call of a value that is known (a builtin, a type) with values -/
def CallR (X : Cx) (f : Value) (r : List V → Hp → VK → Prop) : Prop :=
  ∀ (pins : List (Addr × Obj)) (s : Shared) (σ : St) (H : Hp) (xs : List V) (us : List Value) (Q : VK), Inv X pins σ H s → Vals xs us → r xs H Q →
    wpAny (model X.prog X.w) X.A (call f us) (EP X pins σ Q) X.xe s
/-- a value's truth -/
def TruR (X : Cx) (r : V → Hp → (Bool → Hp → Prop) → Prop) : Prop :=
  ∀ (pins : List (Addr × Obj)) (s : Shared) (σ : St) (H : Hp) (x : V) (v : Value) (Q : Bool → Hp → Prop), Inv X pins σ H s → RelV x v → r x H Q →
    wpAny (model X.prog X.w) X.A (truthy v) (TP X pins σ Q) X.xe s

def tOp (r : R2) (ta tb : TE) : TE := fun σ H Q => ta σ H fun x H1 => tb σ H1 fun y H2 => r x y H2 Q
def tUn (r : V → Hp → VK → Prop) (ta : TE) : TE := fun σ H Q => ta σ H fun x H1 => r x H1 Q
/-- ints in, under C, and a value out -/
def rI (C : Int → Int → Prop) (g : Int → Int → V) : R2 := fun x y H Q => ∃ i j, x = .int i ∧ y = .int j ∧ C i j ∧ Q (g i j) H
def rI0 (g : Int → Int → V) : R2 := fun x y H Q => ∃ i j, x = .int i ∧ y = .int j ∧ Q (g i j) H
def rU (g : Int → V) : V → Hp → VK → Prop := fun x H Q => ∃ i, x = .int i ∧ Q (g i) H

section
variable {X : Cx} {a b c : Expr} {ta tb tc : TE} {pos : Pos}

theorem binT (ha : PE X a ta) (hb : PE X b tb) {pins : List (Addr × Obj)} {s : Shared} {σ : St} {H : Hp} {R : V → V → Hp → Prop} (I : Inv X pins σ H s)
    (h : ta σ H fun x H1 => tb σ H1 fun y H2 => R x y H2) {Q : Value → Shared → Prop} {f : Value → Value → Sem Value}
    (hf : ∀ v u s2 x y H2, Inv X pins σ H2 s2 → RelV x v → RelV y u → R x y H2 → wpAny (model X.prog X.w) X.A (f v u) Q X.xe s2) :
    wpAny (model X.prog X.w) X.A (eval a X.env) (fun v s₁ => wpAny (model X.prog X.w) X.A (eval b X.env) (fun u s₂ => wpAny (model X.prog X.w) X.A (f v u) Q X.xe s₂) X.xe s₁) X.xe s := by
  refine thn (ha pins s σ H _ I h) fun v s1 ⟨x, H1, I1, r1, q1⟩ => ?_
  refine thn (hb pins s1 σ H1 _ I1 q1) fun u s2 ⟨y, H2, I2, r2, q2⟩ => ?_
  exact hf v u s2 x y H2 I2 r1 r2 q2

theorem pe_op {op : Operator} {r : R2} (ho : OpR X (binaryOp op) r) (ha : PE X a ta) (hb : PE X b tb) : PE X (.BinOp a op b pos) (tOp r ta tb) := by
  intro pins s σ H Q I h
  exact wpAny_BinOp (binT ha hb I h fun v u s2 x y H2 I2 rx ry q => ho pins s2 σ H2 x y v u Q I2 rx ry q)
theorem pe_un {op : UnaryOp} {r : V → Hp → VK → Prop} (ho : UnR X (unaryOp op) r) (ha : PE X a ta) : PE X (.UnaryOp op a pos) (tUn r ta) := by
  intro pins s σ H Q I h
  exact UnaryOp_ (thn (ha pins s σ H _ I h) fun v s1 ⟨x, H1, I1, r1, q1⟩ => ho pins s1 σ H1 x v Q I1 r1 q1)
/-! ### ints -/
theorem opI {f : Value → Value → Sem Value} {C : Int → Int → Prop} {g : Int → Int → Int}
    (rule : ∀ (i j : Int) (t u : Tok) (s : Shared) (Q : Value → Shared → Prop) (E : Value → Shared → Prop), C i j → Q (.int (g i j) s.toks) { s with toks := s.toks + 1 } → wpAny (model X.prog X.w) X.A (f (.int i t) (.int j u)) Q E s) :
    OpR X f (rI C fun i j => .int (g i j)) := by
  intro pins s σ H x y v u Q I rx ry h
  obtain ⟨i, j, rfl, rfl, hc, q⟩ := h
  obtain ⟨t, rfl⟩ := rx
  obtain ⟨t', rfl⟩ := ry
  exact rule i j t t' s _ _ hc ⟨.int (g i j), H, I.tok _, ⟨_, rfl⟩, q⟩
theorem opI0 {f : Value → Value → Sem Value} {g : Int → Int → Int}
    (rule : ∀ (i j : Int) (t u : Tok) (s : Shared) (Q : Value → Shared → Prop) (E : Value → Shared → Prop), Q (.int (g i j) s.toks) { s with toks := s.toks + 1 } → wpAny (model X.prog X.w) X.A (f (.int i t) (.int j u)) Q E s) :
    OpR X f (rI0 fun i j => .int (g i j)) := by
  intro pins s σ H x y v u Q I rx ry h
  obtain ⟨i, j, rfl, rfl, q⟩ := h
  obtain ⟨t, rfl⟩ := rx
  obtain ⟨t', rfl⟩ := ry
  exact rule i j t t' s _ _ ⟨.int (g i j), H, I.tok _, ⟨_, rfl⟩, q⟩
theorem opB0 {f : Value → Value → Sem Value} {g : Int → Int → Bool}
    (rule : ∀ (i j : Int) (t u : Tok) (s : Shared) (Q : Value → Shared → Prop) (E : Value → Shared → Prop), Q (.bool (g i j)) s → wpAny (model X.prog X.w) X.A (f (.int i t) (.int j u)) Q E s) :
    OpR X f (rI0 fun i j => .bl (g i j)) := by
  intro pins s σ H x y v u Q I rx ry h
  obtain ⟨i, j, rfl, rfl, q⟩ := h
  obtain ⟨t, rfl⟩ := rx
  obtain ⟨t', rfl⟩ := ry
  exact rule i j t t' s _ _ ⟨.bl (g i j), H, I, rfl, q⟩

def CDiv (i j : Int) : Prop := 0 < j ∧ j < 1073741824
def CDivN (i j : Int) : Prop := j ≠ 0 ∧ j.natAbs < 1073741824
def CPow (i j : Int) : Prop := 0 ≤ j ∧ j ≤ 1000000 ∧ i.natAbs < 2 ^ 64
def CMul (i j : Int) : Prop := (-(2 ^ 64) < i ∧ i < 2 ^ 64) ∨ (-(2 ^ 64) < j ∧ j < 2 ^ 64)
theorem op_add : OpR X (binaryOp .Add) (rI0 fun i j => .int (i + j)) := opI0 fun _ _ _ _ _ _ _ q => add_int q
theorem op_sub : OpR X (binaryOp .Sub) (rI0 fun i j => .int (i - j)) := opI0 fun _ _ _ _ _ _ _ q => sub_int q
/-- % by a positive divisor of any size -/
theorem op_mod : OpR X (binaryOp .Mod) (rI (fun _ j => 0 < j) fun i j => .int (i % j)) := opI fun i j _ _ _ _ _ hc q => by
  have h1 : (0 : Int) < j := hc
  exact mod_int' (by omega) (by rw [Int.fmod_eq_emod_of_nonneg i (by omega)]; exact q)
theorem unI {f : Value → Sem Value} {g : Int → Int}
    (rule : ∀ (i : Int) (t : Tok) (s : Shared) (Q : Value → Shared → Prop) (E : Value → Shared → Prop), Q (.int (g i) s.toks) { s with toks := s.toks + 1 } → wpAny (model X.prog X.w) X.A (f (.int i t)) Q E s) :
    UnR X f (rU fun i => .int (g i)) := by
  intro pins s σ H x v Q I rx h
  obtain ⟨i, rfl, q⟩ := h
  obtain ⟨t, rfl⟩ := rx
  exact rule i t s _ _ ⟨.int (g i), H, I.tok _, ⟨_, rfl⟩, q⟩
theorem un_neg : UnR X (unaryOp .USub) (rU fun i => .int (-i)) := unI fun _ _ _ _ _ q => neg_int q
/-! ### bools among ints: n += (a < b) -/
end

/-! ### comparisons -/
/-- the scalars that == tells apart as data does -/
def scal : V → V → Bool
  | .non, .non => true | .non, .int _ => true | .int _, .non => true | .non, .bl _ => true | .bl _, .non => true | .non, .str _ => true | .str _, .non => true
  | .int _, .int _ => true | .bl _, .bl _ => true | .str _, .str _ => true | .byt _, .byt _ => true
  | .int _, .str _ => true | .str _, .int _ => true | .bl _, .str _ => true | .str _, .bl _ => true
  | _, _ => false
def rEq : R2 := fun x y H Q => scal x y = true ∧ Q (.bl (decide (x = y))) H
def rNe : R2 := fun x y H Q => scal x y = true ∧ Q (.bl (!decide (x = y))) H

theorem dec_int {i j : Int} : decide (V.int i = V.int j) = (i == j) := by
  rw [Bool.eq_iff_iff]
  simp
theorem dec_bl {i j : Bool} : decide (V.bl i = V.bl j) = (i == j) := by
  rw [Bool.eq_iff_iff]
  simp
theorem dec_str {i j : Str} : decide (V.str i = V.str j) = (i == j) := by
  rw [Bool.eq_iff_iff]
  simp
theorem dec_byt {i j : Array UInt8} : decide (V.byt i = V.byt j) = (i.toList == j.toList) := by
  rw [Bool.eq_iff_iff]
  cases i
  cases j
  simp

section
variable {X : Cx} {a b c : Expr} {ta tb tc : TE} {pos : Pos}
theorem fin_bl {pins : List (Addr × Obj)} {σ : St} {H : Hp} {s : Shared} {Q : VK} {k k' : Bool} (I : Inv X pins σ H s) (q : Q (.bl k) H) (e : k = k') : EP X pins σ Q (.bool k') s := by
  subst e
  exact ⟨.bl k, H, I, rfl, q⟩
theorem op_eq : OpR X (compareOp .Eq) rEq := by
  intro pins s σ H x y v u Q I rx ry h
  obtain ⟨hs, q⟩ := h
  cases x with
  | non =>
    cases rx
    cases y with
    | non => cases ry; exact PySem.EqNone.eq_none_none (fin_bl I q (by simp))
    | bl j => cases ry; exact PySem.EqNone.eq_none_bool (fin_bl I q (by simp))
    | int j => obtain ⟨t', rfl⟩ := ry; exact PySem.EqNone.eq_none_int (fin_bl I q (by simp))
    | str j => obtain ⟨t', rfl⟩ := ry; exact PySem.EqNone.eq_none_str (fin_bl I q (by simp))
    | _ => exact absurd (show false = true from hs) Bool.false_ne_true
  | bl i =>
    cases rx
    cases y with
    | non => cases ry; exact PySem.EqNone.eq_bool_none (fin_bl I q (by simp))
    | bl j => cases ry; exact eq_bool (fin_bl I q dec_bl)
    | str j => obtain ⟨t', rfl⟩ := ry; exact PySem.EqMixed.eq_bool_str (fin_bl I q (by simp))
    | _ => exact absurd (show false = true from hs) Bool.false_ne_true
  | int i =>
    obtain ⟨t, rfl⟩ := rx
    cases y with
    | non => cases ry; exact PySem.EqNone.eq_int_none (fin_bl I q (by simp))
    | int j => obtain ⟨t', rfl⟩ := ry; exact eq_int (fin_bl I q dec_int)
    | str j => obtain ⟨t', rfl⟩ := ry; exact PySem.EqMixed.eq_int_str (fin_bl I q (by simp))
    | _ => exact absurd (show false = true from hs) Bool.false_ne_true
  | str i =>
    obtain ⟨t, rfl⟩ := rx
    cases y with
    | non => cases ry; exact PySem.EqNone.eq_str_none (fin_bl I q (by simp))
    | bl j => cases ry; exact PySem.EqMixed.eq_str_bool (fin_bl I q (by simp))
    | int j => obtain ⟨t', rfl⟩ := ry; exact PySem.EqMixed.eq_str_int (fin_bl I q (by simp))
    | str j => obtain ⟨t', rfl⟩ := ry; exact eq_str (fin_bl I q dec_str)
    | _ => exact absurd (show false = true from hs) Bool.false_ne_true
  | byt i =>
    obtain ⟨t, rfl⟩ := rx
    cases y with
    | byt j => obtain ⟨t', rfl⟩ := ry; exact PySem.W.eq_bytes (fin_bl I q dec_byt)
    | _ => exact absurd (show false = true from hs) Bool.false_ne_true
  | _ => cases y <;> exact absurd (show false = true from hs) Bool.false_ne_true
theorem op_ne : OpR X (compareOp .NotEq) rNe := by
  intro pins s σ H x y v u Q I rx ry h
  obtain ⟨hs, q⟩ := h
  cases x with
  | non =>
    cases rx
    cases y with
    | non => cases ry; exact PySem.EqNone.ne_none_none (fin_bl I q (by simp))
    | bl j => cases ry; exact PySem.EqNone.ne_none_bool (fin_bl I q (by simp))
    | int j => obtain ⟨t', rfl⟩ := ry; exact PySem.EqNone.ne_none_int (fin_bl I q (by simp))
    | str j => obtain ⟨t', rfl⟩ := ry; exact PySem.EqNone.ne_none_str (fin_bl I q (by simp))
    | _ => exact absurd (show false = true from hs) Bool.false_ne_true
  | bl i =>
    cases rx
    cases y with
    | non => cases ry; exact PySem.EqNone.ne_bool_none (fin_bl I q (by simp))
    | bl j => cases ry; exact ne_bool (fin_bl I q (congrArg not dec_bl))
    | str j => obtain ⟨t', rfl⟩ := ry; exact PySem.EqMixed.ne_bool_str (fin_bl I q (by simp))
    | _ => exact absurd (show false = true from hs) Bool.false_ne_true
  | int i =>
    obtain ⟨t, rfl⟩ := rx
    cases y with
    | non => cases ry; exact PySem.EqNone.ne_int_none (fin_bl I q (by simp))
    | int j => obtain ⟨t', rfl⟩ := ry; exact ne_int (fin_bl I q (congrArg not dec_int))
    | str j => obtain ⟨t', rfl⟩ := ry; exact PySem.EqMixed.ne_int_str (fin_bl I q (by simp))
    | _ => exact absurd (show false = true from hs) Bool.false_ne_true
  | str i =>
    obtain ⟨t, rfl⟩ := rx
    cases y with
    | non => cases ry; exact PySem.EqNone.ne_str_none (fin_bl I q (by simp))
    | bl j => cases ry; exact PySem.EqMixed.ne_str_bool (fin_bl I q (by simp))
    | int j => obtain ⟨t', rfl⟩ := ry; exact PySem.EqMixed.ne_str_int (fin_bl I q (by simp))
    | str j => obtain ⟨t', rfl⟩ := ry; exact ne_str (fin_bl I q (congrArg not dec_str))
    | _ => exact absurd (show false = true from hs) Bool.false_ne_true
  | byt i =>
    obtain ⟨t, rfl⟩ := rx
    cases y with
    | byt j => obtain ⟨t', rfl⟩ := ry; exact PySem.W.ne_bytes (fin_bl I q (congrArg not dec_byt))
    | _ => exact absurd (show false = true from hs) Bool.false_ne_true
  | _ => cases y <;> exact absurd (show false = true from hs) Bool.false_ne_true

theorem op_lt : OpR X (compareOp .Lt) (rI0 fun i j => .bl (decide (i < j))) := opB0 fun _ _ _ _ _ _ _ q => lt_int q
theorem op_le : OpR X (compareOp .LtE) (rI0 fun i j => .bl (decide (i ≤ j))) := opB0 fun _ _ _ _ _ _ _ q => le_int q
theorem op_gt : OpR X (compareOp .Gt) (rI0 fun i j => .bl (decide (j < i))) := opB0 fun _ _ _ _ _ _ _ q => gt_int q
theorem op_ge : OpR X (compareOp .GtE) (rI0 fun i j => .bl (decide (j ≤ i))) := opB0 fun _ _ _ _ _ _ _ q => ge_int q
/-- the one string within the other -/
theorem op_in_str : OpR X (compareOp .In) (fun x y H Q => ∃ i j, x = .str i ∧ y = .str j ∧ Q (.bl (!(Builtin.Str.occurrences j i 0 j.length 1).isEmpty)) H) := by
  intro pins s σ H x y v u Q I rx ry h
  obtain ⟨i, j, rfl, rfl, q⟩ := h
  obtain ⟨t, rfl⟩ := rx
  obtain ⟨t', rfl⟩ := ry
  exact in_str (fin_bl I q rfl)

theorem op_notN : OpR X (compareOp .IsNot) (fun x y H Q => y = .non ∧ Q (.bl (!decide (x = .non))) H) := by
  intro pins s σ H x y v u Q I rx ry h
  obtain ⟨rfl, q⟩ := h
  cases ry
  refine isnot_none_gen (fin_bl I q ?_)
  cases x <;> first
    | (cases rx; rfl)
    | (obtain ⟨t, rfl⟩ := rx; rfl)

theorem op_notin_str : OpR X (compareOp .NotIn) (fun x y H Q => ∃ i j, x = .str i ∧ y = .str j ∧ Q (.bl (!(!(Builtin.Str.occurrences j i 0 j.length 1).isEmpty))) H) := by
  intro pins s σ H x y v u Q I rx ry h
  obtain ⟨i, j, rfl, rfl, q⟩ := h
  obtain ⟨t, rfl⟩ := rx
  obtain ⟨t', rfl⟩ := ry
  exact notIn_str (fin_bl I q rfl)
/-- is, is not of two objects that are tracked lists or instances -/
def isObj : HO → Bool
  | .lst _ => true
  | .ins _ _ _ => true
  | _ => false
theorem nomark (b : Expr) {op : CmpOp} (h : op ≠ .In := by decide) (h2 : op ≠ .NotIn := by decide) : behindInMarks op b = false := by
  have e1 : (op == CmpOp.In) = false := by cases op <;> first | rfl | exact absurd rfl h
  have e2 : (op == CmpOp.NotIn) = false := by cases op <;> first | rfl | exact absurd rfl h2
  cases b <;> simp [behindInMarks, e1, e2]
/-- a comparison as a value; hm: nomark b, or (for in, not in) by with_unfolding_all rfl -/
theorem pe_cmpR {op : CmpOp} {r : R2} (ho : OpR X (compareOp op) r) (ha : PE X a ta) (hb : PE X b tb) (hm : behindInMarks op b = false) : PE X (.Compare a [op] [b] pos) (tOp r ta tb) := by
  intro pins s σ H Q I h
  exact wpAny_Compare1 (binT ha hb I h fun v u s2 x y H2 I2 rx ry q => ho pins s2 σ H2 x y v u Q I2 rx ry q) hm
/-- a reading of a value as a test -/
def tTest (t : TE) : TT := fun σ H Q => t σ H fun x H' => ∃ k, x = .bl k ∧ Q k H'
theorem pt_cmpR {op : CmpOp} {r : R2} (ho : OpR X (compareOp op) r) (ha : PE X a ta) (hb : PE X b tb) (hm : behindInMarks op b = false) : PT X (.Compare a [op] [b] pos) (tTest (tOp r ta tb)) := by
  intro pins s σ H Q I h
  refine wpAny_isTrue_Compare1 (thn (ha pins s σ H _ I h) fun v s1 ⟨x, H1, I1, r1, q1⟩ => thn (hb pins s1 σ H1 _ I1 q1) fun u s2 ⟨y, H2, I2, r2, q2⟩ =>
    thn (ho pins s2 σ H2 x y v u _ I2 r1 r2 q2) fun c s3 ⟨z, H3, I3, r3, k, e, q3⟩ => ?_) hm
  subst e
  cases r3
  exact wpAny_truthy_bool ⟨H3, I3, q3⟩
/-- a op1 b op2 c -/
def tChain (r r' : R2) (ta tb tc : TE) : TE := fun σ H Q => ta σ H fun x H1 => tb σ H1 fun y H2 => r x y H2 fun z H3 => ∃ k, z = .bl k ∧
  (if k = true then tc σ H3 fun w' H4 => r' y w' H4 Q else Q (.bl false) H3)
theorem pe_chain {op op' : CmpOp} {r r' : R2} (ho : OpR X (compareOp op) r) (ho' : OpR X (compareOp op') r') (ha : PE X a ta) (hb : PE X b tb) (hc : PE X c tc)
    (hm : lastMarks [op, op'] [b, c] = false := by with_unfolding_all rfl) : PE X (.Compare a [op, op'] [b, c] pos) (tChain r r' ta tb tc) := by
  intro pins s σ H Q I h
  refine Compare_chain (thn (ha pins s σ H _ I h) fun v s1 ⟨x, H1, I1, r1, q1⟩ => chain_link (thn (hb pins s1 σ H1 _ I1 q1) fun u s2 ⟨y, H2, I2, r2, q2⟩ =>
    thn (ho pins s2 σ H2 x y v u _ I2 r1 r2 q2) fun d s3 ⟨z, H3, I3, r3, k, e, q3⟩ => ?_)) hm
  subst e
  cases r3
  refine wpAny_truthy_bool ?_
  cases k with
  | false => exact ite_ff ⟨.bl false, H3, I3, rfl, q3⟩
  | true => exact ite_tt (chain_last (thn (hc pins s3 σ H3 _ I3 q3) fun w' s4 ⟨z', H4, I4, r4, q4⟩ => ho' pins s4 σ H4 y z' u w' Q I4 r2 r4 q4))
theorem pt_chain {op op' : CmpOp} {r r' : R2} (ho : OpR X (compareOp op) r) (ho' : OpR X (compareOp op') r') (ha : PE X a ta) (hb : PE X b tb) (hc : PE X c tc)
    (hm : lastMarks [op, op'] [b, c] = false := by with_unfolding_all rfl) : PT X (.Compare a [op, op'] [b, c] pos) (tTest (tChain r r' ta tb tc)) := by
  intro pins s σ H Q I h
  refine isTrue_chain (thn (ha pins s σ H _ I h) fun v s1 ⟨x, H1, I1, r1, q1⟩ => test_link (thn (hb pins s1 σ H1 _ I1 q1) fun u s2 ⟨y, H2, I2, r2, q2⟩ =>
    thn (ho pins s2 σ H2 x y v u _ I2 r1 r2 q2) fun d s3 ⟨z, H3, I3, r3, k, e, q3⟩ => ?_)) hm
  subst e
  cases r3
  refine wpAny_truthy_bool ?_
  cases k with
  | false =>
    obtain ⟨k', e', q'⟩ := q3
    cases e'
    exact ite_ff ⟨H3, I3, q'⟩
  | true =>
    refine ite_tt (test_last (thn (hc pins s3 σ H3 _ I3 q3) fun w' s4 ⟨z', H4, I4, r4, q4⟩ => thn (ho' pins s4 σ H4 y z' u w' _ I4 r2 r4 q4) fun d' s5 ⟨z2, H5, I5, r5, k2, e2, q5⟩ => ?_))
    subst e2
    cases r5
    exact wpAny_truthy_bool ⟨H5, I5, q5⟩

/-! ### truth -/
/-- a value's truth by the abstract heap -/
def TruV (K : PySem.W.Frag) (x : V) (H : Hp) (k : Bool) : Prop :=
  match x with
  | .non => k = false
  | .bl b => k = b
  | .int i => k = (i != 0)
  | .str y => y.length ≤ sizeLine ∧ k = ((y.length : Int) != 0)
  | .byt y => y.size ≤ sizeLine ∧ k = ((y.size : Int) != 0)
  | .ref p => (∃ xs, SqL K H p xs ∧ k = !xs.isEmpty) ∨ (∃ xs, SqT K H p xs ∧ k = !xs.isEmpty) ∨ ∃ kvs, H p = some (.dK kvs) ∧ k = !kvs.isEmpty
  | _ => False
theorem line63 : (sizeLine : Nat) < 2 ^ 63 := by rw [sizeLine_eq]; decide
/-! ### strs and bytes -/
theorem op_add_str : OpR X (binaryOp .Add) (fun x y H Q => ∃ i j, x = .str i ∧ y = .str j ∧ i.length + j.length ≤ sizeLine ∧ Q (.str (i ++ j)) H) := by
  intro pins s σ H x y v u Q I rx ry h
  obtain ⟨i, j, rfl, rfl, hz, q⟩ := h
  obtain ⟨t, rfl⟩ := rx
  obtain ⟨t', rfl⟩ := ry
  exact add_str (fun t' tk => ⟨.str (i ++ j), H, I.tok _, ⟨_, rfl⟩, q⟩) hz
def PlainIxT (b : Expr) : Prop := ∀ o i, subscripted b false o i = operate [o, i] (getItem o i)
/-! ### scalar builtins, by CallR -/
theorem vals1 {x : V} {us : List Value} (r : Vals [x] us) : ∃ u, us = [u] ∧ RelV x u := by
  cases r with
  | cons r1 r2 => cases r2; exact ⟨_, rfl, r1⟩
theorem vals2 {x y : V} {us : List Value} (r : Vals [x, y] us) : ∃ u w', us = [u, w'] ∧ RelV x u ∧ RelV y w' := by
  cases r with
  | cons r1 r2 =>
    cases r2 with
    | cons r3 r4 => cases r4; exact ⟨_, _, rfl, r1, r3⟩
theorem call_abs : CallR X (.builtin "abs") (fun xs H Q => ∃ i, xs = [.int i] ∧ Q (.int (if i < 0 then -i else i)) H) := by
  intro pins s σ H xs us Q I r h
  obtain ⟨i, rfl, q⟩ := h
  obtain ⟨u, rfl, t, rfl⟩ := vals1 r
  exact call_abs_int fun u tk => ⟨.int (if i < 0 then -i else i), H, I.tok _, ⟨_, rfl⟩, q⟩
theorem call_min2 (hc : X.calm = true) : CallR X (.builtin "min") (fun xs H Q => ∃ i j, xs = [.int i, .int j] ∧ Q (.int (if j < i then j else i)) H) := by
  intro pins s σ H xs us Q I r h
  obtain ⟨i, j, rfl, q⟩ := h
  obtain ⟨u, w', rfl, ⟨t, rfl⟩, ⟨t', rfl⟩⟩ := vals2 r
  refine min_two_ints (I.ok.hd hc) fun h' tk k => ⟨_, H, I.kept k, ?_, q⟩
  by_cases hj : j < i
  · rw [if_pos hj, if_pos hj]; exact ⟨_, rfl⟩
  · rw [if_neg hj, if_neg hj]; exact ⟨_, rfl⟩
/-- len of a str, a bytes, a list, a tuple -/
def LenV (K : PySem.W.Frag) (x : V) (H : Hp) (n : Nat) : Prop :=
  match x with
  | .str y => y.length ≤ sizeLine ∧ n = y.length
  | .byt y => y.size ≤ sizeLine ∧ n = y.size
  | .ref p => (∃ xs, SqL K H p xs ∧ n = xs.length) ∨ ∃ xs, SqT K H p xs ∧ n = xs.length
  | _ => False
end
end L2

namespace L2
open PySem PySem.Spec PyProof.Rows

/-! ### an instance, its attributes a map -/
structure ObjM (h : Heap) (x dx C : Addr) (mA : Str → Option Value) : Prop where
  obj : h.get? x = some (PySem.W.instObj C dx)
  ns : h.Ns1 dx mA
  ne : dx ≠ x

section
variable {prog : Program} {w : World} {A : Around} {E : Value → Shared → Prop} {s : Shared} {K : PySem.W.Frag} {x dx C f : Addr} {mA : Str → Option Value} {name : Str} {v : Value}

end

/-! ### the attributes as a list of pairs -/
def putF (f : Str) (v : V) : List (Str × V) → List (Str × V)
  | [] => [(f, v)]
  | (g, x) :: r => if g = f then (g, v) :: r else (g, x) :: putF f v r
theorem RelO.some_of {v : V} {o : Option Value} (r : RelO (some v) o) : ∃ u, o = some u ∧ RelV v u := by
  cases o with
  | none => exact (show False from r).elim
  | some u => exact ⟨u, rfl, r⟩
theorem handed_of {v : V} {u : Value} (r : RelV v u) : PySem.W.handedIn u = true := by
  cases v with
  | non => cases (show u = Value.none from r); rfl
  | bl b => cases (show u = Value.bool b from r); rfl
  | int i => obtain ⟨t, e⟩ := (show ∃ t, u = Value.int i t from r); cases e; rfl
  | str x => obtain ⟨t, e⟩ := (show ∃ t, u = Value.str x t from r); cases e; rfl
  | byt b => obtain ⟨t, e⟩ := (show ∃ t, u = Value.bytes b t from r); cases e; rfl
  | flt b => obtain ⟨t, e⟩ := (show ∃ t, u = Value.float b t from r); cases e; rfl
  | ref a => cases (show u = Value.ref a from r); rfl
  | ty n => cases (show u = Value.type n from r); rfl

section
variable {P : Program} {w : World} {H H' : Hp} {h h' : Heap} {a C dx : Addr} {fs fs' : List (Str × V)}
end

/-! ### what of the text a class must have -/
structure Cls (K : PySem.W.Frag) (C : Addr) : Prop where
  pg : PySem.W.plainGet K C Str.empty = true
  hd : PySem.W.hasDictIn K C = true
  po : PySem.W.plainOver K C = true
  sa : PySem.W.findIn K (.ref C) "__setattr__" = some (some (.builtin "object.__setattr__"))
/-- no class of it has the name -/
def NoAttr (K : PySem.W.Frag) (C : Addr) (f : Str) : Prop := PySem.W.findIn K (.ref C) f = some none
/-- a constant of the class -/
structure Con (K : PySem.W.Frag) (C : Addr) (f : Str) (v : V) (u : Value) : Prop where
  at_ : PySem.W.findIn K (.ref C) f = some (some u)
  rel : RelV v u
  get : PySem.W.specialIn K u "__get__" = some none
  cp : PySem.W.copiedNames.contains f = false
/-- a method: a plain def of the class or of one above it -/
structure Meth (K : PySem.W.Frag) (C : Addr) (m : Str) (f : Addr) : Prop where
  at_ : PySem.W.findIn K (.ref C) m = some (some (.ref f))
  fn : PySem.W.isFn K (.ref f) = true
  kp : PySem.W.keepIn K (.ref f) = true

section
variable {X : Cx} {pins : List (Addr × Obj)} {σ : St} {H : Hp} {s : Shared} {a C dx : Addr} {fs : List (Str × V)} {f : Str} {v : V} {A : Around} {E : Value → Shared → Prop}

/-- e.f where nothing but the object is asked: through attributeBase (super) and the last hold -/
theorem attr_of {prog : Program} {w : World} {env : Env} {e : Expr} {f : Str} {pos : Pos} {s : Shared} {Q : Value → Shared → Prop} (hb : attributeBase e f env (eval e env) = eval e env)
    (h : wpAny (model prog w) A (eval e env) (fun o s₁ => wpAny (model prog w) A (getAttr o f true) Q E s₁) E s) : wpAny (model prog w) A (eval (.Attribute e f pos) env) Q E s :=
  Attribute_any_ h (by rw [arm_eval_Attribute, hb])
end

/-! ### readings and rules -/
/-- e.f, an attribute of the instance -/
def tFld (K : PySem.W.Frag) (ta : TE) (f : Str) : TE := fun σ H Q => ta σ H fun x H1 => ∃ a C dx fs v, x = .ref a ∧ H1 a = some (.ins C dx fs) ∧ Cls K C ∧ NoAttr K C f ∧ fs.lookup f = some v ∧ Q v H1
/-- e.f, a constant of the class -/
def tCon (K : PySem.W.Frag) (ta : TE) (f : Str) : TE := fun σ H Q => ta σ H fun x H1 => ∃ a C dx fs v u, x = .ref a ∧ H1 a = some (.ins C dx fs) ∧ Cls K C ∧ Con K C f v u ∧ fs.lookup f = none ∧ Q v H1
/-- e.f = value -/
def sFld (K : PySem.W.Frag) (ta tv : TE) (f : Str) : TS := fun D σ H => tv σ H fun y H1 => ta σ H1 fun x H2 => ∃ a C dx fs, x = .ref a ∧ H2 a = some (.ins C dx fs) ∧ Cls K C ∧ NoAttr K C f ∧ fs.length < 1000 ∧
  D.nx σ (upd H2 a (.ins C dx (putF f y fs)))
/-- an augmented operator on two values -/
def InOp (X : Cx) (op : Operator) (rd : V → V → Hp → VK → Prop) : Prop :=
  ∀ (pins : List (Addr × Obj)) (s : Shared) (σ : St) (H : Hp) (x y : V) (u v : Value) (Q : VK), Inv X pins σ H s → RelV x u → RelV y v → rd x y H Q → wpAny (model X.prog X.w) X.A (inplaceOp op u v) (EP X pins σ Q) X.xe s
/-- e.f op= value -/
def sFldAug (K : PySem.W.Frag) (ta tv : TE) (rd : V → V → Hp → VK → Prop) (f : Str) : TS := fun D σ H => ta σ H fun x H1 => ∃ a C dx fs v, x = .ref a ∧ H1 a = some (.ins C dx fs) ∧ Cls K C ∧ NoAttr K C f ∧ fs.lookup f = some v ∧
  tv σ H1 fun y H2 => rd v y H2 fun z H3 => ∃ dx' fs', H3 a = some (.ins C dx' fs') ∧ fs'.length < 1000 ∧ D.nx σ (upd H3 a (.ins C dx' (putF f z fs')))

section
variable {X : Cx} {o e value : Expr} {f : Str} {pos pos' tpos : Pos} {ta tv : TE}
def rAdd : V → V → Hp → VK → Prop := fun x y H Q => ∃ i j, x = .int i ∧ y = .int j ∧ Q (.int (i + j)) H
def rSub : V → V → Hp → VK → Prop := fun x y H Q => ∃ i j, x = .int i ∧ y = .int j ∧ Q (.int (i - j)) H
end

/-! ### isinstance -/
section
variable {X : Cx} {pins : List (Addr × Obj)} {σ : St} {H : Hp} {s : Shared} {A : Around} {E : Value → Shared → Prop} {Q : Value → Shared → Prop} {c : Value} {b : Bool}
/-- the type of a value, as the fragment's deciders take it; for an instance its class -/
inductive TyOf (K : PySem.W.Frag) (H : Hp) : V → Value → Prop where
  | non : TyOf K H .non (.type "NoneType")
  | bl (x : Bool) : TyOf K H (.bl x) (.type "bool")
  | int (i : Int) : TyOf K H (.int i) (.type "int")
  | str (x : Str) : TyOf K H (.str x) (.type "str")
  | flt (x : UInt64) : TyOf K H (.flt x) (.type "float")
  | lst {a : Addr} {xs : List V} (e : H a = some (.lst xs)) : TyOf K H (.ref a) (.type "list")
  | frz {a : Addr} {o : Obj} {xs : List V} (e : H a = some (.frz o (.lst xs))) : TyOf K H (.ref a) (.type "list")
  | tup {a : Addr} {xs : List V} (e : H a = some (.tup xs)) : TyOf K H (.ref a) (.type "tuple")
  | dK {a : Addr} {kvs : List (Key × V)} (e : H a = some (.dK kvs)) : TyOf K H (.ref a) (.type "dict")
  | dT {a : Addr} {kvs : List (List Key × V)} (e : H a = some (.dT kvs)) : TyOf K H (.ref a) (.type "dict")
  | ins {a C dx : Addr} {fs : List (Str × V)} (e : H a = some (.ins C dx fs)) (cl : Cls K C) (ha : PySem.W.findIn K (.ref C) "__class__" = some (some (.builtin "object.__class__")))
      (hn : PySem.W.specialIn K (.builtin "object.__class__") "__get__" = some (some (.builtin "getset_descriptor.__get__"))) (htk : PySem.W.takesIn K (.builtin "object.__class__") = some true)
      (hm : PySem.W.mroIn K C (.type "object") = some true) : TyOf K H (.ref a) (.ref C)
end
end L2

namespace L2
open PySem PySem.Spec PyProof.Rows

/-! ### room -/
structure Room (k : Nat) (A : Around) : Prop where
  hd : A.handled = none
  dp : A.depth + 3 * k + 5 < recursionLimit
  un : A.units + 16 * k + 200 < cLine
theorem Room.mono {j k : Nat} {A : Around} (r : Room k A) (h : j ≤ k) : Room j A := ⟨r.hd, by have := r.dp; omega, by have := r.un; omega⟩
theorem Room.deeper {k : Nat} {A : Around} (r : Room (k + 1) A) (env : Env) : Room k (A.deeper env) :=
  ⟨r.hd, by have := r.dp; show A.depth + 1 + 3 * k + 5 < _; omega, by have := r.un; show A.units + 3 + 16 * k + 200 < _; omega⟩
theorem make_depth {A : Around} {C : Addr} {us : List Value} {kw : List (Str × Value)} : (A.under (.builtin "type.__call__" ⟨.ref C :: us, kw⟩)).depth = A.depth + 1 := by
  first | rfl | simp [Around.under, Code.weight, Code.isCreation, Code.isGuard, Code.isCaller, Code.frames, Code.isFrame, guardIds]
theorem make_units {A : Around} {C : Addr} {us : List Value} {kw : List (Str × Value)} : (A.under (.builtin "type.__call__" ⟨.ref C :: us, kw⟩)).units = A.units + 1 := by
  first | rfl | simp [Around.under, Code.cUnits, Code.frames, Code.isFrame]
theorem Room.make {k : Nat} {A : Around} (r : Room (k + 1) A) (C : Addr) (us : List Value) (kw : List (Str × Value)) : Room k (A.under (.builtin "type.__call__" ⟨.ref C :: us, kw⟩)) :=
  ⟨r.hd, by have := r.dp; rw [make_depth]; omega, by have := r.un; rw [make_units]; omega⟩
theorem Room.depth {k : Nat} {A : Around} (r : Room k A) : A.depth < recursionLimit := by have := r.dp; omega
theorem Room.units {k : Nat} {A : Around} (r : Room k A) : A.units + 64 < cLine := by have := r.un; omega
/-! ### argument lists and displays -/
def tNil : TA := fun _ H Q => Q [] H
def tCons (ta : TE) (tr : TA) : TA := fun σ H Q => ta σ H fun x H1 => tr σ H1 fun xs H2 => Q (x :: xs) H2
section
variable {X : Cx} {e : Expr} {es : List Expr} {te : TE} {t : TA} {pos : Pos}
theorem pa_nil : PA X [] tNil := fun _ _ _ _ H Q I h => Calls.spliced_nil ⟨[], H, I, .nil, h⟩
theorem pa_cons (ha : PE X e te) (hr : PA X es t) (hs : starEach (e :: es) X.env = (false, eval e X.env) :: starEach es X.env := by rfl) : PA X (e :: es) (tCons te t) := by
  intro pos pins s σ H Q I h
  rw [hs]
  show wpAny _ _ (spliced ((false, eval e X.env) :: backTo pos (starEach es X.env))) _ _ s
  refine Calls.spliced_cons (thn (ha pins s σ H _ I h) fun u s1 ⟨x, H1, I1, r1, q1⟩ => ?_)
  exact thn (hr pos pins s1 σ H1 _ I1 q1) fun us s2 ⟨xs, H2, I2, r2, q2⟩ => ⟨x :: xs, H2, I2, .cons r1 r2, q2⟩

/-- a tuple, a list of written items -/
def tTup (t : TA) : TE := fun σ H Q => t σ H fun xs H1 => xs.length ≤ sizeLine ∧ ∀ p, H1 p = none → Q (.ref p) (upd H1 p (.tup xs))
def tLst (t : TA) : TE := fun σ H Q => t σ H fun xs H1 => xs.length ≤ sizeLine ∧ ∀ p, H1 p = none → Q (.ref p) (upd H1 p (.lst xs))
theorem pe_tup {x1} (h : PA X es t) : PE X (.Tuple es x1 pos) (tTup t) := by
  intro pins s σ H Q I hq
  refine wpAny_Tuple_spliced (thn (h pos pins s σ H _ I hq) fun us s1 ⟨xs, H1, I1, r, z, q⟩ => ⟨by rw [← r.length]; exact z, ?_⟩)
  have hf : H1 s1.heap.objs.size = none := I1.hok.fresh (Nat.le_refl _)
  refine ⟨.ref s1.heap.objs.size, upd H1 s1.heap.objs.size (.tup xs), I1.laid (t' := s1.toks) (fun b u e => Heap.get?_push_of_some _ e) (Nat.le_refl _) ?_, rfl, q _ hf⟩
  exact ⟨z, us, r, ⟨_, Heap.get?_push_size _ rfl, rfl, _, rfl⟩⟩
theorem pe_lst (h : PA X es t) : PE X (.List es pos) (tLst t) := by
  intro pins s σ H Q I hq
  refine wpAny_List_spliced (thn (h pos pins s σ H _ I hq) fun us s1 ⟨xs, H1, I1, r, z, q⟩ => ⟨by rw [← r.length]; exact z, ?_⟩)
  have hf : H1 s1.heap.objs.size = none := I1.hok.fresh (Nat.le_refl _)
  refine ⟨.ref s1.heap.objs.size, upd H1 s1.heap.objs.size (.lst xs), I1.laid (t' := s1.toks) (fun b u e => Heap.get?_push_of_some _ e) (Nat.le_refl _) ?_, rfl, q _ hf⟩
  exact ⟨z, us, 0, r, Heap.get?_push_size _ rfl⟩
end

/-! ### what a def promises -/
/-- a def's promise: the bound arguments in the parameters' order, the heap, the wanted end, the wanted exception -/
abbrev Sp := List V → Hp → VK → XK → Prop
/-- how an exception lies behind a call (file 08 gives it): the callers' frames, abstract heap and state ahead of the call, the wish, the exception, the state -/
abbrev CXT := List Env → Hp → Shared → XK → Value → Shared → Prop

/-- the state at a call -/
structure Env0 (P : Program) (w : World) (K : PySem.W.Frag) (mg : Str → Option Value) (base : Heap) (A : Around) (outer : List Env) (s : Shared) (H : Hp) : Prop where
  frames : A.frames = some outer
  mod : Mod K mg base
  bs : ∀ b o, base.get? b = some o → s.heap.get? b = some o ∧ H b = none
  bsz : base.objs.size ≤ s.heap.objs.size
  funs : s.heap.FunFrames base outer
  frf : ∀ b ∈ frs outer, H b = none
  hok : HOk P w H s.heap
  bare : AllBare s.gens
/-- a call's end -/
def CE (outer : List Env) (P : Program) (w : World) (H : Hp) (s : Shared) (Q : VK) (u : Value) (s' : Shared) : Prop :=
  ∃ v H', s'.os = s.os ∧ AllBare s'.gens ∧ Un (frs outer) [] H H' s.heap s'.heap ∧ HOk P w H' s'.heap ∧ RelV v u ∧ Q v H'
def CR (CX : CXT) (outer : List Env) (P : Program) (w : World) (H : Hp) (s : Shared) (Q : VK) (E : XK) (r : Result) (s' : Shared) : Prop :=
  match r with
  | .ok (.ret u) => CE outer P w H s Q u s'
  | .ok _ => False
  | .error e => CX outer H s E e s'
structure FnOk (P : Program) (w : World) (K : PySem.W.Frag) (mg : Str → Option Value) (base : Heap) (CX : CXT) (k : Nat) (f : Addr) (fd : FuncData) (ps : List Str) (sp : Sp) : Prop where
  len : ∀ vs H Q E, sp vs H Q E → vs.length = ps.length
  run : ∀ (A : Around) (outer : List Env) (s : Shared) (H : Hp) (args : Args) (us : List Value) (vs : List V) (Q : VK) (E : XK), Room k A → Env0 P w K mg base A outer s H → BindsTo s fd args (ps.zip us) → Vals vs us → sp vs H Q E →
    codeAny (model P w) A (.call (.ref f) args) (CR CX outer P w H s Q E) s
theorem FnOk.mono {P : Program} {w : World} {K : PySem.W.Frag} {mg : Str → Option Value} {base : Heap} {CX : CXT} {j k : Nat} {f : Addr} {fd : FuncData} {ps : List Str} {sp : Sp} (F : FnOk P w K mg base CX j f fd ps sp) (h : j ≤ k) :
    FnOk P w K mg base CX k f fd ps sp := ⟨F.len, fun A outer s H args us vs Q E hr => F.run A outer s H args us vs Q E (hr.mono h)⟩
theorem Env0.make {P : Program} {w : World} {K : PySem.W.Frag} {mg : Str → Option Value} {base : Heap} {A : Around} {outer : List Env} {s : Shared} {H : Hp} (e : Env0 P w K mg base A outer s H) (C : Addr) (us : List Value) (kw : List (Str × Value)) :
    Env0 P w K mg base (A.under (.builtin "type.__call__" ⟨.ref C :: us, kw⟩)) outer s H := ⟨by first | exact e.frames | (simpa [Around.under, Code.envs, Code.isFrame, pushEnvs] using e.frames), e.mod, e.bs, e.bsz, e.funs, e.frf, e.hok, e.bare⟩
section
variable {X : Cx} {pins : List (Addr × Obj)} {σ : St} {H : Hp} {s s' : Shared}
/-- from a body: what a callee wants -/
theorem Inv.env0 (I : Inv X pins σ H s) : Env0 X.prog X.w X.K X.mg X.base X.A X.stack s H :=
  ⟨I.ok.frames, I.ok.mod, I.bs, Nat.le_trans I.ok.bsz I.sz, I.stack, I.stkFree, I.hok, I.bare⟩
/-- behind a call -/
theorem Inv.after {Q : VK} {u : Value} (I : Inv X pins σ H s) (h : CE X.stack X.prog X.w H s Q u s') : EP X pins σ Q u s' := by
  obtain ⟨v, H', os, bare, un, hok, r, q⟩ := h
  obtain ⟨hh, g, d, t, os'⟩ := s'
  obtain rfl : os' = s.os := os
  exact ⟨v, H', I.call (h' := hh) (g' := g) (d' := d) (t' := t) (ch := []) un hok bare (fun b z => absurd z (by simp)), r, q⟩
end

/-! ### calls -/
/-- f(..): the written arguments, then the defaults dvs; E: what is wanted of an exception -/
def tCall (sp : Sp) (dvs : List V) (E : XK) (t : TA) : TE := fun σ H Q => t σ H fun vs H1 => sp (vs ++ dvs) H1 Q E
/-- o.m(..) of an instance of the class at C -/
def tMeth (C : Addr) (m : Str) (sp : Sp) (dvs : List V) (E : XK) (ta : TE) (t : TA) : TE := fun σ H Q => ta σ H fun x H1 => ∃ a dx fs, x = .ref a ∧ H1 a = some (.ins C dx fs) ∧ fs.lookup m = none ∧
  t σ H1 fun vs H2 => sp (x :: (vs ++ dvs)) H2 Q E
/-- C(..): a new instance and its dict, then __init__ -/
def tMake (C : Addr) (sp : Sp) (dvs : List V) (E : XK) (t : TA) : TE := fun σ H Q => t σ H fun vs H1 => ∀ x dx, H1 x = none → H1 dx = none → dx ≠ x →
  sp (.ref x :: (vs ++ dvs)) (upd (upd H1 dx (.own x)) x (.ins C dx [])) (fun v H2 => v = .non ∧ Q (.ref x) H2) E

/-- how the parameters are bound: us the positional arguments, kw the keywords' values by name, ds the defaults that fill up -/
def Binds (K : PySem.W.Frag) (fd : FuncData) (ps : List Str) (ds : List Value) : Prop :=
  ∀ (s : Shared) (us : List Value), K.In s.heap → (us ++ ds).length = ps.length → BindsTo s fd ⟨us, []⟩ (ps.zip (us ++ ds))
/-- every parameter is given -/
theorem Binds.all {K : PySem.W.Frag} {fd : FuncData} {ps : List Str} (h : ∀ us : List Value, us.length = ps.length → bindArgs fd ⟨us, []⟩ = pure (ps.zip us)) : Binds K fd ps [] := fun s us _ hl => by
  rw [List.append_nil] at hl ⊢
  exact .of_eq (h us hl)

/-- an exception of a callee reaches what this body wants of exceptions -/
def Passes (CX : CXT) (X : Cx) (E : XK) : Prop := ∀ (pins : List (Addr × Obj)) (σ : St) (H : Hp) (s : Shared) (e : Value) (s' : Shared), Inv X pins σ H s → CX X.stack H s E e s' → X.xe e s'

section
variable {X : Cx} {CX : CXT} {k : Nat} {f C : Addr} {fd : FuncData} {ps : List Str} {sp : Sp} {dvs : List V} {ds : List Value} {E : XK} {x m : Str} {p pos apos : Pos} {e o : Expr} {es : List Expr} {ta : TE} {t : TA}

/-- the callee runs -/
theorem run_fn {pins : List (Addr × Obj)} {σ : St} {H : Hp} {s : Shared} {Q : VK} {us : List Value} {vs : List V} (F : FnOk X.prog X.w X.K X.mg X.base CX k f fd ps sp) (hr : Room k X.A) (hb : Binds X.K fd ps ds) (hd : Vals dvs ds) (hx : Passes CX X E)
    (I : Inv X pins σ H s) (r : Vals vs us) (h : sp (vs ++ dvs) H Q E) : wpAny (model X.prog X.w) X.A (call (.ref f) us) (EP X pins σ Q) X.xe s := by
  have r2 : Vals (vs ++ dvs) (us ++ ds) := r.append hd
  have hl : (us ++ ds).length = ps.length := by rw [← r2.length]; exact F.len _ _ _ _ h
  refine wpAny_call (codeAny_mono (F.run X.A X.stack s H ⟨us, []⟩ (us ++ ds) (vs ++ dvs) Q E hr I.env0 (hb s us I.kIn hl) r2 h) fun r s' hq => ?_)
  cases r with
  | error e => exact hx pins σ H s e s' I hq
  | ok fl =>
    cases fl with
    | ret u => exact I.after hq
    | next => exact False.elim hq
    | brk => exact False.elim hq
    | cont => exact False.elim hq

theorem pe_call (F : FnOk X.prog X.w X.K X.mg X.base CX k f fd ps sp) (hr : Room k X.A) (hg : Gl X x) (hm : X.mg x = some (.ref f)) (hk : PySem.W.keepIn X.K (.ref f) = true) (hb : Binds X.K fd ps ds) (hd : Vals dvs ds) (hx : Passes CX X E)
    (ha : PA X (e :: es) t) (hdb : (x == ("__debug__" : Str)) = false := by decide) (he : starEach (e :: es) X.env = (false, eval e X.env) :: starEach es X.env := by rfl) (hpl : (backTo pos (starEach es X.env)).any (·.1) = false := by rfl) :
    PE X (.Call (.Name x p) (e :: es) [] pos) (tCall sp dvs E t) := by
  intro pins s σ H Q I h
  refine wpAny_Call_Name_kw (ld_glob I hg hm ?_ hdb)
  refine PySem.W.callWith_K (h₀ := X.base) I.ok.mod.kin hk (thn (ha pos pins s σ H _ I h) fun us s1 ⟨vs, H1, I1, r, q⟩ => ⟨I1.kIn, ?_⟩) he hpl
  exact run_fn F hr hb hd hx I1 r q
/-- what a class must have to be made -/
structure Mk (K : PySem.W.Frag) (C f : Addr) : Prop where
  makes : PySem.W.makesIn K C = true
  init : PySem.W.findIn K (.ref C) "__init__" = some (some (.ref f))
  fn : PySem.W.isFn K (.ref f) = true
  kp : PySem.W.keepIn K (.ref C) = true

end

/-! ### keywords -/
/-- the values of the keywords, from the left -/
def PK (X : Cx) (kws : List Keyword) (t : TA) : Prop :=
  ∀ (pos : Pos) (pins : List (Addr × Obj)) (s : Shared) (σ : St) (H : Hp) (Q : List V → Hp → Prop), Inv X pins σ H s → t σ H Q → wpAny (model X.prog X.w) X.A (evalAll ((backToKw pos (keywordEach kws X.env)).map (·.2))) (AP X pins σ Q) X.xe s
section
variable {X : Cx} {CX : CXT} {k : Nat} {f C : Addr} {fd : FuncData} {ps ks : List Str} {sp : Sp} {E : XK} {x m : Str} {p pos apos kpos : Pos} {e o : Expr} {es : List Expr} {kws : List Keyword} {te ta : TE} {t tk : TA} {nm : Option Str}
/-- how a call with keywords binds: g puts the positional values us and the keywords' values ws (names ks) in the parameters' order, defaults among them -/
structure KBinds (K : PySem.W.Frag) (fd : FuncData) (ps ks : List Str) (g : List Value → List Value → List Value) (gV : List V → List V → List V) : Prop where
  to : ∀ (s : Shared) (us ws : List Value), K.In s.heap → (g us ws).length = ps.length → BindsTo s fd ⟨us, ks.zip ws⟩ (ps.zip (g us ws))
  rel : ∀ {vs : List V} {us : List Value} {zs : List V} {ws : List Value}, Vals vs us → Vals zs ws → Vals (gV vs zs) (g us ws)
def tCallK (sp : Sp) (gV : List V → List V → List V) (E : XK) (t tk : TA) : TE := fun σ H Q => t σ H fun vs H1 => tk σ H1 fun zs H2 => sp (gV vs zs) H2 Q E
variable {g : List Value → List Value → List Value} {gV : List V → List V → List V}
end

/-! ### a def's body keeps its promise -/
/-- names: the parameters first -/
structure FnScope (N P : List Str) (sc : Scope) : Prop where
  kind : sc.kind = .function
  co : sc.isCoroutine = false
  gen : sc.isGenerator = false
  nd : N.Nodup
  pre : N.take P.length = P
  par : ∀ x ∈ P, sc.names.lookup x = some .local ∨ sc.names.lookup x = some .cell
  nofree : ∀ y ∈ sc.names, y.2 ≠ .free

theorem bindL_out {kindOf : Str → Option NameKind} {x : Str} : ∀ {binds : List (Str × Value)} {m : Str → Option Value}, (∀ v, (x, v) ∉ binds) → bindL kindOf binds m x = m x
  | [], _, _ => rfl
  | (n, v) :: r, m, h => by
    unfold bindL
    rw [bindL_out fun w hw => h w (List.mem_cons_of_mem _ hw)]
    split
    · have : x ≠ n := by rintro rfl; exact h v List.mem_cons_self
      simp [this]
    · rfl
theorem bindC_out {kindOf : Str → Option NameKind} {x : Str} : ∀ {binds : List (Str × Value)} {m : Str → Option Value}, (∀ v, (x, v) ∉ binds) → bindC kindOf binds m x = m x
  | [], _, _ => rfl
  | (n, v) :: r, m, h => by
    unfold bindC
    rw [bindC_out fun w hw => h w (List.mem_cons_of_mem _ hw)]
    split
    · rfl
    · have : x ≠ n := by rintro rfl; exact h v List.mem_cons_self
      simp [this]
theorem bindL_get {kindOf : Str → Option NameKind} {x : Str} {v : Value} : ∀ {P : List Str} {vs : List Value} {i : Nat} {m : Str → Option Value}, P.Nodup → P[i]? = some x → vs[i]? = some v → kindOf x = some .local →
    bindL kindOf (P.zip vs) m x = some v
  | [], _, _, _, _, h, _, _ => by simp at h
  | _ :: _, [], _, _, _, _, h, _ => by simp at h
  | p :: P, w :: vs, 0, m, nd, h1, h2, hk => by
    simp at h1 h2; subst h1; subst h2
    show bindL kindOf ((p, w) :: P.zip vs) m p = _
    unfold bindL
    rw [bindL_out fun v hv => (List.nodup_cons.mp nd).1 (List.of_mem_zip hv).1, if_pos hk]
    simp
  | p :: P, w :: vs, i + 1, m, nd, h1, h2, hk => by
    show bindL kindOf ((p, w) :: P.zip vs) m x = _
    unfold bindL
    exact bindL_get (i := i) (List.nodup_cons.mp nd).2 (by simpa using h1) (by simpa using h2) hk
theorem bindC_get {kindOf : Str → Option NameKind} {x : Str} {v : Value} : ∀ {P : List Str} {vs : List Value} {i : Nat} {m : Str → Option Value}, P.Nodup → P[i]? = some x → vs[i]? = some v → kindOf x ≠ some .local →
    bindC kindOf (P.zip vs) m x = some v
  | [], _, _, _, _, h, _, _ => by simp at h
  | _ :: _, [], _, _, _, _, h, _ => by simp at h
  | p :: P, w :: vs, 0, m, nd, h1, h2, hk => by
    simp at h1 h2; subst h1; subst h2
    show bindC kindOf ((p, w) :: P.zip vs) m p = _
    unfold bindC
    rw [bindC_out fun v hv => (List.nodup_cons.mp nd).1 (List.of_mem_zip hv).1, if_neg hk]
    simp
  | p :: P, w :: vs, i + 1, m, nd, h1, h2, hk => by
    show bindC kindOf ((p, w) :: P.zip vs) m x = _
    unfold bindC
    exact bindC_get (i := i) (List.nodup_cons.mp nd).2 (by simpa using h1) (by simpa using h2) hk

/-- the names' values at the entry -/
def start (N : List Str) (vs : List V) : St := vs.map some ++ List.replicate (N.length - vs.length) none

/-- the context of a def's body, at its entry; an exception leaves the frame, then lies as CX says -/
def cxOf (CX : CXT) (P : Program) (w : World) (K : PySem.W.Frag) (mg : Str → Option Value) (base : Heap) (N : List Str) (qual : Str) (scope : Scope) (f : Addr) (cd : Value) (A : Around) (outer : List Env) (s : Shared) (H : Hp) (E : XK) : Cx where
  prog := P
  w := w
  K := K
  mg := mg
  base := base
  A := A.deeper (envOfC qual scope s.heap.objs.size f cd)
  N := N
  s₀ := s
  H₀ := H
  env := envOfC qual scope s.heap.objs.size f cd
  outer := outer
  stack := envOfC qual scope s.heap.objs.size f cd :: outer
  ex := []
  calm := true
  fn := fun _ => true
  pn := []
  xe := fun e s' => wpAny (model P w) (A.deeper (envOfC qual scope s.heap.objs.size f cd)) (leaving (envOfC qual scope s.heap.objs.size f cd) e) (fun _ s'' => CX outer H s E e s'') (fun e' s'' => CX outer H s E e' s'') s'

theorem cell_has {sc : Scope} {n : Nat} {x : Str} (h : sc.names.lookup x = some .cell) : ∃ c, (cellsFrom n sc.names []).lookup x = some c := by
  have q := PySem.W.cellsFrom_some sc.names n [] (.inl h)
  exact Option.isSome_iff_exists.mp q

theorem inv_start {CX : CXT} {P : Program} {w : World} {K : PySem.W.Frag} {mg : Str → Option Value} {base : Heap} {N ps : List Str} {qual : Str} {scope : Scope} {f : Addr} {cd : Value} {A : Around} {outer : List Env} {s s1 : Shared} {H : Hp} {E : XK} {us : List Value} {vs : List V}
    (S : FnScope N ps scope) (hd : A.handled = none) (e0 : Env0 P w K mg base A outer s H) (hl : vs.length = ps.length) (r : Vals vs us)
    (x : InCallC s s.heap.objs.size (bindL (envOfC qual scope s.heap.objs.size f cd).kindOf (ps.zip us) fun _ => none) (cellsFrom (s.heap.objs.size + 1) scope.names []) (bindC (envOfC qual scope s.heap.objs.size f cd).kindOf (ps.zip us) fun _ => none) s1) :
    Inv (cxOf CX P w K mg base N qual scope f cd A outer s H E) [] (start N vs) H s1 := by
  have hpl : ps.length ≤ N.length := by have := congrArg List.length S.pre; rw [List.length_take] at this; omega
  obtain ⟨h1, tk, rfl, hk⟩ := x.done
  have noA : ∀ b : Addr, b ∉ (cxOf CX P w K mg base N qual scope f cd A outer s H E).ex := fun b z => absurd (show b ∈ ([] : List Addr) from z) (by simp)
  refine ⟨⟨e0.mod, S.kind, rfl, rfl, Nat.le_refl _, fun y z c h1 h2 => ?_, fun y hy => ?_, fun y c _ h => ?_, fun _ => hd, Around.frames_deeper e0.frames, .inr ⟨rfl, rfl⟩, fun b z => absurd z (noA b), e0.bs, e0.bsz, fun b _ _ => noA b, fun b z => absurd z (noA b), e0.funs, e0.frf⟩,
    rfl, e0.bare, Un.kept hk, ⟨_, x.toInCall.ns, fun i y v h1 h2 h3 => ?_⟩, fun y c h => ⟨_, x.cell y c h⟩, e0.hok.fresh (Nat.le_refl _), fun y c h => ?_, fun p hp => absurd (show p ∈ ([] : List (Addr × Obj)) from hp) (by simp), e0.hok.kept hk, ?_⟩
  · exact name_of_addr x.apart (PySem.mem_of_lookup h1) (PySem.mem_of_lookup h2)
  · have hy : scope.names.lookup y = some .cell ∨ scope.names.lookup y = some .free := hy
    rcases hy with hy | hy
    · exact cell_has hy
    · exact absurd rfl (S.nofree _ (PySem.mem_of_lookup hy))
  · exact Nat.le_of_lt (x.above y c (PySem.mem_of_lookup h))
  · have hi : i < vs.length := by
      unfold start at h2
      by_cases hi : i < vs.length
      · exact hi
      · rw [List.getElem?_append_right (by simpa using hi)] at h2
        rw [List.getElem?_replicate] at h2
        split at h2 <;> cases h2
    have ha : vs[i]? = some v := by
      unfold start at h2
      rw [List.getElem?_append_left (by simpa using hi), List.getElem?_map] at h2
      cases e : vs[i]? with
      | none => rw [e] at h2; cases h2
      | some a => rw [e] at h2; cases h2; rfl
    obtain ⟨u, hu, rv⟩ := r.get ha
    have hp : ps[i]? = some y := by
      rw [← S.pre, List.getElem?_take_of_lt (by omega)]; exact h1
    have ndP : ps.Nodup := by rw [← S.pre]; exact S.nd.sublist (List.take_sublist _ _)
    refine ⟨u, rv, ?_⟩
    rcases S.par y (List.mem_of_getElem? hp) with k | k
    · exact .inl ⟨k, bindL_get ndP hp hu k⟩
    · obtain ⟨c, e⟩ := cell_has (n := s.heap.objs.size + 1) k
      refine .inr ⟨.inl k, c, e, ?_⟩
      have q := x.cell y c e
      rw [bindC_get ndP hp hu (by show scope.names.lookup y ≠ _; rw [k]; decide)] at q
      exact q
  · exact e0.hok.fresh (Nat.le_of_lt (x.above y c (PySem.mem_of_lookup h)))
  · unfold start
    show _ = N.length
    rw [List.length_append, List.length_map, List.length_replicate]
    omega

/-- THE RULE: a def (or a method) of the text, by its body. The body's reading t is chosen for each entry; it is run at the parameters' values -/
theorem fn_of {CX : CXT} {P : Program} {w : World} {K : PySem.W.Frag} {mg : Str → Option Value} {base : Heap} {k : Nat} {f : Addr} {name qual : Str} {params : Arguments} {body : List Stmt} {scope : Scope} {dV kV doc pm cdv ct oc : Value} {an od : Option Addr}
    {osl : Array (Option Value)} {N ps : List Str} {sp : Sp} (lk : K.lookup f = some ⟨oc, od, .func (PySem.W.fnOf name qual params body scope dV kV doc pm an cdv ct), osl⟩) (hcd : PySem.W.codeIn K cdv qual = true) (S : FnScope N ps scope)
    (len : ∀ vs H Q E, sp vs H Q E → vs.length = ps.length)
    (hbody : ∀ (A : Around) (outer : List Env) (s : Shared) (H : Hp) (vs : List V) (Q : VK) (E : XK), Room k (A.deeper (envOfC qual scope s.heap.objs.size f cdv)) → sp vs H Q E →
      ∃ t, PSs (cxOf CX P w K mg base N qual scope f cdv A outer s H E) body t ∧ t { nx := fun _ H' => Q .non H', rt := Q } (start N vs) H) :
    FnOk P w K mg base CX (k + 1) f (PySem.W.fnOf name qual params body scope dV kV doc pm an cdv ct) ps sp := by
  refine ⟨len, fun A outer s H args us vs Q E hr e0 hb r hsp => ?_⟩
  have hl := len _ _ _ _ hsp
  have KX : K.In s.heap := e0.mod.kin.keeps fun b o e => (e0.bs b o e).1
  have lim : s.heap.NoLimit := e0.mod.nolimit.keeps fun b o e => (e0.bs b o e).1
  have hkind : ∀ y ∈ ps.zip us, scope.names.lookup y.1 = some .local ∨ (scope.names.lookup y.1 = some .cell ∧ ((cellsFrom (s.heap.objs.size + 1) scope.names []).lookup y.1).isSome = true) := fun ⟨n, v⟩ hy => by
    rcases S.par n (List.of_mem_zip hy).1 with q | q
    · exact .inl q
    · exact .inr ⟨q, PySem.W.cellsFrom_some _ _ _ (.inl q)⟩
  refine codeAny_call_function hr.depth (KX _ _ lk) rfl S.co S.gen rfl (PySem.W.codeRec_of KX hcd) (hb _ _ _ _ ?_)
  refine wpAny_newFunctionEnv_cells S.kind hkind fun env he s1 x => ?_
  subst he
  refine ⟨lim.keeps x.toInCall.keep, codeAny_func ?_⟩
  obtain ⟨t, ht, hq⟩ := hbody A outer s H vs Q E (hr.deeper _) hsp
  have I : Inv (cxOf CX P w K mg base N qual scope f cdv A outer s H E) [] (start N vs) H s1 := inv_start S hr.hd e0 hl r x
  refine wpAny_mono (ht [] s1 (start N vs) H _ I hq) (fun fl s' hs => ?_) fun e s' hs => hs
  have fin : ∀ {σ' : St} {H' : Hp} {v : V} {u : Value}, Inv (cxOf CX P w K mg base N qual scope f cdv A outer s H E) [] σ' H' s' → RelV v u → Q v H' → CE outer P w H s Q u s' :=
    fun {σ' H' v u} J rv q => ⟨v, H', J.os, J.bare, J.base, J.hok, rv, q⟩
  cases fl with
  | ret u =>
    obtain ⟨v, σ', H', J, rv, q⟩ := hs
    exact fin J rv q
  | next =>
    obtain ⟨σ', H', J, q⟩ := hs
    exact fin (v := V.non) (u := Value.none) J rfl q
  | brk =>
    obtain ⟨_, _, _, q⟩ := hs
    exact False.elim q
  | cont =>
    obtain ⟨_, _, _, q⟩ := hs
    exact False.elim q
end L2

namespace L2
open PySem PySem.Spec PyProof.Rows
section
variable {X : Cx} {x : Str} {p pos : Pos} {e : Expr} {es : List Expr} {t : TA} {id T : String} {r : List V → Hp → VK → Prop}

def tCB (r : List V → Hp → VK → Prop) (t : TA) : TE := fun σ H Q => t σ H fun vs H1 => r vs H1 Q
/-- f(e, ..), f a built-in function -/
theorem pe_callB (hc : CallR X (.builtin id) r) (hg : Gl X x) (hm : X.mg x = none) (hv : bootBuiltins x = some (.builtin id)) (ha : PA X (e :: es) t) (hn : x ≠ "__name__" := by decide) (hdb : (x == ("__debug__" : Str)) = false := by decide)
    (he : starEach (e :: es) X.env = (false, eval e X.env) :: starEach es X.env := by rfl) (hpl : (backTo pos (starEach es X.env)).any (·.1) = false := by rfl) : PE X (.Call (.Name x p) (e :: es) [] pos) (tCB r t) := by
  intro pins s σ H Q I h
  refine wpAny_Call_Name_kw (ld_blt I hg hm hv ?_ hn hdb)
  exact PyProof.Rows.callWith_builtin1 (thn (ha pos pins s σ H _ I h) fun us s1 ⟨vs, H1, I1, r1, q1⟩ => hc pins s1 σ H1 vs us Q I1 r1 q1) he hpl
/-- T(e, ..), T a built-in type -/
theorem pe_callTy (hc : CallR X (.type T) r) (hg : Gl X x) (hm : X.mg x = none) (hv : bootBuiltins x = some (.type T)) (ha : PA X (e :: es) t) (hn : x ≠ "__name__" := by decide) (hdb : (x == ("__debug__" : Str)) = false := by decide)
    (he : starEach (e :: es) X.env = (false, eval e X.env) :: starEach es X.env := by rfl) (hpl : (backTo pos (starEach es X.env)).any (·.1) = false := by rfl) : PE X (.Call (.Name x p) (e :: es) [] pos) (tCB r t) := by
  intro pins s σ H Q I h
  refine wpAny_Call_Name_kw (ld_blt I hg hm hv ?_ hn hdb)
  exact PyProof.Rows.callWith_type1 (thn (ha pos pins s σ H _ I h) fun us s1 ⟨vs, H1, I1, r1, q1⟩ => hc pins s1 σ H1 vs us Q I1 r1 q1) he hpl
end
end L2

namespace HT
open PySem PyProof.Rows

/-- t < u of tuples of ints -/
def lexLt : List Int → List Int → Bool
  | [], [] => false
  | [], _ :: _ => true
  | _ :: _, [] => false
  | x :: xs, y :: ys => if x = y then lexLt xs ys else decide (x < y)
section
open PySem.SeqAt
open PySem.AutoSeq1 (wpAny_loadPart')
open PySem.MeetsSeq PySem.MeetsSeq2 PySem.MeetsSeq3

end

section
variable {prog : Program} {w : World} {A : Around} {E : Value → Shared → Prop} {s : Shared}

/-! ### t[a:b], not the whole -/
/-- a slice's bound as a place among n (d where it is left out) -/
def sIx (n d : Nat) : Option Int → Nat
  | none => d
  | some v => if v < 0 then (v + (n : Int)).toNat else min v.toNat n
theorem sIx_nat (n d k : Nat) : sIx n d (some (k : Int)) = min k n := by
  show (if (k : Int) < 0 then ((k : Int) + (n : Int)).toNat else min (k : Int).toNat n) = min k n
  rw [if_neg (by omega), Int.toNat_natCast]
theorem sIx_le (n d : Nat) (hd : d ≤ n) (o : Option Int) : sIx n d o ≤ n := by
  cases o with
  | none => exact hd
  | some v =>
    show (if v < 0 then (v + (n : Int)).toNat else min v.toNat n) ≤ n
    by_cases hv : v < 0
    · rw [if_pos hv]; omega
    · rw [if_neg hv]; exact Nat.min_le_right _ _
theorem clip_eq (v : Int) (n d : Nat) : (if v < 0 then max (v + (n : Int)) 0 else min v (n : Int)) = ((sIx n d (some v) : Nat) : Int) := by
  show (if v < 0 then max (v + (n : Int)) 0 else min v (n : Int)) = (((if v < 0 then (v + (n : Int)).toNat else min v.toNat n) : Nat) : Int)
  by_cases hv : v < 0
  · simp only [if_pos hv]; omega
  · simp only [if_neg hv]; omega
theorem adjust_gen (lo hi : Option Int) (n : Nat) : Builtin.Slice.sliceAdjust lo hi 1 (n : Int) = (((sIx n 0 lo : Nat) : Int), ((sIx n n hi : Nat) : Int)) := by
  have h1 : ¬ ((1 : Int) < 0) := by omega
  unfold Builtin.Slice.sliceAdjust
  simp only [h1, if_false]
  refine Prod.ext ?_ ?_
  · cases lo with
    | none => rfl
    | some v => exact clip_eq v n 0
  · cases hi with
    | none => rfl
    | some v => exact clip_eq v n n
theorem places_gen (i j : Nat) : Builtin.Slice.slicePlaces (i : Int) (j : Int) 1 = j - i := by
  unfold Builtin.Slice.slicePlaces
  have h1 : (1 : Int) > 0 := by omega
  simp only [h1, if_true, Int.ediv_one]
  split <;> omega
theorem slicePart_ {v : Value} {o : Option Int} {Q : Option Int → Shared → Prop} (p : IsPart v o) (h : Q o s) : wpAny (model prog w) A (Builtin.Slice.slicePartIndex v) Q E s := by
  cases p with
  | none => exact slicePart_none h
  | int i t => exact slicePart_int h
theorem sliceApplied_gen {sl : Addr} {vl vu : Value} {lo hi : Option Int} {n : Nat} {Q : Int × Int × Nat → Shared → Prop} (hs : s.heap.IsSliceOf sl vl vu .none) (pl : IsPart vl lo) (pu : IsPart vu hi)
    (h : Q (((sIx n 0 lo : Nat) : Int), 1, sIx n n hi - sIx n 0 lo) s) : wpAny (model prog w) A (Builtin.Slice.sliceApplied (.ref sl) (pure (n : Int))) Q E s := by
  obtain ⟨os, hos, hcs, hds⟩ := id hs
  unfold Builtin.Slice.sliceApplied Builtin.Slice.sliceFields
  refine wpAny_bind (wpAny_bind (wpAny_field hos hds (x := vl) rfl (wpAny_bind (wpAny_field hos hds (x := vu) rfl (wpAny_bind (wpAny_field hos hds (x := .none) rfl (wpAny_pure ?_)))))))
  refine wpAny_bind (slicePart_none ?_)
  show wpAny _ _ (if ((1 : Int) == 0) = true then _ else _) _ _ s
  rw [if_neg (by decide)]
  refine wpAny_bind (slicePart_ pl (wpAny_bind (slicePart_ pu (wpAny_bind (wpAny_pure ?_)))))
  show wpAny _ _ (match Builtin.Slice.sliceAdjust lo hi 1 (n : Int) with | (lo, hi) => pure (lo, (1 : Int), Builtin.Slice.slicePlaces lo hi 1)) _ _ s
  rw [adjust_gen lo hi n]
  show wpAny _ _ (pure (((sIx n 0 lo : Nat) : Int), (1 : Int), Builtin.Slice.slicePlaces ((sIx n 0 lo : Nat) : Int) ((sIx n n hi : Nat) : Int) 1)) _ _ s
  rw [places_gen]
  exact wpAny_pure h
theorem pick_gen (xs : Array Value) (i k : Nat) : ((List.range k).filterMap fun (m : Nat) => xs[((i : Int) + (m : Int) * 1).toNat]?).toArray = ((xs.toList.drop i).take k).toArray := by
  have e : (fun (m : Nat) => xs[((i : Int) + (m : Int) * 1).toNat]?) = fun m => xs[i + m]? := by
    funext m
    have : ((i : Int) + (m : Int) * 1).toNat = i + m := by omega
    rw [this]
  rw [e]
  have := pick_run xs i k
  rw [List.filterMap_map] at this
  have e2 : ((fun x => xs[x]?) ∘ fun x => i + x) = fun m => xs[i + m]? := rfl
  rw [e2] at this
  rw [this]

theorem getItem_tuple_cut {t sl : Addr} {items : Array Value} {vl vu : Value} {lo hi : Option Int} {Q : Value → Shared → Prop} (ht : IsTup s.heap t items) (hs : s.heap.IsSliceOf sl vl vu .none) (pl : IsPart vl lo) (pu : IsPart vu hi)
    (hw : ¬ (sIx items.size 0 lo = 0 ∧ sIx items.size items.size hi = items.size))
    (h : Q (.ref s.heap.objs.size) { s with heap := s.heap.push { cls := .type "tuple", data := .seq ((items.toList.drop (sIx items.size 0 lo)).take (sIx items.size items.size hi - sIx items.size 0 lo)).toArray } })
    (hsz : items.size ≤ sizeLine) : wpAny (model prog w) A (getItem (.ref t) (.ref sl)) Q E s := by
  have htake : sizeOk (.seq ((items.toList.drop (sIx items.size 0 lo)).take (sIx items.size items.size hi - sIx items.size 0 lo)).toArray) := by
    show ((items.toList.drop (sIx items.size 0 lo)).take (sIx items.size items.size hi - sIx items.size 0 lo)).toArray.size ≤ sizeLine
    rw [List.size_toArray, List.length_take, List.length_drop, Array.length_toList]
    omega
  have hj : sIx items.size items.size hi ≤ items.size := sIx_le _ _ (Nat.le_refl _) hi
  obtain ⟨os, hos, hcs, hds⟩ := id hs
  have hTs : s.TypeIs (.ref sl) "slice" := ⟨os, hos, hcs⟩
  unfold getItem
  try with_reducible refine wpAny_holding ?_
  first | refine wpAny_bind (wpAny_pure ?_) | skip
  refine wpAny_bind (wpAny_sequenceKey ht.typeIs (by decide) ?_)
  refine wpAny_bind (wpAny_callSpecial?_slot (name := Str.ofString "__getitem__") ht.typeIs PyProof.Rows.slot_tuple_getitem
    (wpAny_call_entry PyProof.Rows.slot_tuple_getitem ht.typeIs entry_tuple_getitem ?_ (args_tuple_getitem _ _)))
  show wpAny _ _ (Builtin.Tuple.tupleItemsOf (.ref t) >>= _) _ _ s
  refine wpAny_bind (tupleItemsOf_ ht ?_)
  refine wpAny_bind (wpAny_typeOf hTs ?_)
  rw [if_pos (by decide)]
  refine wpAny_bind (sliceApplied_gen hs pl pu ?_)
  have hno : ¬ ((((sIx items.size 0 lo : Nat) : Int) == 0 && (1 : Int) == 1 && (sIx items.size items.size hi - sIx items.size 0 lo) == items.size) = true) := by
    intro q
    rw [Bool.and_eq_true, Bool.and_eq_true] at q
    have q1 : ((sIx items.size 0 lo : Nat) : Int) = 0 := eq_of_beq q.1.1
    have q2 : sIx items.size items.size hi - sIx items.size 0 lo = items.size := eq_of_beq q.2
    exact hw ⟨by omega, by omega⟩
  show wpAny _ _ (if (((sIx items.size 0 lo : Nat) : Int) == 0 && (1 : Int) == 1 && (sIx items.size items.size hi - sIx items.size 0 lo) == items.size) = true then _ else _) _ _ s
  rw [if_neg hno, pick_gen]
  first
    | exact wpAny_bind (m := Builtin.Tuple.tupleExact _) (wpAny_newObj_type (wpAny_pure ⟨_, rfl, wpAny_pure h⟩) htake)
    | exact wpAny_bind (m := Builtin.Tuple.tupleExact _) (wpAny_newObj_type (wpAny_bind (wpAny_pure (wpAny_pure ⟨_, rfl, wpAny_pure h⟩))) htake)
    | exact wpAny_bind (wpAny_bind (m := Builtin.Tuple.tupleExact _) (wpAny_newObj_type (wpAny_pure (wpAny_pure ⟨_, rfl, wpAny_pure h⟩)) htake))
    | exact wpAny_bind (wpAny_bind (m := Builtin.Tuple.tupleExact _) (wpAny_newObj_type (wpAny_pure ⟨_, rfl, wpAny_pure h⟩) htake))
end
end HT

namespace L2
open PySem PySem.Spec PyProof.Rows

/-! ### the parts of a slice -/
abbrev TO := St → Hp → (Option Int → Hp → Prop) → Prop
/-- a slice's part (left out, or an int) -/
def PO (X : Cx) (e : Option Expr) (t : TO) : Prop :=
  ∀ (pins : List (Addr × Obj)) (s : Shared) (σ : St) (H : Hp) (Q : Option Int → Hp → Prop), Inv X pins σ H s → t σ H Q →
    wpAny (model X.prog X.w) X.A (evalPart e X.env) (fun u s' => ∃ o H', Inv X pins σ H' s' ∧ IsPart u o ∧ Q o H') X.xe s
def tNoPart : TO := fun _ H Q => Q none H
def tPart (t : TE) : TO := fun σ H Q => t σ H fun x H1 => ∃ i, x = .int i ∧ Q (some i) H1

section
variable {X : Cx} {e : Expr} {te : TE} {lo hi : Option Expr} {tl th : TO} {pos p2 : Pos}

theorem po_none : PO X none tNoPart := by
  intro pins s σ H Q I h
  rw [evalPart_none]
  exact wpAny_pure ⟨none, H, I, .none, h⟩
theorem po_some (h : PE X e te) : PO X (some e) (tPart te) := by
  intro pins s σ H Q I hw
  rw [evalPart_some]
  refine thn (h pins s σ H _ I hw) fun u s1 ⟨x, H1, I1, r1, q1⟩ => ?_
  obtain ⟨i, rfl, q⟩ := q1
  obtain ⟨t, rfl⟩ := r1
  exact ⟨some i, H1, I1, .int i t, q⟩

/-- what a slice of a value is, by values: the slice object stands at sl -/
def SlR (X : Cx) (r : V → Option Int → Option Int → Hp → VK → Prop) : Prop :=
  ∀ (pins : List (Addr × Obj)) (s : Shared) (σ : St) (H : Hp) (x : V) (v vl vu : Value) (lo hi : Option Int) (sl : Addr) (Q : VK), Inv X pins σ H s → RelV x v → s.heap.IsSliceOf sl vl vu .none → IsPart vl lo → IsPart vu hi → r x lo hi H Q →
    ∃ T id, typeLookup (.type T) "__getitem__" = pure (some (.builtin id)) ∧ s.TypeIs v T ∧ wpAny (model X.prog X.w) X.A (getItem v (.ref sl)) (EP X pins σ Q) X.xe s
def tSl (r : V → Option Int → Option Int → Hp → VK → Prop) (te : TE) (tl th : TO) : TE := fun σ H Q => te σ H fun x H1 => tl σ H1 fun l H2 => th σ H2 fun u H3 => r x l u H3 Q
/-- a[lo:hi], any a -/
theorem pe_slice {r : V → Option Int → Option Int → Hp → VK → Prop} (hr : SlR X r) (he : PE X e te) (hl : PO X lo tl) (hu : PO X hi th) : PE X (.Subscript e (.Slice lo hi none p2) pos) (tSl r te tl th) := by
  intro pins s σ H Q I h
  refine Subscript_ (thn (he pins s σ H _ I h) fun v s1 ⟨x, H1, I1, r1, q1⟩ => ?_)
  refine wpAny_Slice (thn (hl pins s1 σ H1 _ I1 q1) fun vl s2 ⟨l, H2, I2, pl, q2⟩ => thn (hu pins s2 σ H2 _ I2 q2) fun vu s3 ⟨u, H3, I3, pu, q3⟩ => ?_)
  rw [evalPart_none]
  refine wpAny_pure ?_
  have I4 : Inv X pins σ H3 { s3 with heap := s3.heap.push { cls := .type "slice", data := .fields #[vl, vu, .none] } } := I3.kept (t' := s3.toks) fun b ob q => Heap.get?_push_of_some _ q
  obtain ⟨T, id, hT, ht, hg⟩ := hr pins { s3 with heap := s3.heap.push { cls := .type "slice", data := .fields #[vl, vu, .none] } } σ H3 x v vl vu l u s3.heap.objs.size Q I4 r1 (Heap.IsSliceOf.new ..) pl pu q3
  show wpAny (model X.prog X.w) X.A (subscriptTail e (.Slice lo hi none p2) v (.ref s3.heap.objs.size)) (EP X pins σ Q) X.xe { s3 with heap := s3.heap.push { cls := .type "slice", data := .fields #[vl, vu, .none] } }
  exact tail_any (ops := [.ref s3.heap.objs.size, v]) ht hT hg (by with_unfolding_all rfl)

/-- the items of xs[lo:hi] -/
def cutV (xs : List V) (lo hi : Option Int) : List V := (xs.drop (HT.sIx xs.length 0 lo)).take (HT.sIx xs.length xs.length hi - HT.sIx xs.length 0 lo)
theorem cutV_length (xs : List V) (lo hi : Option Int) : (cutV xs lo hi).length ≤ xs.length := by
  unfold cutV
  rw [List.length_take, List.length_drop]
  omega
/-- t[lo:hi], not the whole of it (the whole would be t itself) -/
def rSlT (K : PySem.W.Frag) : V → Option Int → Option Int → Hp → VK → Prop := fun x lo hi H Q => ∃ a xs, x = .ref a ∧ SqT K H a xs ∧
  ¬ (HT.sIx xs.length 0 lo = 0 ∧ HT.sIx xs.length xs.length hi = xs.length) ∧ ∀ p, H p = none → Q (.ref p) (upd H p (.tup (cutV xs lo hi)))
theorem sl_tup : SlR X (rSlT X.K) := by
  intro pins s σ H x v vl vu lo hi sl Q I rx hs pl pu h
  obtain ⟨a, xs, rfl, hx, hw, q⟩ := h
  cases rx
  obtain ⟨its, r, ht, hz⟩ := I.tuple hx
  have hlen : its.toArray.size = xs.length := by rw [List.size_toArray]; exact r.length.symm
  refine ⟨"tuple", _, PyProof.Rows.slot_tuple_getitem.lookup, ht.typeIs, ?_⟩
  refine HT.getItem_tuple_cut ht hs pl pu (by rw [hlen]; exact hw) ?_ (by rw [hlen]; exact hz)
  rw [hlen]
  refine ⟨.ref s.heap.objs.size, _, I.laid (t' := s.toks) (o := .tup (cutV xs lo hi)) (fun b ob q => Heap.get?_push_of_some _ q) (Nat.le_refl _) ?_, rfl, q _ (I.hok.fresh (Nat.le_refl _))⟩
  exact ⟨Nat.le_trans (cutV_length xs lo hi) hz, _, (r.drop (HT.sIx xs.length 0 lo)).take (HT.sIx xs.length xs.length hi - HT.sIx xs.length 0 lo), IsTup.new _ _⟩

/-! ### t < u, t + u -/
def rLtT (K : PySem.W.Frag) : R2 := fun x y H Q => ∃ a b ns ms, x = .ref a ∧ y = .ref b ∧ SqT K H a (ns.map V.int) ∧ SqT K H b (ms.map V.int) ∧ Q (.bl (HT.lexLt ns ms)) H
/-- t + u, t not empty: u empty gives t itself -/
def rCatT (K : PySem.W.Frag) : R2 := fun x y H Q => ∃ a b xs ys, x = .ref a ∧ y = .ref b ∧ SqT K H a xs ∧ SqT K H b ys ∧ xs ≠ [] ∧ xs.length + ys.length ≤ sizeLine ∧
  (ys = [] → Q (.ref a) H) ∧ (ys ≠ [] → ∀ p, H p = none → Q (.ref p) (upd H p (.tup (xs ++ ys))))
end
end L2

namespace L2
open PySem PySem.Spec PyProof.Rows

/-! ### places -/
/-- the place that an index of any sign means -/
def ixN (n : Nat) (i : Int) : Option Nat := if 0 ≤ i then (if i < n then some i.toNat else none) else if -(n : Int) ≤ i then some (i + n).toNat else none
def atI {α : Type} (xs : List α) (i : Int) : Option α := (ixN xs.length i).bind fun j => xs[j]?
theorem ixN_seq {n : Nat} {i : Int} {j : Nat} (h : ixN n i = some j) : seqIndex? i n = some j ∧ j < n ∧ -(n : Int) ≤ i ∧ i < n := by
  unfold ixN at h
  by_cases h0 : 0 ≤ i
  · rw [if_pos h0] at h
    by_cases h1 : i < n
    · rw [if_pos h1] at h
      have e : i.toNat = j := Option.some.inj h
      exact ⟨by rw [seqIndex_of h0 h1, e], by omega, by omega, h1⟩
    · rw [if_neg h1] at h; cases h
  · rw [if_neg h0] at h
    by_cases h1 : -(n : Int) ≤ i
    · rw [if_pos h1] at h
      have e : (i + n).toNat = j := Option.some.inj h
      exact ⟨by rw [seqIndex_neg (by omega) h1, e], by omega, h1, by omega⟩
    · rw [if_neg h1] at h; cases h
theorem atI_get {α : Type} {xs : List α} {i : Int} {v : α} (h : atI xs i = some v) : ∃ j, seqIndex? i xs.length = some j ∧ xs[j]? = some v ∧ j < xs.length ∧ -(xs.length : Int) ≤ i ∧ i < xs.length := by
  unfold atI at h
  cases e : ixN xs.length i with
  | none => rw [e] at h; cases h
  | some j =>
    rw [e] at h
    obtain ⟨h1, h2, h3, h4⟩ := ixN_seq e
    exact ⟨j, h1, h, h2, h3, h4⟩
theorem atI_nat {α : Type} {xs : List α} {j : Nat} {v : α} (h : xs[j]? = some v) : atI xs (j : Int) = some v := by
  have hj : j < xs.length := (List.getElem?_eq_some_iff.mp h).1
  have e : ixN xs.length (j : Int) = some j := by
    unfold ixN
    rw [if_pos (by omega), if_pos (by omega)]; simp
  unfold atI; rw [e]; exact h
/-! ### what may be subscripted -/
/-- what stands as an index of a plain subscript -/
def PlainIx (b : Expr) : Prop := ∀ o i, subscripted b false o i = operate [o, i] (getItem o i)
/-- a subscript by values -/
def IxR (X : Cx) (r : R2) : Prop :=
  ∀ (value slice : Expr) (pins : List (Addr × Obj)) (s : Shared) (σ : St) (H : Hp) (x y : V) (v u : Value) (Q : VK), Inv X pins σ H s → RelV x v → RelV y u → r x y H Q →
    subscripted slice false v u = operate [v, u] (getItem v u) → wpAny (model X.prog X.w) X.A (subscriptTail value slice v u) (EP X pins σ Q) X.xe s
/-- a call of a builtin's method by values: the receiver, the arguments -/
def MtR (X : Cx) (id : String) (r : V → List V → Hp → VK → Prop) : Prop :=
  ∀ (pins : List (Addr × Obj)) (s : Shared) (σ : St) (H : Hp) (x : V) (xs : List V) (v : Value) (us : List Value) (Q : VK), Inv X pins σ H s → RelV x v → Vals xs us → r x xs H Q →
    wpAny (model X.prog X.w) X.A (call (.builtin id) (v :: us)) (EP X pins σ Q) X.xe s
section
variable {X : Cx} {a b : Expr} {ta tb : TE} {pos : Pos}
/-- a[b] -/
theorem pe_ix {r : R2} (hr : IxR X r) (ha : PE X a ta) (hb : PE X b tb) (hs : PlainIx b) : PE X (.Subscript a b pos) (tOp r ta tb) := by
  intro pins s σ H Q I h
  exact Subscript_ (binT ha hb I h fun v u s2 x y H2 I2 rx ry q => hr a b pins s2 σ H2 x y v u Q I2 rx ry q (hs _ _))

def rIxL (K : PySem.W.Frag) : R2 := fun x y H Q => ∃ p xs i v, x = .ref p ∧ y = .int i ∧ SqL K H p xs ∧ atI xs i = some v ∧ Q v H
def rIxT (K : PySem.W.Frag) : R2 := fun x y H Q => ∃ p xs i v, x = .ref p ∧ y = .int i ∧ SqT K H p xs ∧ atI xs i = some v ∧ Q v H
def rIxS : R2 := fun x y H Q => ∃ z i c, x = .str z ∧ y = .int i ∧ z.length ≤ sizeLine ∧ atI z.cps.toList i = some c ∧ Q (.str ⟨#[c]⟩) H
theorem ix_list : IxR X (rIxL X.K) := by
  intro value slice pins s σ H x y v u Q I rx ry h hs
  obtain ⟨p, xs, i, z, rfl, rfl, hq, he, q⟩ := h
  cases rx
  obtain ⟨t, rfl⟩ := ry
  obtain ⟨its, r, pl, hz⟩ := I.list hq
  obtain ⟨j, h1, h2, h3, h4, h5⟩ := atI_get he
  obtain ⟨w, ew, rw'⟩ := r.get h2
  have hl := r.length
  have hn := line63
  have fin : EP X pins σ Q w s := ⟨z, H, I, rw', q⟩
  by_cases h0 : 0 ≤ i
  · have hj : i.toNat = j := by
      rw [seqIndex_of h0 h5] at h1
      exact Option.some.inj h1
    exact item_listR pl.isList h0 (by omega) (by rw [hj]; simpa using ew) fin hs
  · have hj : (i + (its.toArray.size : Int)).toNat = j := by
      rw [seqIndex_neg (by omega) h4] at h1
      rw [List.size_toArray, ← hl]
      exact Option.some.inj h1
    exact subscriptTail_builtinR (x := w) pl.isList.typeIs slot_list_getitem.lookup
      (wpAny_getItem_list_neg (Q := fun r s' => r = w ∧ EP X pins σ Q r s') pl.isList (by omega) (by rw [List.size_toArray] <;> omega) (by omega) (by rw [hj]; simpa using ew) ⟨rfl, fin⟩) hs
theorem ix_tup : IxR X (rIxT X.K) := by
  intro value slice pins s σ H x y v u Q I rx ry h hs
  obtain ⟨p, xs, i, z, rfl, rfl, hq, he, q⟩ := h
  cases rx
  obtain ⟨t, rfl⟩ := ry
  obtain ⟨its, r, pl, hz⟩ := I.tuple hq
  obtain ⟨j, h1, h2, h3, h4, h5⟩ := atI_get he
  obtain ⟨w, ew, rw'⟩ := r.get h2
  have hl := r.length
  have hn := line63
  have fin : EP X pins σ Q w s := ⟨z, H, I, rw', q⟩
  exact subscriptTail_builtinR (x := w) pl.typeIs slot_tuple_getitem.lookup
    (getItem_tuple (j := j) (Q := fun r s' => r = w ∧ EP X pins σ Q r s') pl (by omega) (by omega) (by rw [List.size_toArray, ← hl]; exact h1) (by simpa using ew) ⟨rfl, fin⟩) hs
theorem ix_str : IxR X rIxS := by
  intro value slice pins s σ H x y v u Q I rx ry h hs
  obtain ⟨z, i, c, rfl, rfl, hz, he, q⟩ := h
  obtain ⟨t, rfl⟩ := rx
  obtain ⟨t', rfl⟩ := ry
  obtain ⟨j, h1, h2, h3, h4, h5⟩ := atI_get he
  have hl : z.cps.toList.length = z.length := by simp [Str.length]
  rw [hl] at h1 h4 h5
  have hn := line63
  exact tail_any (typeIs_str s z t) slot_str_getitem.lookup (getItem_str (c := c) (by
    have e1 : decide (i < -(2 ^ 63 : Int)) = false := decide_eq_false (by omega)
    have e2 : decide (i ≥ 2 ^ 63) = false := decide_eq_false (by omega)
    rw [e1, e2, Bool.or_false]) (by rw [h1]; simpa using h2) ⟨.str ⟨#[c]⟩, H, I.tok _, ⟨_, rfl⟩, q⟩) hs
/-- list, tuple or str -/
def rIx (K : PySem.W.Frag) : R2 := fun x y H Q => rIxL K x y H Q ∨ rIxT K x y H Q ∨ rIxS x y H Q
/-! ### xs[i] = v, any sign -/
def rSetL : V → V → V → Hp → (Hp → Prop) → Prop := fun o i v H Q => ∃ p xs k j, o = .ref p ∧ i = .int k ∧ H p = some (.lst xs) ∧ ixN xs.length k = some j ∧ Q (upd H p (.lst (xs.set j v)))
/-! ### slices -/
theorem slice_bounds (lo hi : Option Int) (n : Nat) : (sliceBounds lo hi none n).1 = ((HT.sIx n 0 lo : Nat) : Int) ∧ (sliceBounds lo hi none n).2.1 = ((HT.sIx n n hi : Nat) : Int) ∧ (sliceBounds lo hi none n).2.2 = 1 := by
  refine ⟨?_, ?_, rfl⟩
  · cases lo with
    | none => simp [sliceBounds, HT.sIx]
    | some i =>
      simp only [sliceBounds, HT.sIx, Option.getD_none, show (1 : Int) > 0 by decide, if_true]
      by_cases h : i < 0
      · simp only [h, if_true] <;> omega
      · simp only [h, if_false] <;> omega
  · cases hi with
    | none => simp [sliceBounds, HT.sIx]
    | some i =>
      simp only [sliceBounds, HT.sIx, Option.getD_none, show (1 : Int) > 0 by decide, if_true]
      by_cases h : i < 0
      · simp only [h, if_true] <;> omega
      · simp only [h, if_false] <;> omega
theorem slicePick_cut (its : List Value) (lo hi : Option Int) : slicePick its.toArray lo hi none = ((its.drop (HT.sIx its.length 0 lo)).take (HT.sIx its.length its.length hi - HT.sIx its.length 0 lo)).toArray := by
  obtain ⟨h1, h2, h3⟩ := slice_bounds lo hi its.toArray.size
  unfold slicePick
  rw [h1, h2, h3]
  simp only [sliceRange_one, pick_run, List.size_toArray] <;> rfl
/-- xs[lo:hi] of a list: a new list -/
def rSlL (K : PySem.W.Frag) : V → Option Int → Option Int → Hp → VK → Prop := fun x lo hi H Q => ∃ a xs, x = .ref a ∧ SqL K H a xs ∧ ∀ p, H p = none → Q (.ref p) (upd H p (.lst (cutV xs lo hi)))
theorem sl_list : SlR X (rSlL X.K) := by
  intro pins s σ H x v vl vu lo hi sl Q I rx hs pl pu h
  obtain ⟨a, xs, rfl, hx, q⟩ := h
  cases rx
  obtain ⟨its, r, ht, hz⟩ := I.list hx
  have hlen := r.length
  refine ⟨"list", _, slot_list_getitem.lookup, ht.isList.typeIs, ?_⟩
  refine wpAny_getItem_list_slice ht.isList hs pl pu .none (by simp) ?_ (by rw [List.size_toArray] <;> omega)
  rw [slicePick_cut, ← hlen]
  refine ⟨.ref s.heap.objs.size, _, I.laid (t' := s.toks) (o := .lst (cutV xs lo hi)) (fun b ob q => Heap.get?_push_of_some _ q) (Nat.le_refl _) ?_, rfl, q _ (I.hok.fresh (Nat.le_refl _))⟩
  exact ⟨Nat.le_trans (cutV_length xs lo hi) hz, _, 0, (r.drop (HT.sIx xs.length 0 lo)).take (HT.sIx xs.length xs.length hi - HT.sIx xs.length 0 lo), Heap.get?_push_size _ rfl⟩

/-! ### in, not in: flat items -/
def flatV : V → Bool
  | .non => true
  | .bl _ => true
  | .int _ => true
  | .str _ => true
  | _ => false
/-- == of flat values -/
def eqV : V → V → Bool
  | .non, .non => true
  | .bl a, .bl b => a == b
  | .bl a, .int b => (if a then 1 else 0) == b
  | .int a, .bl b => a == (if b then 1 else 0)
  | .int a, .int b => a == b
  | .str a, .str b => a == b
  | _, _ => false
theorem eqAt_V {A : Around} {s : Shared} {y x : V} {u v : Value} (ry : RelV y u) (rx : RelV x v) (fy : flatV y = true) (fx : flatV x = true) : SeqAt.EqAt A s u v (eqV y x) := by
  cases y with
  | non =>
    cases ry
    cases x with
    | non => cases rx; exact SeqAt.EqAt.same _
    | bl b => cases rx; exact SeqAt.EqAt.none_bool b
    | int b => obtain ⟨t, rfl⟩ := rx; exact SeqAt.EqAt.none_int b t
    | str b => obtain ⟨t, rfl⟩ := rx; exact SeqAt.EqAt.none_str b t
    | _ => exact absurd (show false = true from fx) Bool.false_ne_true
  | bl a =>
    cases ry
    cases x with
    | non => cases rx; exact SeqAt.EqAt.bool_none a
    | bl b => cases rx; exact SeqAt.EqAt.bool_bool a b
    | int b => obtain ⟨t, rfl⟩ := rx; exact SeqAt.EqAt.bool_int a b t
    | str b => obtain ⟨t, rfl⟩ := rx; exact SeqAt.EqAt.bool_str a b t
    | _ => exact absurd (show false = true from fx) Bool.false_ne_true
  | int a =>
    obtain ⟨t', rfl⟩ := ry
    cases x with
    | non => cases rx; exact SeqAt.EqAt.int_none a t'
    | bl b => cases rx; exact SeqAt.EqAt.int_bool a t' b
    | int b => obtain ⟨t, rfl⟩ := rx; exact SeqAt.EqAt.int_int a t' b t
    | str b => obtain ⟨t, rfl⟩ := rx; exact SeqAt.EqAt.int_str a t' b t
    | _ => exact absurd (show false = true from fx) Bool.false_ne_true
  | str a =>
    obtain ⟨t', rfl⟩ := ry
    cases x with
    | non => cases rx; exact SeqAt.EqAt.str_none a t'
    | bl b => cases rx; exact SeqAt.EqAt.str_bool a t' b
    | int b => obtain ⟨t, rfl⟩ := rx; exact SeqAt.EqAt.str_int a t' b t
    | str b => obtain ⟨t, rfl⟩ := rx; exact SeqAt.EqAt.str_str a t' b t
    | _ => exact absurd (show false = true from fx) Bool.false_ne_true
  | _ => exact absurd (show false = true from fy) Bool.false_ne_true
/-- the items' answers, read off the values (a value's own answer does not lean on its token) -/
def eqU (x : V) (u : Value) : Bool := match u with
  | .none => eqV .non x
  | .bool b => eqV (.bl b) x
  | .int i _ => eqV (.int i) x
  | .str z _ => eqV (.str z) x
  | _ => false
theorem eqU_of {x y : V} {u : Value} (r : RelV y u) (f : flatV y = true) : eqU x u = eqV y x := by
  cases y with
  | non => cases r; rfl
  | bl b => cases r; rfl
  | int i => obtain ⟨t, rfl⟩ := r; rfl
  | str z => obtain ⟨t, rfl⟩ := r; rfl
  | _ => exact absurd (show false = true from f) Bool.false_ne_true
theorem any_eqU {x : V} : ∀ {xs : List V} {us : List Value}, Vals xs us → xs.all flatV = true → us.any (eqU x) = xs.any fun y => eqV y x
  | _, _, .nil, _ => rfl
  | y :: xs, u :: us, .cons r t, f => by
    rw [List.all_cons, Bool.and_eq_true] at f
    rw [List.any_cons, List.any_cons, eqU_of r f.1, any_eqU t f.2]
theorem mem_eqAt {A : Around} {s : Shared} {x : V} {v : Value} (rx : RelV x v) (fx : flatV x = true) : ∀ {xs : List V} {us : List Value}, Vals xs us → xs.all flatV = true → ∀ u ∈ us, SeqAt.EqAt A s u v (eqU x u)
  | _, _, .nil, _ => fun u hu => by cases hu
  | y :: xs, u :: us, .cons r t, f => fun u' hu => by
    rw [List.all_cons, Bool.and_eq_true] at f
    rcases List.mem_cons.mp hu with rfl | hu
    · rw [eqU_of r f.1]; exact eqAt_V r rx f.1 fx
    · exact mem_eqAt rx fx t f.2 u' hu
def inV (x : V) (xs : List V) : Bool := xs.any fun y => eqV y x
/-- x in a list or tuple of flat items -/
def rIn (K : PySem.W.Frag) (neg : Bool) : R2 := fun x y H Q => ∃ p xs, y = .ref p ∧ (SqL K H p xs ∨ SqT K H p xs) ∧ flatV x = true ∧ xs.all flatV = true ∧ Q (.bl (if neg then !inV x xs else inV x xs)) H
theorem op_in_seq : OpR X (compareOp .In) (rIn X.K false) := by
  intro pins s σ H x y v u Q I rx ry h
  obtain ⟨p, xs, rfl, hq, fx, fs, q⟩ := h
  cases ry
  rcases hq with hq | hq
  · obtain ⟨its, r, pl, hz⟩ := I.list hq
    refine SeqAt.in_listAt (eqU x) pl.isList (fun w hw => mem_eqAt rx fx r fs w (by simpa using hw)) ⟨.bl _, H, I, rfl, ?_⟩
    rw [show its.toArray.any (eqU x) = its.any (eqU x) by simp, any_eqU r fs]
    exact q
  · obtain ⟨its, r, pl, hz⟩ := I.tuple hq
    refine SeqAt.in_tupleAt (eqU x) pl (fun w hw => mem_eqAt rx fx r fs w (by simpa using hw)) ⟨.bl _, H, I, rfl, ?_⟩
    rw [show its.toArray.any (eqU x) = its.any (eqU x) by simp, any_eqU r fs]
    exact q
theorem op_notIn_seq : OpR X (compareOp .NotIn) (rIn X.K true) := by
  intro pins s σ H x y v u Q I rx ry h
  obtain ⟨p, xs, rfl, hq, fx, fs, q⟩ := h
  cases ry
  rcases hq with hq | hq
  · obtain ⟨its, r, pl, hz⟩ := I.list hq
    refine SeqAt.notIn_listAt (eqU x) pl.isList (fun w hw => mem_eqAt rx fx r fs w (by simpa using hw)) ⟨.bl _, H, I, rfl, ?_⟩
    rw [show its.toArray.any (eqU x) = its.any (eqU x) by simp, any_eqU r fs]
    exact q
  · obtain ⟨its, r, pl, hz⟩ := I.tuple hq
    refine SeqAt.notIn_tupleAt (eqU x) pl (fun w hw => mem_eqAt rx fx r fs w (by simpa using hw)) ⟨.bl _, H, I, rfl, ?_⟩
    rw [show its.toArray.any (eqU x) = its.any (eqU x) by simp, any_eqU r fs]
    exact q
/-! ### len, list(x), tuple(x) of any list or tuple that is read -/
theorem call_len_seq : CallR X (.builtin "len") (fun xs H Q => ∃ p ys, xs = [.ref p] ∧ (SqL X.K H p ys ∨ SqT X.K H p ys) ∧ Q (.int ys.length) H) := by
  intro pins s σ H xs us Q I r h
  obtain ⟨p, ys, rfl, hq, q⟩ := h
  obtain ⟨u, rfl, rx⟩ := vals1 r
  cases rx
  have hn := line63
  rcases hq with hq | hq
  · obtain ⟨its, r', pl, hz⟩ := I.list hq
    have hlen := r'.length
    exact Calls.call_len_list pl.isList (by simp only [List.size_toArray] <;> omega) ⟨.int ys.length, H, I.tok _, ⟨s.toks + 1, by rw [List.size_toArray, hlen]⟩, q⟩
  · obtain ⟨its, r', pl, hz⟩ := I.tuple hq
    have hlen := r'.length
    exact len_tuple pl (by simp only [List.size_toArray] <;> omega) ⟨.int ys.length, H, I.tok _, ⟨s.toks + 1, by rw [List.size_toArray, hlen]⟩, q⟩
theorem call_len_str : CallR X (.builtin "len") (fun xs H Q => ∃ z, xs = [.str z] ∧ z.length ≤ sizeLine ∧ Q (.int z.length) H) := by
  intro pins s σ H xs us Q I r h
  obtain ⟨z, rfl, hz, q⟩ := h
  obtain ⟨u, rfl, t, rfl⟩ := vals1 r
  have hn := line63
  exact len_str (by omega) ⟨.int z.length, H, I.tok _, ⟨_, rfl⟩, q⟩
theorem call_list_of : CallR X (.type "list") (fun xs H Q => ∃ p ys, xs = [.ref p] ∧ (SqL X.K H p ys ∨ SqT X.K H p ys) ∧ ∀ l, H l = none → Q (.ref l) (upd H l (.lst ys))) := by
  intro pins s σ H xs us Q I r h
  obtain ⟨p, ys, rfl, hq, q⟩ := h
  obtain ⟨u, rfl, rx⟩ := vals1 r
  cases rx
  have fin : ∀ (its : List Value), Vals ys its → ys.length ≤ sizeLine → ∀ (h' : Heap) (c' : Nat), (∀ b o', s.heap.get? b = some o' → h'.get? b = some o') →
      h'.get? s.heap.objs.size = some { cls := .type "list", dict := none, data := .seq its.toArray c', slots := #[] } → EP X pins σ Q (.ref s.heap.objs.size) { s with heap := h' } := fun its r' hz h' c' kp e =>
    ⟨.ref s.heap.objs.size, _, I.laid (t' := s.toks) kp (Nat.le_refl _) (show ObjOk X.prog X.w _ h' _ (.lst ys) from ⟨hz, its, c', r', e⟩), rfl, q _ (I.hok.fresh (Nat.le_refl _))⟩
  rcases hq with hq | hq
  · obtain ⟨its, r', pl, hz⟩ := I.list hq
    have hlen := r'.length
    obtain ⟨o, ho, hc, n, hd⟩ := pl.isList
    exact call_list_seq p (.inl rfl) ho hc hd (fun h' c' kp e => fin its r' hz h' c' kp e) (by simp only [List.size_toArray] <;> omega)
  · obtain ⟨its, r', pl, hz⟩ := I.tuple hq
    have hlen := r'.length
    obtain ⟨o, ho, hc, n, hd⟩ := pl
    exact call_list_seq p (.inr rfl) ho hc hd (fun h' c' kp e => fin its r' hz h' c' kp e) (by simp only [List.size_toArray] <;> omega)
/-! ### the call of a builtin's method: o.m(..) -/
/-- the value is of that builtin type -/
def tyV (K : PySem.W.Frag) (T : String) (x : V) (H : Hp) : Prop := match x with
  | .str _ => T = "str"
  | .int _ => T = "int"
  | .ref p => (T = "list" ∧ ∃ xs, SqL K H p xs) ∨ (T = "tuple" ∧ ∃ o, K.lookup p = some o ∧ o.cls = .type "tuple" ∧ o.dict = none) ∨
      (T = "dict" ∧ ((∃ kvs, H p = some (.dK kvs)) ∨ ∃ kvs, H p = some (.dT kvs))) ∨ (T = "set" ∧ ∃ S n, H p = some (.set S n))
  | _ => False
theorem tyV_is {pins : List (Addr × Obj)} {σ : St} {H : Hp} {s : Shared} {T : String} {x : V} {v : Value} (I : Inv X pins σ H s) (r : RelV x v) (ty : tyV X.K T x H) :
    s.TypeIs v T ∧ ∀ a, v = .ref a → ∃ ob, s.heap.get? a = some ob ∧ ob.dict = none := by
  cases x with
  | str z =>
    obtain ⟨t, rfl⟩ := r
    cases (show T = "str" from ty)
    exact ⟨typeIs_str s z t, fun _ e => nomatch e⟩
  | int i =>
    obtain ⟨t, rfl⟩ := r
    cases (show T = "int" from ty)
    exact ⟨typeIs_int s i t, fun _ e => nomatch e⟩
  | ref p =>
    cases r
    rcases ty with ⟨rfl, xs, hq⟩ | ⟨rfl, o, hk, hc, hd⟩ | ⟨rfl, hk⟩ | ⟨rfl, S, n, hk⟩
    · obtain ⟨its, _, pl, _⟩ := I.list hq
      refine ⟨pl.isList.typeIs, fun a e => ?_⟩
      cases e
      obtain ⟨o, n, e, c, hd, _⟩ := pl
      exact ⟨o, e, hd⟩
    · refine ⟨⟨o, I.kIn p o hk, hc⟩, fun a e => ?_⟩
      cases e
      exact ⟨o, I.kIn _ o hk, hd⟩
    · have z : ∃ o, s.heap.get? p = some o ∧ o.ExactDict := by
        rcases hk with ⟨kvs, hk⟩ | ⟨kvs, hk⟩
        · obtain ⟨_, _, _, _, o, _, _, e, ex, _⟩ := I.hok p _ hk
          exact ⟨o, e, ex⟩
        · obtain ⟨_, _, _, _, o, _, _, e, ex, _⟩ := I.hok p _ hk
          exact ⟨o, e, ex⟩
      obtain ⟨o, e, ex⟩ := z
      refine ⟨⟨o, e, ex.1⟩, fun a e2 => ?_⟩
      cases e2
      exact ⟨o, e, ex.2.1⟩
    · obtain ⟨o, _, _, _, e, ex, _⟩ := I.hok p _ hk
      refine ⟨⟨o, e, ex.1⟩, fun a e2 => ?_⟩
      cases e2
      exact ⟨o, e, ex.2.1⟩
  | _ => exact False.elim ty
def tBM0 (K : PySem.W.Frag) (T : String) (r : V → List V → Hp → VK → Prop) (to : TE) : TE := fun σ H Q => to σ H fun x H1 => tyV K T x H1 ∧ r x [] H1 Q
def tBM (K : PySem.W.Frag) (T : String) (r : V → List V → Hp → VK → Prop) (to : TE) (t : TA) : TE := fun σ H Q => to σ H fun x H1 => tyV K T x H1 ∧ t σ H1 fun xs H2 => r x xs H2 Q
variable {o e : Expr} {es : List Expr} {to : TE} {t : TA} {name : Str} {apos cpos : Pos} {T id : String} {r : V → List V → Hp → VK → Prop}
theorem pe_bm (pa : PlainAttrs T) (slot : Slot T name id) (hty : typeOf (.builtin id) = pure (.type "method_descriptor")) (hm : MtR X id r) (ho : PE X o to) (ha : PA X (e :: es) t)
    (hbase : attributeBase o name X.env (eval o X.env) = eval o X.env := by rfl)
    (hfew : ((backTo cpos (starEach (e :: es) X.env)).all (fun x => !x.1) && (backToKw cpos (keywordEach [] X.env)).all (fun x => x.1.isSome)
      && decide ((e :: es).length + ([] : List Keyword).length + (if ([] : List Keyword).isEmpty then 0 else 1) < 30)) = true := by rfl)
    (hline : (apos.endLine == cpos.line) = true := by rfl) (hs : starEach (e :: es) X.env = (false, eval e X.env) :: starEach es X.env := by rfl) (hplain : (backTo cpos (starEach es X.env)).any (·.1) = false := by rfl) :
    PE X (.Call (.Attribute o name apos) (e :: es) [] cpos) (tBM X.K T r to t) := by
  intro pins s σ H Q I h
  refine wpAny_Call_method_late hbase hfew hline rfl (thn (ho pins s σ H _ I h) fun v s1 ⟨x, H1, I1, r1, ty, q1⟩ => ?_)
  obtain ⟨h1, h2⟩ := tyV_is I1 r1 ty
  refine ⟨T, id, pa, slot, hty, h1, h2, ?_⟩
  have hA := ha cpos pins s1 σ H1 _ I1 q1
  rw [hs] at hA ⊢
  refine Calls.callWith_builtin (by show (false || (backTo cpos (starEach es X.env)).any (·.1)) = false; rw [hplain] <;> rfl) (Calls.evalArgs_plain ?_)
  exact thn hA fun us s2 ⟨vs, H2, I2, r2, q2⟩ => hm pins s2 σ H2 x vs v us Q I2 r1 r2 q2
/- xs.append(e), list.index on a module's tuple .. are MtR facts of 06m -/
end
end L2

namespace L2
open PySem PySem.Spec PyProof.Rows

def MtM (X : Cx) (id : String) (r : V → List V → Hp → VK → Prop) : Prop :=
  ∀ (pins : List (Addr × Obj)) (s : Shared) (σ : St) (H : Hp) (x : V) (xs : List V) (v : Value) (us : List Value) (Q : VK), Inv X pins σ H s → RelV x v → Vals xs us → r x xs H Q →
    wpAny (model X.prog X.w) X.A (call (.builtin id) (v :: us)) (EP X pins σ Q) X.xe s

/-! ### lists of values -/
theorem Vals.one : ∀ {x : V} {us : List Value}, Vals [x] us → ∃ u, us = [u] ∧ RelV x u
  | _, _, .cons r .nil => ⟨_, rfl, r⟩
theorem Vals.two : ∀ {x y : V} {us : List Value}, Vals [x, y] us → ∃ u v, us = [u, v] ∧ RelV x u ∧ RelV y v
  | _, _, _, .cons r (.cons q .nil) => ⟨_, _, rfl, r, q⟩
section
variable {X : Cx} {pins : List (Addr × Obj)} {σ : St} {H : Hp} {s : Shared} {l b : Addr} {xs ys zs : List V}

/-! ### the two steps: a tracked list is rewritten, a new list is laid -/
theorem Inv.lset {its its' : List Value} {n : Nat} {f : Array Value → Array Value} {t' : Nat} (I : Inv X pins σ H s) (hH : H l = some (.lst xs))
    (e : s.heap.get? l = some { cls := .type "list", data := .seq its.toArray n }) (hf : f its.toArray = its'.toArray) (hv : Vals ys its') (hz : ys.length ≤ sizeLine) :
    Inv X pins σ (upd H l (.lst ys)) { s with heap := s.heap.update l (Obj.mapSeq f), toks := t' } := by
  have q := PySem.IsL.update e f
  rw [hf] at q
  refine I.write (x := l) (e := l) (by rw [hH]; exact trivial) (.inl rfl) (fun b' u hb hu => (Heap.get?_update_other s.heap (Obj.mapSeq f) (Ne.symm hb)).trans hu) ⟨_, q⟩ ?_
  exact ⟨hz, its', _, hv, q⟩
theorem Inv.lnew {its : List Value} {t' : Nat} (I : Inv X pins σ H s) (hv : Vals ys its) (hz : ys.length ≤ sizeLine) :
    Inv X pins σ (upd H s.heap.objs.size (.lst ys)) { s with heap := s.heap.push { cls := .type "list", data := .seq its.toArray }, toks := t' } :=
  I.laid (fun _ _ q => Heap.get?_push_of_some _ q) (Nat.le_refl _) ⟨hz, its, 0, hv, Heap.get?_push_size _ rfl⟩
theorem Inv.fresh (I : Inv X pins σ H s) : H s.heap.objs.size = none := I.hok.fresh (Nat.le_refl _)
theorem Inv.lstM (I : Inv X pins σ H s) (hH : H l = some (.lst xs)) : xs.length ≤ sizeLine ∧ ∃ (its : List Value) (n : Nat), Vals xs its ∧ xs.length = its.length ∧ s.heap.get? l = some { cls := .type "list", data := .seq its.toArray n } := by
  obtain ⟨z, its, n, r, e⟩ := I.hok l _ hH
  exact ⟨z, its, n, r, r.length, e⟩

end

section
variable {X : Cx}

/-! ### methods -/
def rAppend : V → List V → Hp → VK → Prop := fun x vs H Q => ∃ l xs y, x = .ref l ∧ vs = [y] ∧ H l = some (.lst xs) ∧ xs.length < sizeLine ∧ Q .non (upd H l (.lst (xs ++ [y])))
theorem mt_append : MtM X "list.append" rAppend := by
  intro pins s σ H x vs v us Q I rx rv h
  obtain ⟨l, xs, y, rfl, rfl, hH, hz, q⟩ := h
  cases rx
  obtain ⟨u, rfl, ru⟩ := rv.one
  obtain ⟨z, its, n, r, hl, e⟩ := I.lstM hH
  refine call_meets F.slot_list_append ⟨_, e, rfl⟩ F.entry_list_append (F.args_list_append_2 _ _) (PySem.list_append l its.toArray n u (by rw [List.size_toArray]; omega)) ⟨e, ?_⟩
  refine ⟨.non, _, I.lset (its' := its ++ [u]) hH e (by simp) (r.append (.cons ru .nil)) ?_, rfl, q⟩
  rw [List.length_append, List.length_singleton]
  omega

def rExtend : V → List V → Hp → VK → Prop := fun x vs H Q => ∃ l b xs zs, x = .ref l ∧ vs = [.ref b] ∧ H l = some (.lst xs) ∧ H b = some (.lst zs) ∧ xs.length + zs.length ≤ sizeLine ∧ Q .non (upd H l (.lst (xs ++ zs)))
def rPop : V → List V → Hp → VK → Prop := fun x vs H Q => ∃ l xs y, x = .ref l ∧ vs = [] ∧ H l = some (.lst xs) ∧ xs[xs.length - 1]? = some y ∧ Q y (upd H l (.lst xs.dropLast))
def rPopAt : V → List V → Hp → VK → Prop := fun x vs H Q => ∃ l xs i k y, x = .ref l ∧ vs = [.int i] ∧ H l = some (.lst xs) ∧ -(2 ^ 63) ≤ i ∧ i < 2 ^ 63 ∧ seqIndex? i xs.length = some k ∧ xs[k]? = some y ∧ Q y (upd H l (.lst (xs.eraseIdx k)))
def rReverse : V → List V → Hp → VK → Prop := fun x vs H Q => ∃ l xs, x = .ref l ∧ vs = [] ∧ H l = some (.lst xs) ∧ Q .non (upd H l (.lst xs.reverse))
def rClear : V → List V → Hp → VK → Prop := fun x vs H Q => ∃ l xs, x = .ref l ∧ vs = [] ∧ H l = some (.lst xs) ∧ Q .non (upd H l (.lst []))
/-! ### list + list, list += list, list * int -/
def rCat : R2 := fun x y H Q => ∃ l b xs zs, x = .ref l ∧ y = .ref b ∧ H l = some (.lst xs) ∧ H b = some (.lst zs) ∧ xs.length + zs.length ≤ sizeLine ∧ ∀ p, H p = none → Q (.ref p) (upd H p (.lst (xs ++ zs)))
theorem op_cat : OpR X (binaryOp .Add) rCat := by
  intro pins s σ H x y v u Q I rx ry h
  obtain ⟨l, b, xs, zs, rfl, rfl, hH, hB, hz, q⟩ := h
  cases rx
  cases ry
  obtain ⟨z, its, n, r, hl, e⟩ := I.lstM hH
  obtain ⟨z2, its2, n2, r2, hl2, e2⟩ := I.lstM hB
  refine PySem.P.add_list e e2 ?_ (by rw [List.size_toArray, List.size_toArray]; omega)
  have ea : its.toArray ++ its2.toArray = (its ++ its2).toArray := by simp
  rw [ea]
  exact ⟨.ref _, _, I.lnew (t' := s.toks) (r.append r2) (by rw [List.length_append]; omega), rfl, q _ I.fresh⟩
/-- a list times an int (a negative one is nothing) -/
def rRep : R2 := fun x y H Q => ∃ l k xs, x = .ref l ∧ y = .int k ∧ H l = some (.lst xs) ∧ -(2 ^ 63) ≤ k ∧ k < 2 ^ 63 ∧ xs.length * k.toNat ≤ sizeLine ∧
  ∀ p, H p = none → Q (.ref p) (upd H p (.lst (List.replicate k.toNat xs).flatten))
/-! ### del xs[i] -/
end

/-! ### xs[a:b] = ys -/
section
variable {prog : Program} {w : World} {A : Around} {E : Value → Shared → Prop} {s : Shared}
set_option maxRecDepth 100000 in
end

section
variable {X : Cx}
end
end L2

namespace Att
open PySem PySem.W PySem.Calls PyProof.Rows

/-! ### the script -/
theorem ints_of_wellAll {P : Params} {h : Heap} : ∀ (ns : List Int) (vs : List Value), WellAll P h vs (ns.map WData.int) → IntsAre vs ns := by
  intro ns
  induction ns with
  | nil =>
    intro vs w
    rw [List.map_nil] at w
    cases w
    exact .nil
  | cons n ns ih =>
    intro vs w
    rw [List.map_cons] at w
    cases w with
    | cons a b =>
      cases a
      exact .cons _ _ (ih _ b)

theorem script_of {l : OpenLaw} {n : Nat} (hn : l.most = some n) {P : Params} {h : Heap} {args : List WData} {vals : List Value}
    (hpre : l.row.toRowW.claim.pre args = true) (hwl : WellAll P h vals args) :
    ∃ a vs ns, vals = [Value.ref a] ∧ args = [WData.list (ns.map WData.int)] ∧ h.get? a = some { cls := .type "list", data := .seq vs.toArray } ∧ IntsAre vs ns ∧ ns.length ≤ n := by
  have hsh : WShape.hasAll [] args [.list .int] = true := (pre_splitW hpre).1
  have hc : l.pre.holds [] { args := args } = true := (pre_splitW hpre).2
  obtain ⟨d, r, rfl, h1, h2⟩ := hasAllW_cons hsh
  obtain rfl := hasAllW_nil h2
  obtain ⟨xs, rfl, h3⟩ := hasW_list h1
  obtain ⟨ns, rfl⟩ := items_int h3
  have hlen : ns.length ≤ n := by
    unfold OpenLaw.pre at hc
    have h4 : (WTm.not (.lt (.lit (.int (n : Int))) (.len (.arg 0)))).holds [] { args := [.list (ns.map .int)] } = true := by
      have h4 := (holds_andW hc).1
      rw [hn] at h4
      exact h4
    have h5 := condW_of h4 (w_not (w_lt w_lit (w_len_list (w_arg rfl))))
    rw [List.length_map] at h5
    refine Nat.le_of_not_lt fun q => ?_
    have q' : (n : Int) < ((ns.length : Nat) : Int) := by omega
    first
      | (rw [decide_eq_true q'] at h5; exact absurd h5 (by decide))
      | (simp at h5; omega)
  cases hwl with
  | cons w1 w2 =>
    cases w2
    cases w1 with
    | list ho hall => exact ⟨_, _, ns, rfl, rfl, ho, ints_of_wellAll ns _ hall, hlen⟩

theorem post_true (l : OpenLaw) (args : List WData) : l.row.toRowW.claim.post args (.bool true) args = true :=
  postW_of (r := l.row.toRowW) (X := (true == true))
    (show WShape.has [] (.bool true) .bool = true by first | rfl | decide | simp [WShape.has, WShape.arms, WShape.armsAll])
    (show (WTm.eq .res (.lit (.bool true))).value [] { args := args, res := some (.bool true), after := args } = some (.bool (true == true)) from w_eq_bool (w_res rfl) w_lit) rfl

/-! ### the attachment: holds_open's last premise (the goal 'hc' behind k_head) from a wpAny of the law's body -/
/-- the same from a codeAny of the CALL (for a layer whose function contracts speak of calls) -/
theorem attach_call {l : OpenLaw} {n : Nat} {q : Program} {loose : List Str} {XP : (Str → Option Value) → Heap → Prop} {YP : World → Heap → Prop} {d : DefRec}
    (hn : l.most = some n) (hdf : d.params.defaults = [])
    (call : ∀ (w : World) (s₀ s₁ : Shared) (mg mb : Str → Option Value) (fa : Addr) (o : Obj) (pm cd doc : Value) (a : Addr) (vs : List Value) (ns : List Int),
      Ground q loose [] XP w s₀ mg mb s₁.heap → YP w s₁.heap →
      s₁.heap.get? fa = some o → o.data = .func (docDef d.name d.params d.body d.scope pm cd doc) → s₁.heap.CodeRec cd d.name → mg d.name = some (.ref fa) →
      s₁.heap.get? a = some { cls := .type "list", data := .seq vs.toArray } → IntsAre vs ns → ns.length ≤ n → s₁.gens = #[] →
      codeAny (model l.prog w) callerA (.call (.ref fa) ⟨[.ref a], []⟩) (fun r s' => r = .ok (.ret (.bool true)) ∧ OldK s₁.heap s'.heap ∧ s'.os = s₁.os ∧ AllBare s'.gens) s₁) :
    WalkO q loose XP YP l.row.toRowW d [] (fun f vs => PySem.call f vs) := by
  intro w s₀ s₁ mg mb G Y fa o pm cd doc dV kV ho hd hcd hD hmg hg args vals as hpre hlay hrd hwl hlo
  obtain rfl : dV = .none := Dflts.none hD hdf
  obtain rfl : kV = .none := Dflts.noKw hD
  obtain ⟨a, vs, ns, rfl, rfl, hobj, hints, hlen⟩ := script_of hn hpre hwl
  refine enter_call (codeAny_mono (call w s₀ s₁ mg mb fa o pm cd doc a vs ns G Y ho (fd_plain hd) hcd hmg hobj hints hlen hg) fun r s' hq => ?_)
  obtain ⟨rfl, h2, h3, h4⟩ := hq
  exact ⟨.inl ⟨.bool true, .bool true, [], rfl, fun _ => rfl, .bool true, post_true l _, fun _ => ⟨List.Pairwise.nil, fun _ hm => (nomatch hm)⟩⟩, h2, h3, h4⟩

/-! ### rules over ANY heap (no ledger) from facts about the written part K: the library's own take a ledger (News) for what they write -/
section
variable {prog : Program} {w : World} {A : Around} {E : Value → Shared → Prop} {s : Shared} {K : Frag}

/-! the whole heap as the ledger: makes every rule that writes through a ledger a rule over any heap -/
def noObjs (h : Heap) : Heap := { h with objs := #[] }
def ledger (h : Heap) (L d : Addr) : List (Addr × Obj) := (List.range h.objs.size).filterMap fun a => if a = L ∨ a = d then none else (h.get? a).map fun o => (a, o)
end
end Att

namespace L2
open PySem PySem.Spec PyProof.Rows

theorem vals_ints : ∀ {vs : List Value} {ns : List Int}, IntsAre vs ns → Vals (ns.map V.int) vs
  | _, _, .nil => .nil
  | _, _, .cons n t h => .cons ⟨t, rfl⟩ (vals_ints h)

/-- nothing is tracked but the script, known to the object (or it is an object of the module) -/
def Only (H : Hp) : Prop := ∀ b, H b = none ∨ ∃ o xs, H b = some (.frz o (.lst xs))

/-- THE HEAD: the law's promise, at the heap behind the top. F, the promise of the law's def, may use that base is part of the heap (so K.In base, base.Ns mainGlobals mg stand in Mod) -/
theorem law_call {P : Program} {w : World} {K : PySem.W.Frag} {mg mb : Str → Option Value} {CX : CXT} {k : Nat} {fa a : Addr} {fd : FuncData} {x : Str} {sp : Sp} {s₁ : Shared} {vs : List Value} {ns : List Int}
    (KX : K.In s₁.heap) (hns : s₁.heap.Ns mainGlobals mg) (hb : s₁.heap.Ns builtinsNs mb) (hbb : ∀ x : Str, x ≠ "__name__" → mb x = bootBuiltins x) (hlim : s₁.heap.NoLimit) (hg : s₁.gens = #[])
    (ha : s₁.heap.get? a = some { cls := .type "list", data := .seq vs.toArray }) (hi : IntsAre vs ns) (hl : ns.length ≤ sizeLine) (hr : Room k callerA)
    (F : ∀ base : Heap, K.In base → base.Ns mainGlobals mg → FnOk P w K mg base CX k fa fd [x] sp) (hbind : ∀ (s : Shared) (u : Value), BindsTo s fd ⟨[u], []⟩ [(x, u)])
    (hsp : ∀ H : Hp, Only H → SqL K H a (ns.map V.int) → sp [.ref a] H (fun v _ => v = .bl true) fun _ _ _ => False)
    (hCX : ∀ H e s', CX [] H s₁ (fun _ _ _ => False) e s' → False) :
    codeAny (model P w) callerA (.call (.ref fa) ⟨[.ref a], []⟩) (fun r s' => r = .ok (.ret (.bool true)) ∧ OldK s₁.heap s'.heap ∧ s'.os = s₁.os ∧ AllBare s'.gens) s₁ := by
  have rv := vals_ints hi
  have lenV := hi.length
  -- from an abstract heap in which nothing but the script may be tracked
  have core : ∀ H : Hp, Only H → SqL K H a (ns.map V.int) → HOk P w H s₁.heap → (∀ b, H b ≠ none → b = a) → (H a ≠ none → K.lookup a = none) →
      codeAny (model P w) callerA (.call (.ref fa) ⟨[.ref a], []⟩) (fun r s' => r = .ok (.ret (.bool true)) ∧ OldK s₁.heap s'.heap ∧ s'.os = s₁.os ∧ AllBare s'.gens) s₁ := by
    intro H hO hS hok hA hK
    have base_of : ∀ {b : Addr} {o : Obj}, s₁.heap.get? b = some o → H b = none → (hidT s₁.heap H).get? b = some o := fun e n => hidT_get e n
    have noA : ∀ {b : Addr} {o : Obj} {es : Array DictEntry} {ep : Nat}, s₁.heap.get? b = some o → o.data = .dict es ep → H b = none := fun {b o es ep} e d => by
      cases q : H b with
      | none => rfl
      | some u =>
        have e' : b = a := hA b (by rw [q]; simp)
        subst e'
        rw [ha] at e; cases e
        have d' : Data.seq vs.toArray _ = Data.dict es ep := d
        cases d'
    have nsK : ∀ {b : Addr} {m : Str → Option Value}, s₁.heap.Ns b m → (hidT s₁.heap H).Ns b m := fun {b m} ⟨o, es, ep, e, d, r⟩ => ⟨o, es, ep, base_of e (noA e d), d, r⟩
    have hKb : K.In (hidT s₁.heap H) := fun b o e => base_of (KX b o e) (by
      cases q : H b with
      | none => rfl
      | some u =>
        have e' : b = a := hA b (by rw [q]; simp)
        subst e'
        rw [hK (by rw [q]; simp)] at e; cases e)
    have hM : Mod K mg (hidT s₁.heap H) := ⟨hKb, nsK hns, ⟨mb, nsK hb, hbb⟩, let ⟨mc, h1, h2⟩ := hlim; ⟨mc, nsK h1, h2⟩⟩
    have e0 : Env0 P w K mg (hidT s₁.heap H) callerA [] s₁ H := ⟨rfl, hM, fun b o e => of_hidT e, Nat.le_of_eq (hidT_size _ _), trivial, fun b hb => absurd (show b ∈ ([] : List Addr) from hb) (by simp), hok, .of_eq hg⟩
    refine codeAny_mono ((F _ hKb (nsK hns)).run callerA [] s₁ H ⟨[.ref a], []⟩ [.ref a] [.ref a] _ _ hr e0 (hbind s₁ (.ref a)) (.cons rfl .nil) (hsp H hO hS)) fun r s' h => ?_
    cases r with
    | error e => exact (hCX H e s' h).elim
    | ok fl =>
      cases fl with
      | next => exact False.elim h
      | brk => exact False.elim h
      | cont => exact False.elim h
      | ret u =>
        obtain ⟨v, H', os, bare, un, hok', r', q⟩ := h
        have q' : v = .bl true := q
        subst q'
        obtain rfl : u = Value.bool true := r'
        refine ⟨rfl, OldK.of_keep fun b o e => ?_, os, bare⟩
        cases q : H b with
        | none => exact un.keep b o e q (by intro z; exact absurd (show b ∈ ([] : List Addr) from z) (by simp)) (by simp)
        | some u =>
          rcases hO b with z | ⟨ob, xs, z⟩
          · rw [q] at z; cases z
          · have z2 := un.frzs b ob _ z
            obtain ⟨e1, _⟩ := hok b _ z
            obtain ⟨e2, _⟩ := hok' b _ z2
            rw [e] at e1; cases e1
            exact e2
  cases hk : K.lookup a with
  | some o =>
    -- the script is one of the module's own objects
    have e := KX a o hk
    rw [ha] at e
    cases e
    refine core (fun _ => none) (fun _ => .inl rfl) (.inr ⟨_, vs.toArray, _, hk, rfl, rfl, rfl, by rw [List.size_toArray, lenV]; exact hl, by simpa using rv⟩) (fun b u z => by have z' : (none : Option HO) = some u := z; cases z') (fun b z => absurd rfl z) fun z => absurd rfl z
  | none =>
    refine core (fun b => if b = a then some (.frz { cls := .type "list", data := .seq vs.toArray } (.lst (ns.map V.int))) else none) (fun b => ?_) (.inl (.inr ⟨{ cls := .type "list", data := .seq vs.toArray }, if_pos rfl⟩)) (fun b u z => ?_) (fun b z => ?_) fun _ => hk
    · by_cases hb : b = a
      · exact .inr ⟨_, _, if_pos hb⟩
      · exact .inl (if_neg hb)
    · by_cases hb : b = a
      · have z' := (if_pos hb).symm.trans z
        cases z'
        subst hb
        exact ⟨ha, by rw [List.length_map]; exact hl, vs, _, rv, ha⟩
      · have z' := (if_neg hb).symm.trans z
        cases z'
    · by_cases hb : b = a
      · exact hb
      · exact absurd (if_neg hb) z
end L2

namespace L2
open PySem PySem.Spec PyProof.Rows

abbrev KOf {K : PySem.W.Frag} {h : Heap} (_ : K.In h) : PySem.W.Frag := K

/-- the goal that k_head leaves (case hc), from the law's promise. F gives the function object fd (K's own) once, then the promise over every base -/
theorem walk_of {l : PySem.W.OpenLaw} {n k : Nat} {q : Program} {loose : List Str} {XP : (Str → Option Value) → Heap → Prop} {YP : World → Heap → Prop} {d : DefRec} {K : Params → PySem.W.Frag} {CX : World → CXT} {sp : World → Sp} {x : Str}
    (hn : l.most = some n) (hn2 : n ≤ sizeLine) (hdf : d.params.defaults = []) (hr : Room k callerA)
    (hY : ∀ (w : World) (h : Heap), YP w h → (K w.params).In h)
    (F : ∀ (w : World) (mg : Str → Option Value) (fa : Addr) (h : Heap), (K w.params).In h → h.Ns mainGlobals mg → mg d.name = some (.ref fa) →
      ∃ fd : FuncData, (∀ (s : Shared) (u : Value), BindsTo s fd ⟨[u], []⟩ [(x, u)]) ∧
        ∀ base : Heap, (K w.params).In base → base.Ns mainGlobals mg → FnOk l.prog w (K w.params) mg base (CX w) k fa fd [x] (sp w))
    (hsp : ∀ (w : World) (H : Hp) (a : Addr) (ns : List Int), ns.length ≤ n → Only H → SqL (K w.params) H a (ns.map V.int) → sp w [.ref a] H (fun v _ => v = .bl true) fun _ _ _ => False)
    (hCX : ∀ (w : World) (H : Hp) (s : Shared) (e : Value) (s' : Shared), CX w [] H s (fun _ _ _ => False) e s' → False) :
    PySem.W.WalkO q loose XP YP l.row.toRowW d [] (fun f vs => PySem.call f vs) := by
  refine Att.attach_call hn hdf fun w s₀ s₁ mg mb fa o pm cd doc a vs ns G Y ho hd hcd hmg hobj hints hlen hg => ?_
  have KX := hY w _ Y
  obtain ⟨fd, hb, hF⟩ := F w mg fa _ KX G.T.g hmg
  exact law_call KX G.T.g G.T.b G.T.builtins G.T.nolimit hg hobj hints (Nat.le_trans hlen hn2) hr hF hb (fun H hO hS => hsp w H a ns hlen hO hS) fun H e s' => hCX w H s₁ e s'
end L2

/- THE LAST THEOREM (shape; LID, My.* are yours):
   My.Adr: a structure of the addresses that your layer names (classes, functions); My.Txt K t: a structure (Prop) of the equations over K;
   My.txt_mk : {K} {implicit addresses ..} (e1 : nsIn K mainGlobals "law" = some (some (.ref f))) (e2 : K.lookup f = some ⟨oc, od, .func (fnOf "law" "law" params body scope dV kV doc pm an cdv ct), sl⟩) (e3 : codeIn K cdv "law" = true) .. : ∃ t, My.Txt K t

set_option maxRecDepth 100000 in
set_option maxHeartbeats 0 in
theorem PySem.Challenge.cw_LID_holds : PySem.Challenge.rw_LID.Holds := by
  w_on; o_law; k_head; (case hw => w_witness2)
  k_fill
  refine L2.walk_of (l := PySem.Challenge.rw_LID) (n := 63) (k := 40) (x := "script") (CX := fun w => ..) (sp := fun _ => My.sp_law) rfl (by decide) rfl ⟨rfl, by decide, by decide⟩ (fun w h Y => PySem.W.kIn_of Y) ?F ?S ?C
  case F =>
    intro w mg fa h KX G hmg
    have T : ∃ t, My.Txt (L2.KOf KX) t := by
      dsimp only [L2.KOf]                          -- K must stand as «<heap const> w.params» for k_is
      refine' My.txt_mk ?e1 ?e2 ?e3 ..
      (case e1 => PySem.W.k_is)                    -- in the order: a name -> its address -> its object -> its parts
      (case e2 => PySem.W.k_is)
      ..
    obtain ⟨t, T⟩ := T
    have e0 := hmg.symm.trans (PySem.W.mg_of KX G T.law)
    cases e0                                       -- fa is the law's own address
    exact ⟨_, fun s u => .of_eq rfl, fun base kb nb => My.law_fn T kb nb⟩     -- if «.of_eq rfl» comes too early: refine' ⟨_, ?b, fun base kb nb => My.law_fn T kb nb⟩; exact fun s u => .of_eq rfl
  case S => exact fun w H a ns hl hO hS => ..
  case C => exact ..
(the tactic k_is has no namespace: write k_is) -/

/-! SHORT WORDS over the layer: a def of the text, its body, what a loop and a test want. -/
namespace L2
open PySem PySem.Spec PyProof.Rows

/-! ### the text by places -/
/-- the j-th statement of a class's body -/
def inClass (s : Stmt) (j : Nat) : Stmt := match s with
  | .ClassDef _ _ _ body _ _ _ _ _ _ _ => body.getD j (.Pass ⟨0, 0, 0, 0⟩)
  | _ => .Pass ⟨0, 0, 0, 0⟩
def defArgs (s : Stmt) : Arguments := match s with
  | .FunctionDef _ a _ _ _ _ _ _ _ _ => a
  | _ => { posonlyargs := [], args := [], vararg := none, kwonlyargs := [], kw_defaults := [], kwarg := none, defaults := [] }
def defBody (s : Stmt) : List Stmt := match s with
  | .FunctionDef _ _ b _ _ _ _ _ _ _ => b
  | _ => []
def defScope (s : Stmt) : Scope := match s with
  | .FunctionDef _ _ _ _ _ _ sc _ _ _ => sc
  | _ => { kind := .function, names := [], isGenerator := false, isCoroutine := false }

/-! ### no exception leaves a def -/
abbrev CX0 : CXT := fun _ _ _ _ _ _ => False
abbrev E0 : XK := fun _ _ _ => False
theorem pass0 {X : Cx} : Passes CX0 X E0 := fun _ _ _ _ _ _ _ h => h.elim

/-! ### a def (or method) of the text as it stands behind the top -/
structure Fun (K : PySem.W.Frag) (x qual : Str) (st : Stmt) (f : Addr) (fd : FuncData) : Prop where
  ex : ∃ (oc : Value) (od : Option Addr) (kV doc pm : Value) (an : Option Addr) (cdv ct : Value) (osl : Array (Option Value)),
    fd = PySem.W.fnOf x qual (defArgs st) (defBody st) (defScope st) .none kV doc pm an cdv ct ∧ K.lookup f = some ⟨oc, od, .func fd, osl⟩ ∧ PySem.W.codeIn K cdv qual = true
  kp : PySem.W.keepIn K (.ref f) = true
section
variable {P : Program} {w : World} {K : PySem.W.Frag} {mg : Str → Option Value} {base : Heap}
/-- THE RULE for a def: its body as a term of rules, and the reading of that term -/
theorem Fun.ok {x qual : Str} {st : Stmt} {f : Addr} {fd : FuncData} {N ps : List Str} {k : Nat} {sp : Sp} (F : Fun K x qual st f fd) (S : FnScope N ps (defScope st)) (len : ∀ vs H Q E, sp vs H Q E → vs.length = ps.length)
    (hbody : ∀ (cdv : Value) (A : Around) (outer : List Env) (s : Shared) (H : Hp) (vs : List V) (Q : VK) (E : XK), Room k (A.deeper (envOfC qual (defScope st) s.heap.objs.size f cdv)) → sp vs H Q E →
      ∃ t, PSs (cxOf CX0 P w K mg base N qual (defScope st) f cdv A outer s H E).nox (defBody st) t ∧ t { nx := fun _ H' => Q .non H', rt := Q } (start N vs) H) : FnOk P w K mg base CX0 (k + 1) f fd ps sp := by
  obtain ⟨oc, od, kV, doc, pm, an, cdv, ct, osl, rfl, lk, hcd⟩ := F.ex
  refine fn_of lk hcd S len fun A outer s H vs Q E hr hsp => ?_
  obtain ⟨t, h, q⟩ := hbody cdv A outer s H vs Q E hr hsp
  exact ⟨t, h.nox, q⟩
/-- how its arguments bind (no defaults): h is «fun _ _ _ _ _ _ us hl => match us, hl with | [_, _], _ => rfl», one _ a parameter -/
theorem Fun.binds {x qual : Str} {st : Stmt} {f : Addr} {fd : FuncData} {ps : List Str} (F : Fun K x qual st f fd)
    (h : ∀ (kV doc pm : Value) (an : Option Addr) (cdv ct : Value) (us : List Value), us.length = ps.length → bindArgs (PySem.W.fnOf x qual (defArgs st) (defBody st) (defScope st) .none kV doc pm an cdv ct) ⟨us, []⟩ = pure (ps.zip us)) : Binds K fd ps [] := by
  obtain ⟨oc, od, kV, doc, pm, an, cdv, ct, osl, rfl, lk, hcd⟩ := F.ex
  exact .all (h kV doc pm an cdv ct)
theorem fun_mk {x qual : Str} {st : Stmt} {f : Addr} {oc : Value} {od an : Option Addr} {osl : Array (Option Value)} {kV doc pm cdv ct : Value} (l : K.lookup f = some ⟨oc, od, .func (PySem.W.fnOf x qual (defArgs st) (defBody st) (defScope st) .none kV doc pm an cdv ct), osl⟩)
    (c : PySem.W.codeIn K cdv qual = true) (k : PySem.W.keepIn K (.ref f) = true) : Fun K x qual st f (PySem.W.fnOf x qual (defArgs st) (defBody st) (defScope st) .none kV doc pm an cdv ct) := ⟨⟨oc, od, kV, doc, pm, an, cdv, ct, osl, rfl, l, c⟩, k⟩
end
theorem hu_of {A : Around} {k : Nat} (hr : Room k A) : A.units + 1 < cLine := Nat.lt_of_le_of_lt (Nat.add_le_add_left (by decide : 1 ≤ 64) _) hr.units
theorem small1000 {n : Nat} (h : n ≤ 1000) : n < sizeLine := Nat.lt_of_le_of_lt h (by decide)

/-! ### expressions in short: the name that stands in the i-th slot -/
section
variable {X : Cx}
theorem pv (i : Nat) {x : Str} {pos : Pos} (hN : X.N[i]? = some x := by rfl) (hv : Vis X.env.scope x := by first | exact Or.inl rfl | exact Or.inr (Or.inl rfl) | exact Or.inr (Or.inr rfl)) (hd : (x == ("__debug__" : Str)) = false := by decide)
    (hcd : (x == ("__classdict__" : Str)) = false := by decide) : PE X (.Name x pos) (tVar i) := pe_var hN hv hd hcd
end

/-! ### tests -/
theorem iteF {A B : Prop} (h : B) : if false = true then A else B := by
  rw [if_neg Bool.false_ne_true]
  exact h
theorem iteT {A B : Prop} (h : A) : if true = true then A else B := by
  rw [if_pos rfl]
  exact h
theorem ite2 {c A B : Prop} [Decidable c] (h1 : c → A) (h2 : ¬ c → B) : if c then A else B := by
  by_cases h : c
  · rw [if_pos h]
    exact h1 h
  · rw [if_neg h]
    exact h2 h
/-! ### heaps -/
/-- all that was tracked is as it was -/
def Same (H H' : Hp) : Prop := ∀ b o, H b = some o → H' b = some o
theorem Same.refl (H : Hp) : Same H H := fun _ _ h => h
theorem Same.trans {H H1 H2 : Hp} (a : Same H H1) (b : Same H1 H2) : Same H H2 := fun c o h => b c o (a c o h)
theorem Same.seq {K : PySem.W.Frag} {H H' : Hp} {a : Addr} {xs : List V} (e : Same H H') (h : SqL K H a xs) : SqL K H' a xs := by
  rcases h with (h | ⟨o, h⟩) | h
  · exact .inl (.inl (e _ _ h))
  · exact .inl (.inr ⟨o, e _ _ h⟩)
  · exact .inr h

end L2

namespace GM
/-- the greatest common divisor, as an int -/
def G (a b : Int) : Int := (Int.gcd a b : Int)
/-- an amount in lowest terms -/
structure Amt (t b : Int) : Prop where
  t0 : 0 ≤ t
  b1 : 1 ≤ b
  g : G t b = 1
end GM

namespace L2
open PySem PySem.Spec PyProof.Rows
/-! ### isinstance against a built-in type -/
inductive Isi (K : PySem.W.Frag) (H : Hp) : V → String → Bool → Prop where
  | int_int {n} : Isi K H (.int n) "int" true
  | int_bool {n} : Isi K H (.int n) "bool" false
  | int_tuple {n} : Isi K H (.int n) "tuple" false
  | int_str {n} : Isi K H (.int n) "str" false
  | int_list {n} : Isi K H (.int n) "list" false
  | bl_int {b} : Isi K H (.bl b) "int" true
  | bl_bool {b} : Isi K H (.bl b) "bool" true
  | bl_tuple {b} : Isi K H (.bl b) "tuple" false
  | bl_str {b} : Isi K H (.bl b) "str" false
  | str_int {x} : Isi K H (.str x) "int" false
  | str_bool {x} : Isi K H (.str x) "bool" false
  | str_tuple {x} : Isi K H (.str x) "tuple" false
  | str_str {x} : Isi K H (.str x) "str" true
  | non_int : Isi K H .non "int" false
  | non_str : Isi K H .non "str" false
  | non_tuple : Isi K H .non "tuple" false
  | tup_tuple {a xs} : SqT K H a xs → Isi K H (.ref a) "tuple" true
  | tup_int {a xs} : SqT K H a xs → Isi K H (.ref a) "int" false
  | tup_str {a xs} : SqT K H a xs → Isi K H (.ref a) "str" false
  | tup_list {a xs} : SqT K H a xs → Isi K H (.ref a) "list" false
  | lst_tuple {a xs} : SqL K H a xs → Isi K H (.ref a) "tuple" false
  | lst_int {a xs} : SqL K H a xs → Isi K H (.ref a) "int" false
  | lst_str {a xs} : SqL K H a xs → Isi K H (.ref a) "str" false
  | lst_list {a xs} : SqL K H a xs → Isi K H (.ref a) "list" true
section
variable {X : Cx}
theorem call_isi : CallR X (.builtin "isinstance") (fun xs H Q => ∃ x T b, xs = [x, .ty T] ∧ Isi X.K H x T b ∧ Q (.bl b) H) := by
  intro pins s σ H xs us Q I r h
  obtain ⟨x, T, b, rfl, hi, q⟩ := h
  obtain ⟨u, w', rfl, rx, ry⟩ := vals2 r
  cases ry
  have f1 : EP X pins σ Q (.bool b) s := ⟨.bl b, H, I, rfl, q⟩
  have f2 : EP X pins σ Q (.bool b) { s with toks := s.toks + 1 } := ⟨.bl b, H, I.tok _, rfl, q⟩
  cases hi with
  | int_int => obtain ⟨t, rfl⟩ := rx; exact IsiPair.int_int f1
  | int_bool => obtain ⟨t, rfl⟩ := rx; exact IsiPair.int_bool f2
  | int_tuple => obtain ⟨t, rfl⟩ := rx; exact IsiPair.int_tuple f2
  | int_str => obtain ⟨t, rfl⟩ := rx; exact IsiPair.int_str f2
  | int_list => obtain ⟨t, rfl⟩ := rx; exact IsiPair.int_list f2
  | bl_int => cases rx; exact IsiPair.bool_int f1
  | bl_bool => cases rx; exact IsiPair.bool_bool f1
  | bl_tuple => cases rx; exact IsiPair.bool_tuple f2
  | bl_str => cases rx; exact IsiPair.bool_str f2
  | str_int => obtain ⟨t, rfl⟩ := rx; exact IsiPair.str_int f2
  | str_bool => obtain ⟨t, rfl⟩ := rx; exact IsiPair.str_bool f2
  | str_tuple => obtain ⟨t, rfl⟩ := rx; exact IsiPair.str_tuple f2
  | str_str => obtain ⟨t, rfl⟩ := rx; exact IsiPair.str_str f1
  | non_int => cases rx; exact IsiPair.NoneType_int f2
  | non_str => cases rx; exact IsiPair.NoneType_str f2
  | non_tuple => cases rx; exact IsiPair.NoneType_tuple f2
  | tup_tuple hq => cases rx; obtain ⟨its, _, ⟨o, e, c, _⟩, _⟩ := I.tuple hq; exact IsiPair.tuple_tuple e c f1
  | tup_int hq => cases rx; obtain ⟨its, _, ⟨o, e, c, _⟩, _⟩ := I.tuple hq; exact IsiPair.tuple_int e c f2
  | tup_str hq => cases rx; obtain ⟨its, _, ⟨o, e, c, _⟩, _⟩ := I.tuple hq; exact IsiPair.tuple_str e c f2
  | tup_list hq => cases rx; obtain ⟨its, _, ⟨o, e, c, _⟩, _⟩ := I.tuple hq; exact IsiPair.tuple_list e c f2
  | lst_tuple hq => cases rx; obtain ⟨its, _, ⟨o, n, e, c, _⟩, _⟩ := I.list hq; exact IsiPair.list_tuple e c f2
  | lst_int hq => cases rx; obtain ⟨its, _, ⟨o, n, e, c, _⟩, _⟩ := I.list hq; exact IsiPair.list_int e c f2
  | lst_str hq => cases rx; obtain ⟨its, _, ⟨o, n, e, c, _⟩, _⟩ := I.list hq; exact IsiPair.list_str e c f2
  | lst_list hq => cases rx; obtain ⟨its, _, ⟨o, n, e, c, _⟩, _⟩ := I.list hq; exact IsiPair.list_list e c f1
/-! ### is, is not of bools -/
/-! ### == and != of tuples, at any depth: what the comparison tells -/
inductive DEq (K : PySem.W.Frag) (H : Hp) : Nat → V → V → Bool → Prop where
  | flat {n x y} : flatV x = true → flatV y = true → DEq K H n x y (eqV x y)
  | same {n a} : DEq K H n (.ref a) (.ref a) true
  | tup {n a b xs ys} {e : Nat → Bool} : a ≠ b → SqT K H a xs → SqT K H b ys → (∀ (j : Nat) x y, xs[j]? = some x → ys[j]? = some y → DEq K H n x y (e j)) →
      DEq K H (n + 1) (.ref a) (.ref b) ((List.range (min xs.length ys.length)).all e && xs.length == ys.length)
  | lst {n a b xs ys} {e : Nat → Bool} : a ≠ b → SqL K H a xs → SqL K H b ys → (∀ (j : Nat) x y, xs[j]? = some x → ys[j]? = some y → DEq K H n x y (e j)) →
      DEq K H (n + 1) (.ref a) (.ref b) ((List.range (min xs.length ys.length)).all e && xs.length == ys.length)
theorem tups_at {pins : List (Addr × Obj)} {σ : St} {H : Hp} {s : Shared} (I : Inv X pins σ H s) {A : Around} {a b : Addr} {xs ys : List V} {e : Nat → Bool} (hx : SqT X.K H a xs) (hy : SqT X.K H b ys) (hu : A.units < cLine)
    (hd : ∀ (j : Nat) x y u v, xs[j]? = some x → ys[j]? = some y → RelV x u → RelV y v → SeqAt.EqAt A.in1 s u v (e j)) :
    SeqAt.RcAt A s (.ref a) (.ref b) ((List.range (min xs.length ys.length)).all e && xs.length == ys.length) := by
  obtain ⟨its, r, tx, _⟩ := I.tuple hx
  obtain ⟨its', r', ty, _⟩ := I.tuple hy
  have l1 := r.length
  have l2 := r'.length
  have q := SeqAt.RcAt.tuples (A := A) (e := e) tx ty hu (fun j h1 h2 => ?_)
  · rw [List.size_toArray, List.size_toArray, ← l1, ← l2] at q
    exact q
  · rw [List.size_toArray] at h1 h2
    obtain ⟨x, hxj⟩ : ∃ x, xs[j]? = some x := ⟨_, List.getElem?_eq_getElem (by omega)⟩
    obtain ⟨y, hyj⟩ : ∃ y, ys[j]? = some y := ⟨_, List.getElem?_eq_getElem (by omega)⟩
    obtain ⟨u1, hu1, ru1⟩ := r.get hxj
    obtain ⟨u2, hu2, ru2⟩ := r'.get hyj
    have e1 : its.toArray[j] = u1 := by
      have := (List.getElem?_eq_some_iff.mp hu1).2
      simpa using this
    have e2 : its'.toArray[j] = u2 := by
      have := (List.getElem?_eq_some_iff.mp hu2).2
      simpa using this
    rw [e1, e2]
    exact hd j x y u1 u2 hxj hyj ru1 ru2
theorem isList_of {h : Heap} {a : Addr} {its : Array Value} (p : PlainL h a its) : h.IsList a its := by
  obtain ⟨o, n, e, c, _, d⟩ := p
  exact ⟨o, e, c, n, d⟩
theorem lsts_at {pins : List (Addr × Obj)} {σ : St} {H : Hp} {s : Shared} (I : Inv X pins σ H s) {A : Around} {a b : Addr} {xs ys : List V} {e : Nat → Bool} (hx : SqL X.K H a xs) (hy : SqL X.K H b ys) (hu : A.units < cLine)
    (hd : ∀ (j : Nat) x y u v, xs[j]? = some x → ys[j]? = some y → RelV x u → RelV y v → SeqAt.EqAt A.in1 s u v (e j)) :
    SeqAt.RcAt A s (.ref a) (.ref b) ((List.range (min xs.length ys.length)).all e && xs.length == ys.length) := by
  obtain ⟨its, r, tx, _⟩ := I.list hx
  obtain ⟨its', r', ty, _⟩ := I.list hy
  have l1 := r.length
  have l2 := r'.length
  by_cases hl : xs.length = ys.length
  · have q := SeqAt.RcAt.lists (A := A) (e := e) (isList_of tx) (isList_of ty) (by rw [List.size_toArray, List.size_toArray]; omega) hu (fun j h1 h2 => ?_)
    · rw [List.size_toArray, ← l1] at q
      have e1 : ((List.range (min xs.length ys.length)).all e && xs.length == ys.length) = (List.range xs.length).all e := by
        rw [← hl, Nat.min_self, beq_self_eq_true, Bool.and_true]
      rw [e1]
      exact q
    · rw [List.size_toArray] at h1 h2
      obtain ⟨x, hxj⟩ : ∃ x, xs[j]? = some x := ⟨_, List.getElem?_eq_getElem (by omega)⟩
      obtain ⟨y, hyj⟩ : ∃ y, ys[j]? = some y := ⟨_, List.getElem?_eq_getElem (by omega)⟩
      obtain ⟨u1, hu1, ru1⟩ := r.get hxj
      obtain ⟨u2, hu2, ru2⟩ := r'.get hyj
      have e1 : its.toArray[j] = u1 := by
        have := (List.getElem?_eq_some_iff.mp hu1).2
        simpa using this
      have e2 : its'.toArray[j] = u2 := by
        have := (List.getElem?_eq_some_iff.mp hu2).2
        simpa using this
      rw [e1, e2]
      exact hd j x y u1 u2 hxj hyj ru1 ru2
  · have q := SeqAt.RcAt.lists_lengths (A := A) (isList_of tx) (isList_of ty) (by rw [List.size_toArray, List.size_toArray, ← l1, ← l2, bne_iff_ne]; exact hl) hu
    have e1 : ((List.range (min xs.length ys.length)).all e && xs.length == ys.length) = false := by
      rw [beq_eq_false_iff_ne.mpr hl, Bool.and_false]
    rw [e1]
    exact q
theorem DEq.at {pins : List (Addr × Obj)} {σ : St} {H : Hp} {s : Shared} (I : Inv X pins σ H s) {n : Nat} {x y : V} {k : Bool} (d : DEq X.K H n x y k) : ∀ {A : Around} {u v : Value}, A.units + n < cLine → RelV x u → RelV y v → SeqAt.EqAt A s u v k := by
  induction d with
  | flat fx fy => intro A u v _ rx ry; exact eqAt_V rx ry fx fy
  | same => intro A u v _ rx ry; cases rx; cases ry; exact SeqAt.EqAt.same _
  | @tup n a b xs ys e hne hx hy hd ih =>
    intro A u v hu rx ry
    cases rx; cases ry
    exact SeqAt.EqAt.of_refs hne (tups_at I hx hy (by omega) fun j x y u v h1 h2 r1 r2 => ih j x y h1 h2 (by show A.units + 1 + n < cLine; omega) r1 r2)
  | @lst n a b xs ys e hne hx hy hd ih =>
    intro A u v hu rx ry
    cases rx; cases ry
    exact SeqAt.EqAt.of_refs hne (lsts_at I hx hy (by omega) fun j x y u v h1 h2 r1 r2 => ih j x y h1 h2 (by show A.units + 1 + n < cLine; omega) r1 r2)
/-- == of two tuples; the items' answers e -/
def rEqT (K : PySem.W.Frag) : R2 := fun x y H Q => ∃ a b xs ys, ∃ e : Nat → Bool, x = .ref a ∧ y = .ref b ∧ SqT K H a xs ∧ SqT K H b ys ∧ (∀ (j : Nat) x y, xs[j]? = some x → ys[j]? = some y → DEq K H 40 x y (e j)) ∧
  Q (.bl ((List.range (min xs.length ys.length)).all e && xs.length == ys.length)) H
def rNeT (K : PySem.W.Frag) : R2 := fun x y H Q => ∃ a b xs ys, ∃ e : Nat → Bool, x = .ref a ∧ y = .ref b ∧ SqT K H a xs ∧ SqT K H b ys ∧ (∀ (j : Nat) x y, xs[j]? = some x → ys[j]? = some y → DEq K H 40 x y (e j)) ∧
  Q (.bl (!((List.range (min xs.length ys.length)).all e && xs.length == ys.length))) H
end
end L2

namespace L2
open PySem PySem.Spec PyProof.Rows
/-! ### a list comprehension of one clause -/
/-- the loop of a comprehension, a turn at a time -/
theorem compLoop_gen {prog : Program} {w : World} {A : Around} {R : Result → Shared → Prop} {s : Shared} {elt target iter : Expr} {ifs : List Expr} {scope : Scope} {pos : Pos} {it acc : Value} {env : Env} (I : Nat → Shared → Prop)
    (turn : ∀ n s, I n s → wpAny (model prog w) A (pyNext it) (fun r s₁ => match r with
      | none => R (.ok .next) s₁
      | some v => wpAny (model prog w) A (letOwnedTupleGo target it v) (fun _ s₁' => wpAny (model prog w) A (assign target env v) (fun _ s₂ =>
          wpAny (model prog w) A (forIn ifs true fun c r => if r = true then do let ok ← isTrue c env (eval c env); pure (ForInStep.yield ok) else pure (ForInStep.yield r)) (fun ok s₃ =>
            if ok = true then wpAny (model prog w) A (eval elt env) (fun x s₄ =>
              wpAny (model prog w) A (call (.builtin "list.append") [acc, x]) (fun _ s₅ => ∃ m, m < n ∧ I m s₅) (fun _ _ => False) s₄) (fun _ _ => False) s₃
            else ∃ m, m < n ∧ I m s₃) (fun _ _ => False) s₂) (fun _ _ => False) s₁') (fun _ _ => False) s₁) (fun _ _ => False) s)
    (n : Nat) (h : I n s) : codeAny (model prog w) A (.compLoop (.ListComp elt [⟨target, iter, ifs, 0⟩] scope pos) 0 it acc env) R s := by
  refine codeAny_loop rfl I (fun n s hI => ?_) n h
  show wpAny _ A ((compTurn (.ListComp elt [⟨target, iter, ifs, 0⟩] scope pos) 0 it acc env).onRaise (fun x => do noteFrame x env; theTreesLotGoes x)) _ _ s
  refine wpAny_noted ?_
  rw [compTurn_list]
  refine wpAny_bind (wpAny_standAt (wpAny_bind (wpAny_mono (turn n s hI) (fun r s₁ h₁ => ?_) fun _ _ z => z.elim)))
  cases r with
  | none => exact wpAny_pure h₁
  | some v =>
    refine wpAny_bind (wpAny_mono h₁ (fun _ s₁' h₁' => ?_) fun _ _ z => z.elim)
    refine wpAny_bind (wpAny_mono h₁' (fun _ s₂ h₂ => wpAny_bind (wpAny_mono h₂ (fun ok s₃ h₃ => ?_) fun _ _ z => z.elim)) fun _ _ z => z.elim)
    cases ok with
    | false => exact wpAny_pure ⟨rfl, h₃⟩
    | true =>
      exact wpAny_bind (wpAny_bind (wpAny_mono h₃ (fun x s₄ h₄ => wpAny_bind (wpAny_mono h₄ (fun _ s₅ h₅ => wpAny_pure (wpAny_pure ⟨rfl, h₅⟩)) fun _ _ z => z.elim)) fun _ _ z => z.elim))
/-- the block's context -/
def blk (X : Cx) (N' : List Str) (scope : Scope) (cl : List (Str × Addr)) (C : Addr) (s₀ : Shared) (H₀ : Hp) (ex : List Addr) (pn : List (Addr × Obj)) : Cx where
  prog := X.prog
  w := X.w
  K := X.K
  mg := X.mg
  base := X.base
  A := X.A
  N := N'
  s₀ := s₀
  H₀ := H₀
  env := compEnvC scope cl C X.env
  outer := X.stack
  stack := X.stack
  ex := ex
  fn := fun _ => false
  calm := X.calm
  pn := pn
  xe := fun _ _ => False
structure ClOk (X : Cx) (scope : Scope) (cl : List (Str × Addr)) : Prop where
  run : closureFor scope X.env = pure cl
  sub : ∀ x c, cl.lookup x = some c → X.env.cells.lookup x = some c
  has : ∀ x, ((relabel scope X.env).names.lookup x = some .cell ∨ (relabel scope X.env).names.lookup x = some .free) → ∃ c, cl.lookup x = some c
/-- the names that the block takes over stand in cells -/
structure BlkN (X : Cx) (N' : List Str) (scope : Scope) (cl : List (Str × Addr)) (σ σ' : St) : Prop where
  len : σ'.length = N'.length
  from' : ∀ (i : Nat) (x : Str) (v : V), N'[i]? = some x → σ'[i]? = some (some v) → ∃ j : Nat, X.N[j]? = some x ∧ σ[j]? = some (some v) ∧ Vis X.env.scope x ∧ X.env.kindOf x ≠ some .local ∧
    ((relabel scope X.env).names.lookup x = some .cell ∨ (relabel scope X.env).names.lookup x = some .free)
section
variable {X : Cx} {pins : List (Addr × Obj)} {σ σ' : St} {H : Hp} {s : Shared}
theorem blk_start {N' : List Str} {scope : Scope} {cl : List (Str × Addr)} {fp : List Addr} {h₁ : Heap} {t' : Nat} (I : Inv X pins σ H s) (hkind : scope.kind = .function) (hcl : ClOk X scope cl) (hN : BlkN X N' scope cl σ σ') (hf : ∀ b ∈ fp, FpOk X pins H b) (hfo : ∀ b ∈ fp, b < s.heap.objs.size)
    (hns : h₁.Ns s.heap.objs.size (fun _ => none)) (hk : ∀ b o, s.heap.get? b = some o → h₁.get? b = some o) :
    Inv (blk X N' scope cl s.heap.objs.size s H fp (X.pn ++ pins)) [] σ' H { s with heap := h₁, toks := t' } := by
  have hfs : ∀ b, b ∉ (X.env.locals :: X.fs) → b ∉ frs X.stack := fun b hb z => hb (I.stkSub b z)
  refine ⟨⟨I.ok.mod, hkind, I.ok.glob, I.ok.blt, Nat.le_refl _, ?_, hcl.has, fun _ _ h => absurd h (by intro z; cases z), I.ok.hd, I.ok.frames, .inl rfl, ?_, I.bs, Nat.le_trans I.ok.bsz I.sz, ?_, ?_, I.stack, I.stkFree⟩,
    rfl, I.bare, Un.kept hk, ⟨_, hns, ?_⟩, ?_, I.hok.fresh (Nat.le_refl _), fun x c e => I.freeC x c (hcl.sub x c e), ?_, I.hok.kept hk, hN.len⟩
  · intro x y c h1 h2
    exact I.ok.inj x y c (hcl.sub x c h1) (hcl.sub y c h2)
  · intro b hb
    exact ⟨Nat.ne_of_lt (hfo b hb), fun x c e => (hf b hb).2.2.2.2.1 x c (hcl.sub x c e)⟩
  · intro b o e hb
    rcases (hf b hb).2.2.2.1 with q | q
    · exact I.ok.noex b o e q
    · exact absurd (Nat.lt_of_lt_of_le (Heap.lt_size e) (Nat.le_trans I.ok.bsz q)) (Nat.lt_irrefl _)
  · intro b hb
    refine hfs b fun z => ?_
    rcases List.mem_cons.mp z with z | z
    · exact (hf b hb).2.1 z
    · exact (hf b hb).2.2.1 z
  · intro i x v h1 h2 _
    obtain ⟨j, hj, hσ, hv, hnl, hk'⟩ := hN.from' i x v h1 h2
    obtain ⟨m, hn, hl⟩ := I.loc
    obtain ⟨u, r, l⟩ := hl j x v hj hσ hv
    refine ⟨u, r, .inr ⟨hk', ?_⟩⟩
    obtain ⟨c, hc⟩ := hcl.has x hk'
    rcases l with ⟨hloc, _⟩ | ⟨_, c', hc', hcell⟩
    · exact absurd hloc hnl
    · have e := hcl.sub x c hc
      rw [hc'] at e
      cases e
      obtain ⟨o, ho, hd⟩ := hcell
      exact ⟨_, hc, o, hk _ _ ho, hd⟩
  · intro x c e
    obtain ⟨v, o, ho, hd⟩ := I.cell x c (hcl.sub x c e)
    exact ⟨v, o, hk _ _ ho, hd⟩
  · intro p hp
    rw [show (blk X N' scope cl s.heap.objs.size s H fp (X.pn ++ pins)).pn = X.pn ++ pins from rfl, List.append_nil] at hp
    obtain ⟨a1, a2, a3, a4, a5⟩ := I.pin p hp
    refine ⟨hk _ _ a1, a2, Nat.ne_of_lt (Heap.lt_size a1), hfs _ fun z => ?_, a5⟩
    rcases List.mem_cons.mp z with z | z
    · exact a3 z
    · exact a4 z
theorem blk_end {N' : List Str} {scope : Scope} {cl : List (Str × Addr)} {fp : List Addr} {pl : List (Addr × Obj)} {H' : Hp} {s' : Shared} {h'' : Heap} (I : Inv X pins σ H s) (hf : ∀ b ∈ fp, FpOk X pins H b)
    (J : Inv (blk X N' scope cl s.heap.objs.size s H fp (X.pn ++ pins)) pl σ' H' s') (hs : Heap.SameBut s.heap.objs.size s'.heap h'') : Inv X pins σ H' { s' with heap := h'' } := by
  have hne : ∀ b o, s.heap.get? b = some o → b ≠ s.heap.objs.size := fun b o e => Nat.ne_of_lt (Heap.lt_size e)
  have hC : H' s.heap.objs.size = none := J.free
  have ub : Un (frs X.stack) fp H H' s.heap s'.heap := J.base
  have u : Un (frs X.stack) fp H H' s.heap h'' := {
    keep := fun b o e n hb hx => hs.extBut b o (hne b o e) (ub.keep b o e n hb hx)
    slot := fun b o e n hb hx => by
      obtain ⟨sl, q⟩ := ub.slot b o e n hb hx
      exact ⟨sl, hs.extBut b _ (hne b o e) q⟩
    free := ub.free
    there := fun b o e hx => by
      obtain ⟨o', q⟩ := ub.there b o e hx
      exact ⟨o', hs.extBut b _ (hne b o e) q⟩
    tups := ub.tups
    frzs := ub.frzs
    tbls := ub.tbls }
  have hok : HOk X.prog X.w H' h'' := fun a o e => (J.hok a o e).stay (fun b ob hb q => hs.extBut b ob (fun z => by
    rw [z] at hb
    rcases hb with hb | hb
    · rw [← hb, hC] at e; cases e
    · rw [hC] at hb; cases hb) q) (fun _ h => h) (fun _ _ h => h)
  exact I.call' (s' := { s' with heap := h'' }) J.os u hok J.bare fun b hb => by
    obtain ⟨f0, f1, f2, f3, f4, f5⟩ := hf b hb
    exact ⟨f3, f1, f4, f5⟩
end
end L2

namespace L2
open PySem PySem.Spec PyProof.Rows
/-- the tests of a clause -/
def PIfs (X : Cx) (ifs : List Expr) (t : TT) : Prop :=
  ∀ (pins : List (Addr × Obj)) (s : Shared) (σ : St) (H : Hp) (Q : Bool → Hp → Prop), Inv X pins σ H s → t σ H Q →
    wpAny (model X.prog X.w) X.A (forIn ifs true fun c r => if r = true then do let ok ← isTrue c X.env (eval c X.env); pure (ForInStep.yield ok) else pure (ForInStep.yield r)) (TP X pins σ Q) X.xe s
def tNoIf : TT := fun _ H Q => Q true H
theorem pifs_nil {X : Cx} : PIfs X [] tNoIf := fun _ _ _ H _ I h => wpAny_tests_nil ⟨H, I, h⟩
theorem pifs_one {X : Cx} {c : Expr} {t : TT} (h : PT X c t) : PIfs X [c] t := fun pins s σ H Q I hw => wpAny_tests_one (h pins s σ H Q I hw)
/-- the slots that were filled are as they were -/
structure Keep (σa σb : St) : Prop where
  len : σb.length = σa.length
  at' : ∀ (i : Nat) (v : V), σa[i]? = some (some v) → σb[i]? = some (some v)
theorem Keep.refl (σ : St) : Keep σ σ := ⟨rfl, fun _ _ h => h⟩
theorem Keep.set {σa σb : St} {i : Nat} {v : V} (k : Keep σa σb) (h : σa[i]? = some none) : Keep σa (σb.set i (some v)) := by
  refine ⟨by rw [List.length_set]; exact k.len, fun j u e => ?_⟩
  have hj : i ≠ j := by
    rintro rfl
    rw [h] at e
    cases e
  rw [List.getElem?_set_ne hj]
  exact k.at' j u e
def tComp (σf : St → St) (wi : TI) (g : TG) (tt : TT) (te : TE) : TE := fun σ H Q => wi σ H fun J H1 => ∀ D, H1 D = none → ∃ W : Nat → Nat → List V → Hp → Prop, (∃ m, W 0 m [] (upd H1 D (.lst []))) ∧
  ∀ i m ys H, W i m ys H → H D = some (.lst ys) ∧ ys.length < sizeLine ∧
    ((J.stop i H ∧ Q (.ref D) H) ∨ (J.go i H ∧ ∀ x H', J.yld i H x H' → g x (σf σ) H' fun σ2 H2 => Keep (σf σ) σ2 ∧ tt σ2 H2 fun b H3 =>
      if b = true then te σ2 H3 fun y H4 => H4 D = some (.lst ys) ∧ ∃ m', m' < m ∧ W (i + 1) m' (ys ++ [y]) (upd H4 D (.lst (ys ++ [y]))) else ∃ m', m' < m ∧ W (i + 1) m' ys H3))
theorem pe_comp {X : Cx} {elt tg iter : Expr} {ifs : List Expr} {scope : Scope} {pos : Pos} {N' : List Str} {cl : List (Str × Addr)} {wi : TI} {g : TG} {tt : TT} {te : TE} (σf : St → St)
    (hc : X.calm = true) (hkind : scope.kind = .function) (hcell : ∀ y ∈ scope.names, y.2 ≠ .cell) (hnames : ∀ y ∈ scope.names, y.2 = .local → scope.names.lookup y.1 = some .local) (hcl : ClOk X scope cl)
    (hN : ∀ σ : St, σ.length = X.N.length → BlkN X N' scope cl σ (σf σ)) (hi : PI X tg iter wi)
    (hg : ∀ C s₀ H₀ ex pn, PG (blk X N' scope cl C s₀ H₀ ex pn) tg g) (ht : ∀ C s₀ H₀ ex pn, PIfs (blk X N' scope cl C s₀ H₀ ex pn) ifs tt) (he : ∀ C s₀ H₀ ex pn, PE (blk X N' scope cl C s₀ H₀ ex pn) elt te)
    (hs : ∀ x, foldedSetIterable iter X.env x = pure x := by intro _; rfl) : PE X (.ListComp elt [⟨tg, iter, ifs, 0⟩] scope pos) (tComp σf wi g tt te) := by
  intro pins s σ H Q I h
  rw [eval_ListComp]
  refine wpAny_comprehension_free (use := none) rfl hs hcl.run hkind hnames (thn (hi pins s σ H _ I h) fun v s1 h1 => thn h1 fun itv s2 h2 => ?_)
  obtain ⟨it, fp, tn, J, H2, rfl, I2, T, st2, f2, q⟩ := h2
  refine wpAny_newObj_type (wpAny_newFunctionEnv hcell (by intro y hy; simp at hy) (fun h₁ hns₁ hsb₁ => ?_) hkind)
  dsimp only at hns₁ hsb₁ ⊢
  have hfo : ∀ b ∈ fp, b < s2.heap.objs.size := fun b hb => by
    obtain ⟨o, e, _⟩ := T.obj _ _ st2 b hb
    exact Heap.lt_size e
  have hDf : H2 s2.heap.objs.size = none := I2.hok.fresh (Nat.le_refl _)
  obtain ⟨W, ⟨m0, w0⟩, turn⟩ := q s2.heap.objs.size hDf
  have I3 : Inv X pins σ (upd H2 s2.heap.objs.size (.lst [])) { s2 with heap := s2.heap.push { cls := .type "list", data := .seq ([] : List Value).toArray } } := I2.lnew (its := []) (t' := s2.toks) .nil (Nat.zero_le _)
  have f3 : ∀ b ∈ fp, FpOk X pins (upd H2 s2.heap.objs.size (.lst [])) b := fun b hb => ⟨by rw [upd_ne (Nat.ne_of_lt (hfo b hb))]; exact (f2 b hb).1, (f2 b hb).2⟩
  generalize hD : s2.heap.objs.size = D at *
  generalize hs3 : ({ s2 with heap := s2.heap.push { cls := .type "list", data := .seq ([] : List Value).toArray } } : Shared) = s3 at *
  have hh3 : s3.heap = s2.heap.push { cls := .type "list", data := .seq ([] : List Value).toArray } := by rw [← hs3]
  have hsz3 : s2.heap.objs.size < s3.heap.objs.size := by rw [hh3, Heap.size_push]; exact Nat.lt_succ_self _
  have e3 : ∀ h t, ({ s2 with heap := h, toks := t } : Shared) = { s3 with heap := h, toks := t } := fun h t => by rw [← hs3]
  rw [← hh3] at hns₁ hsb₁ ⊢
  have hk3 : ∀ b o, s3.heap.get? b = some o → h₁.get? b = some o := fun b o e => hsb₁.extBut b o (Nat.ne_of_lt (Heap.lt_size e)) (Heap.get?_push_of_some _ e)
  have I4 := blk_start (t' := s3.toks) I3 hkind hcl (hN σ I.len) f3 (fun b hb => Nat.lt_trans (hfo b hb) (hD ▸ hsz3)) (hns := by simpa using hns₁) hk3
  generalize hB : blk X N' scope cl s3.heap.objs.size s3 (upd H2 D (.lst [])) fp (X.pn ++ pins) = B at *
  have hBp : B.prog = X.prog := by rw [← hB]; rfl
  have hBw : B.w = X.w := by rw [← hB]; rfl
  have hBK : B.K = X.K := by rw [← hB]; rfl
  have hBA : B.A = X.A := by rw [← hB]; rfl
  have hBc : B.calm = true := by rw [← hB]; exact hc
  have hBe : B.env = compEnvC scope cl s3.heap.objs.size X.env := by rw [← hB]; rfl
  have hBx : B.xe = fun _ _ => False := by rw [← hB]; rfl
  have hGB : PG B tg g := hB ▸ hg _ _ _ _ _
  have hTB : PIfs B ifs tt := hB ▸ ht _ _ _ _ _
  have hEB : PE B elt te := hB ▸ he _ _ _ _ _
  have stat : ∀ {H' : Hp}, (∀ b ∈ fp, H' b = none) → ∀ b ∈ fp, FpOk B [] H' b := fun {H'} hn b hb => by
    obtain ⟨f0, f1, f2', f3', f4, f5⟩ := f3 b hb
    rw [← hB]
    refine ⟨hn b hb, Nat.ne_of_lt (Nat.lt_trans (hfo b hb) (hD ▸ hsz3)), fun z => ?_, .inl hb, fun x c e => f4 x c (hcl.sub x c e), fun p hp => ?_⟩
    · rcases List.mem_cons.mp (I.stkSub b z) with z | z
      · exact f1 z
      · exact f2' z
    · rw [show (blk X N' scope cl s3.heap.objs.size s3 (upd H2 D (.lst [])) fp (X.pn ++ pins)).pn = X.pn ++ pins from rfl, List.append_nil] at hp
      exact f5 p hp
  have loop : ∀ s4 : Shared, Inv B [] (σf σ) (upd H2 D (.lst [])) s4 → tn 0 s4.heap →
      codeAny (model X.prog X.w) X.A (.compLoop (.ListComp elt [⟨tg, iter, ifs, 0⟩] scope pos) 0 (.ref it) (.ref D) (compEnvC scope cl s3.heap.objs.size X.env)) (compPost (model X.prog X.w) X.A X.xe none (EP X pins σ Q) (.ref D) s3.heap.objs.size) s4 := by
    intro s4 I4 st4
    refine compLoop_gen (I := fun n s' => ∃ i ys H', Inv B [] (σf σ) H' s' ∧ tn i s'.heap ∧ (∀ b ∈ fp, H' b = none) ∧ W i n ys H') ?_ m0 ⟨0, [], _, I4, st4, fun b hb => (f3 b hb).1, w0⟩
    rintro n s5 ⟨i, ys, H5, I5, st5, fr5, w5⟩
    obtain ⟨hD5, hlen5, alt⟩ := turn i n ys H5 w5
    rcases alt with ⟨stop, qn⟩ | ⟨go, step⟩
    · have z := T.done B hBp hBw hBK hBc i [] s5 (σf σ) H5 (fun _ _ => False) I5 (stat fr5) st5 stop
      rw [hBA] at z
      refine thn z fun r s6 ⟨hr, I6⟩ => ?_
      subst hr
      obtain ⟨m6, hn6, _⟩ := I6.loc
      rw [hBe] at hn6
      refine ⟨m6, hn6, fun h' hs' => ?_⟩
      subst hB
      exact ⟨.ref D, H5, blk_end I3 f3 I6 hs', rfl, qn⟩
    · have z := T.item B hBp hBw hBK hBc i [] s5 (σf σ) H5 (fun _ _ => False) I5 (stat fr5) st5 go
      rw [hBA] at z
      refine thn z fun r s6 ⟨u, hr, h6⟩ => ?_
      subst hr
      refine thn h6 fun _ s7 ⟨x, H7, I7, r7, y7, st7, fr7⟩ => ?_
      have I7' := I7.pinned (stat fr7) (T.obj _ _ st7)
      have z8 := hGB _ s7 (σf σ) H7 x u _ I7' r7 (step x H7 y7)
      rw [hBp, hBw, hBA, hBe, hBx] at z8
      refine thn z8 fun _ s8 ⟨σ8, H8, I8, k8, q8⟩ => ?_
      have z9 := hTB _ s8 σ8 H8 _ I8 q8
      rw [hBp, hBw, hBA, hBe, hBx] at z9
      refine thn z9 fun ok s9 ⟨H9, I9, q9⟩ => ?_
      have again : ∀ {ys' : List V} {H' : Hp} {s' : Shared}, Inv B ([] ++ pinsAt fp s7.heap) σ8 H' s' → (∃ m', m' < n ∧ W (i + 1) m' ys' H') → ∃ m, m < n ∧ ∃ i ys H', Inv B [] (σf σ) H' s' ∧ tn i s'.heap ∧ (∀ b ∈ fp, H' b = none) ∧ W i m ys H' := fun {ys' H' s'} J ⟨m', hm, w'⟩ => by
        refine ⟨m', hm, i + 1, ys', H', J.unpinned.weak k8.len.symm k8.at', T.keep _ _ _ st7 fun b hb o e => (J.pin (b, o) (List.mem_append_right _ (List.mem_append_right _ (mem_pinsAt hb e)))).1, fun b hb => ?_, w'⟩
        obtain ⟨o, e, d⟩ := T.obj _ _ st7 b hb
        exact (J.pin (b, o) (List.mem_append_right _ (List.mem_append_right _ (mem_pinsAt hb e)))).2.1
      cases ok with
      | false => exact again I9 q9
      | true =>
        have z10 := hEB _ s9 σ8 H9 _ I9 q9
        rw [hBp, hBw, hBA, hBe, hBx] at z10
        refine thn z10 fun y10 s10 ⟨y, H10, I10, r10, hD10, q10⟩ => ?_
        have z11 := mt_append (X := B) _ s10 σ8 H10 (.ref D) [y] (.ref D) [y10] (fun _ H' => ∃ m', m' < n ∧ W (i + 1) m' (ys ++ [y]) H') I10 rfl (.cons r10 .nil) ⟨D, ys, y, rfl, rfl, hD10, hlen5, q10⟩
        rw [hBp, hBw, hBA, hBx] at z11
        refine thn z11 fun _ s11 ⟨_, H11, I11, _, q11⟩ => again I11 q11
  have st4 : tn 0 ({ s3 with heap := h₁, toks := s3.toks } : Shared).heap := T.keep _ _ _ st2 fun b hb o e => hk3 b o (by rw [hh3]; exact Heap.get?_push_of_some _ e)
  have L4 := loop _ I4 st4
  subst hs3
  exact codeAny_compStart_list L4 (T.self _ 0 _ _ _ st4 L4)
end L2

namespace L2
open PySem PySem.Spec PyProof.Rows
/-! ### large ints: sizes in bits -/
def Bt (n : Nat) (x : Int) : Prop := x.natAbs < 2 ^ n
theorem Bt.bits {n : Nat} {x : Int} (h : Bt n x) : Builtin.Int.intBits x ≤ n := intBits_le_iff.mpr h
theorem Bt.of_bits {n : Nat} {x : Int} (h : Builtin.Int.intBits x ≤ n) : Bt n x := intBits_le_iff.mp h
theorem Bt.mono {m n : Nat} {x : Int} (h : Bt m x) (hn : m ≤ n) : Bt n x := Nat.lt_of_lt_of_le h (Nat.pow_le_pow_right (by decide) hn)
theorem Bt.mul {m n : Nat} {x y : Int} (h : Bt m x) (h' : Bt n y) : Bt (m + n) (x * y) := .of_bits (intBits_mul_le h.bits h'.bits)
theorem Bt.add {m : Nat} {x y : Int} (h : Bt m x) (h' : Bt m y) : Bt (m + 1) (x + y) := .of_bits (by have := intBits_add_le h.bits h'.bits; rwa [Nat.max_self] at this)
theorem log_of {n : Nat} {x : Int} (h : Bt n x) (hp : 0 < x) (hn : n ≤ 9000) : x.natAbs.log2 < 9000 := by
  have : x.natAbs.log2 < n := (Nat.log2_lt (by omega)).mpr h
  omega
def CMulB (i j : Int) : Prop := Bt 1000000 i ∧ Bt 1000000 j
def CDivB (_i j : Int) : Prop := 0 < j ∧ Bt 9000 j
def CPowB (i j : Int) : Prop := 0 ≤ j ∧ j ≤ 1000 ∧ Bt 1000 i
section
variable {X : Cx}
theorem op_mulB : OpR X (binaryOp .Mult) (rI CMulB fun i j => .int (i * j)) := opI fun _ _ _ _ _ _ _ hc q => mul_int q (.of_bits (Nat.le_trans hc.1.bits (by decide)) (Nat.le_trans hc.2.bits (by decide)))
theorem op_fdivB : OpR X (binaryOp .FloorDiv) (rI CDivB fun i j => .int (i / j)) := opI fun i j _ _ _ _ _ hc q => by
  have h1 : (0 : Int) < j := hc.1
  rw [← Int.fdiv_eq_ediv_of_nonneg i (Int.le_of_lt h1)] at q
  exact floordiv_int (by omega) q (.inl (PyProof.noPylong_of_log2 (log_of hc.2 h1 (Nat.le_refl _))))
/-! ### tuples of ints -/
def rEqI (K : PySem.W.Frag) : R2 := fun x y H Q => ∃ a b, ∃ ns ms : List Int, x = .ref a ∧ y = .ref b ∧ SqT K H a (ns.map V.int) ∧ SqT K H b (ms.map V.int) ∧ Q (.bl (decide (ns = ms))) H
def rNeI (K : PySem.W.Frag) : R2 := fun x y H Q => ∃ a b, ∃ ns ms : List Int, x = .ref a ∧ y = .ref b ∧ SqT K H a (ns.map V.int) ∧ SqT K H b (ms.map V.int) ∧ Q (.bl (!decide (ns = ms))) H
end
end L2

namespace L2
open PySem PySem.Spec PyProof.Rows
section
variable {X : Cx}
/-- an item of the tuple that a name holds -/
def tIt (K : PySem.W.Frag) (i k : Nat) : TE := fun σ H Q => ∃ p xs v, σ[i]? = some (some (.ref p)) ∧ SqT K H p xs ∧ xs[k]? = some v ∧ Q v H
theorem pit (i k : Nat) {x : Str} {p q : Pos} {j : Nat} (hN : X.N[i]? = some x := by rfl) (hv : Vis X.env.scope x := by first | exact Or.inl rfl | exact Or.inr (Or.inl rfl) | exact Or.inr (Or.inr rfl)) (hd : (x == ("__debug__" : Str)) = false := by decide)
    (hcd : (x == ("__classdict__" : Str)) = false := by decide) {pos : Pos} : PE X (.Subscript (.Name x p) (.Constant (.int (k : Int)) j q) pos) (tIt X.K i k) := by
  intro pins s σ H Q I h
  obtain ⟨a, xs, v, e, hs, hk, q⟩ := h
  exact pe_ix ix_tup (pe_var hN hv hd hcd) pe_int (fun _ _ => rfl) pins s σ H Q I ⟨_, e, a, xs, (k : Int), v, rfl, rfl, hs, atI_nat hk, q⟩
/-- a def of the text that may be called by its name -/
structure Cal (P : Program) (w : World) (K : PySem.W.Frag) (mg : Str → Option Value) (base : Heap) (CX : CXT) (k : Nat) (x : Str) (ps : List Str) (sp : Sp) : Prop where
  ex : ∃ (f : Addr) (fd : FuncData), mg x = some (.ref f) ∧ PySem.W.keepIn K (.ref f) = true ∧ Binds K fd ps [] ∧ FnOk P w K mg base CX k f fd ps sp
theorem pe_cal {CX : CXT} {k : Nat} {x : Str} {ps : List Str} {sp : Sp} {E : XK} {e : Expr} {es : List Expr} {t : TA} {p pos : Pos} (C : Cal X.prog X.w X.K X.mg X.base CX k x ps sp) (hr : Room k X.A) (hg : Gl X x) (hx : Passes CX X E)
    (ha : PA X (e :: es) t) (hdb : (x == ("__debug__" : Str)) = false := by decide) (he : starEach (e :: es) X.env = (false, eval e X.env) :: starEach es X.env := by rfl) (hpl : (backTo pos (starEach es X.env)).any (·.1) = false := by rfl) :
    PE X (.Call (.Name x p) (e :: es) [] pos) (tCall sp [] E t) := by
  obtain ⟨f, fd, hm, hk, hb, F⟩ := C.ex
  exact pe_call F hr hg hm hk hb .nil hx ha hdb he hpl
theorem Cal.mono {P : Program} {w : World} {K : PySem.W.Frag} {mg : Str → Option Value} {base : Heap} {CX : CXT} {j k : Nat} {x : Str} {ps : List Str} {sp : Sp} (C : Cal P w K mg base CX j x ps sp) (h : j ≤ k) : Cal P w K mg base CX k x ps sp := by
  obtain ⟨f, fd, hm, hk, hb, F⟩ := C.ex
  exact ⟨f, fd, hm, hk, hb, F.mono h⟩
end
theorem Same.tup {K : PySem.W.Frag} {H H' : Hp} {a : Addr} {xs : List V} (e : Same H H') (h : SqT K H a xs) : SqT K H' a xs := by
  rcases h with (h | ⟨o, h⟩) | h
  · exact .inl (.inl (e _ _ h))
  · exact .inl (.inr ⟨o, e _ _ h⟩)
  · exact .inr h
theorem Same.upd {H : Hp} {a : Addr} {o : HO} (h : H a = none) : Same H (upd H a o) := fun b u e => by
  rw [upd_ne (ne_of_none e h)]
  exact e
/-- a new tuple of ints comes back, all else as it was -/
def RetT (H : Hp) (Q : VK) (ns : List Int) : Prop := ∀ p H', Same H H' → H' p = some (.tup (ns.map V.int)) → Q (.ref p) H'
end L2

namespace L2
open PySem PySem.Spec PyProof.Rows PySem.W
/-- an own class of errors, as the top has made it -/
structure ExK (K : Frag) (C : Addr) : Prop where
  ga : findIn K (.ref C) "__getattribute__" = some (some (.builtin "BaseException.__getattribute__"))
  gt : findIn K (.ref C) "__getattr__" = some none
  cl : findIn K (.ref C) "__class__" = some (some (.builtin "object.__class__"))
  sb : subIn K (.ref C) (.type "BaseException") = some true
  so : subIn K (.ref C) (.type "object") = some true
  ci : (clsIn K C).isSome = true
/-- an object of the class at C stands at a -/
structure ExAt (h : Heap) (a : Addr) (o : Obj) (C : Addr) : Prop where
  at_ : h.get? a = some o
  cls : o.cls = .ref C
theorem ExAt.type {M : Model} {h : Heap} {a C : Addr} {o : Obj} (I : ExAt h a o C) : Looks M h (typeOf (.ref a)) (.ref C) := by
  rw [← I.cls]
  exact (Looks.ld I.at_).andThen .now
section
variable {prog : Program} {w : World} {A : Around} {E : Value → Shared → Prop} {h : Heap} {g : Array GenState} {d : Drawn} {t : Nat} {os : OsState} {a C : Addr} {o : Obj} {K : Frag}
theorem exc_class_get {R : Result → Shared → Prop} (X : K.In h) (F : ExK K C) (I : ExAt h a o C) (hq : R (.ok (.ret (.ref C))) ⟨h, g, d, t, os⟩) :
    codeAny (model prog w) A (.call (.builtin "getset_descriptor.__get__") ⟨[.builtin "object.__class__", .ref a, .ref C], []⟩) R ⟨h, g, d, t, os⟩ := by
  have hT5 : (⟨h, g, d, t, os⟩ : Shared).TypeIs (.builtin "object.__class__") "getset_descriptor" := PySem.F.typeOf_object_class
  have hx := I.at_
  have hc := I.cls
  have L1 := looks_subIn (M := model prog w) X F.so
  rw [← PySem.F.owner_object_class] at L1
  refine codeAny_call_builtin PySem.F.slot_gs_get.plain PySem.F.entry_gs_get (PySem.F.slot_gs_get.check _ _ _ _ _ _ _ _ hT5 (PySem.F.args_gs_get _ _ _) ?_)
  repeat (any_goals (first | assumption | (with_reducible refine wpAny_loadPart_at hx ?_; rw [hc]) | with_reducible refine L1.at ?_ | wp_step))
  refine ⟨Code.quiet_builtin _ (by decide +kernel), codeAny_builtin PySem.F.entry_object_class ?_⟩
  repeat (any_goals (first | assumption | (with_reducible refine wpAny_loadPart_at hx ?_; rw [hc]) | wp_step))
theorem exc_class_entry {tk : Tok} {Q : Fin → Shared → Prop} (X : K.In h) (F : ExK K C) (I : ExAt h a o C) (hq : Q (.done (.ret (.ref C))) ⟨h, g, d, t, os⟩) :
    wpAny (model prog w) A (Builtin.«object.__getattribute__» ⟨[.ref a, .str "__class__" tk], []⟩) Q E ⟨h, g, d, t, os⟩ := by
  have L1 := looks_findIn (M := model prog w) X F.cl
  have hT5 : (⟨h, g, d, t, os⟩ : Shared).TypeIs (.builtin "object.__class__") "getset_descriptor" := PySem.F.typeOf_object_class
  have f5 := PySem.F.typeOf_object_class
  have f6 := PySem.F.slot_gs_get.lookup
  have f7 := PySem.F.slot_gs_set.lookup
  have hx := I.at_
  have hc := I.cls
  repeat (any_goals (first | assumption | (with_reducible refine wpAny_loadPart_at hx ?_; rw [hc]) | with_reducible refine L1.at ?_ | wp_step))
  refine exc_class_get X F I ?_
  repeat (any_goals (first | assumption | wp_step))
theorem exc_check_ga {M : Model} {nameV : Value} {Q : Unit → Shared → Prop} (X : K.In h) (F : ExK K C) (I : ExAt h a o C) (hq : Q () ⟨h, g, d, t, os⟩) : wpAny M A (checkBuiltinCall "BaseException.__getattribute__" ⟨[.ref a, nameV], []⟩) Q E ⟨h, g, d, t, os⟩ := by
  have hk : builtinKind "BaseException.__getattribute__" = some .slot := by decide +kernel
  have hsplit : splitId "BaseException.__getattribute__" = some ("BaseException", "__getattribute__") := by decide +kernel
  have L2' := looks_subIn (M := M) X F.sb
  have ha := PySem.F.args_bexc_ga (.ref a) nameV
  have hx := I.at_
  have hc := I.cls
  simp only [checkBuiltinCall, hk, hsplit]
  refine wpAny_bind ?_
  · unfold isInstance
    repeat (first | (with_reducible refine wpAny_loadPart_at hx ?_; rw [hc]) | with_reducible refine L2'.at ?_ | wp_step)
    exact hq
theorem exc_class_call {tk : Tok} {R : Result → Shared → Prop} (X : K.In h) (F : ExK K C) (I : ExAt h a o C) (hq : R (.ok (.ret (.ref C))) ⟨h, g, d, t, os⟩) :
    codeAny (model prog w) A (.call (.builtin "BaseException.__getattribute__") ⟨[.ref a, .str "__class__" tk], []⟩) R ⟨h, g, d, t, os⟩ :=
  codeAny_call_builtin PySem.F.attr_ValueError.ga.plain PySem.F.entry_bexc_ga (exc_check_ga X F I (exc_class_entry X F I hq))
theorem exc_class_by {tk : Tok} {fill expr : Bool} {Q : Value → Shared → Prop} (X : K.In h) (F : ExK K C) (I : ExAt h a o C) (hq : Q (.ref C) ⟨h, g, d, t, os⟩) :
    wpAny (model prog w) A (getAttrBy (.ref a) (.str "__class__" tk) fill expr) Q E ⟨h, g, d, t, os⟩ := by
  have f3 := PySem.F.attr_ValueError.ga.bind (.ref a)
  have hx0 : (expr && onTheHeap (Value.builtin "BaseException.__getattribute__")) = false := by cases expr <;> rfl
  have hx2 : (Value.builtin "BaseException.__getattribute__" == Value.builtin "object.__getattribute__") = false := by decide +kernel
  have hx1 : (onTheHeap (Value.ref C) && Value.builtin "BaseException.__getattribute__" == Value.builtin "object.__getattribute__") = false := by rw [hx2]; rfl
  have L1 := looks_findIn (M := model prog w) X F.ga
  have L2' := looks_findIn (M := model prog w) X F.gt
  have hx := I.at_
  have hc := I.cls
  repeat (any_goals (first | assumption | (with_reducible refine wpAny_loadPart_at hx ?_; rw [hc]) | with_reducible refine L1.at ?_ | with_reducible refine L2'.at ?_ | wp_step))
  refine exc_class_call X F I ?_
  repeat (any_goals (first | assumption | wp_step))
theorem exc_class_attr {Q : Option Value → Shared → Prop} (X : K.In h) (F : ExK K C) (I : ExAt h a o C) (hq : Q (some (.ref C)) ⟨h, g, d, t + 1, os⟩) :
    wpAny (model prog w) A (getAttr? (.ref a) "__class__") Q E ⟨h, g, d, t, os⟩ := by
  unfold getAttr? getAttrBy?
  repeat (any_goals (first | assumption | with_reducible apply exc_class_by X F I | wp_step))
end
theorem kitx_exc {K : Frag} {a C : Addr} {o : Obj} (F : ExK K C) : KitX K (.ref a) (.ref C) (fun h => ExAt h a o C) where
  ty := fun M h X I => I.type
  it := fun M h X I => by
    have hcD := F.ci
    unfold clsIn at hcD
    split at hcD
    · rename_i c' d' cd' sl' ho
      intro A' Q' E' s' k q
      unfold isType loadHead
      exact wpAny_bind (wpAny_loadPart (k _ _ (X _ _ ho)) (wpAny_pure q))
    · cases hcD
  ne := fun h tp dd its n sl X htp => by
    have hcD := F.ci
    refine Bool.eq_false_iff.mpr fun q => ?_
    have e : C = tp := Value.ref.inj (beq_iff_eq.mp q)
    subst e
    unfold clsIn at hcD
    split at hcD
    · rename_i c' d' cd' sl' ho
      have := X _ _ ho
      rw [htp] at this
      cases this
    · cases hcD
  ca := fun {prog w A E Q s} X I hq => by
    obtain ⟨hh, g, d, t, os⟩ := s
    exact exc_class_attr X F I hq
/-- an object of an own class of errors stands at a: what is tracked of it -/
def excO (a C : Addr) : HO := .ext fun h => ∃ o, ExAt h a o C
section
variable {X : Cx}
end
end L2

namespace L2
open PySem PySem.Spec PyProof.Rows PySem.W
/-! ### an error on its way, with its own dict -/
theorem dict_mf (o : Obj) (f : Array Value → Array Value) : (Obj.mapFields f o).dict = o.dict := by
  unfold Obj.mapFields
  split <;> rfl
/-- an error at e with a traceback, its class, its dict -/
def TrD (h base : Heap) (e : Addr) (cls : Value) (dd : Option Addr) (fl : Value) : Prop :=
  ∃ (ob tb : Obj) (us ts : Array Value) (T : Addr), (h.get? e = some ob ∧ ob.data = .fields us ∧ ob.cls = cls ∧ ob.dict = dd) ∧ us[1]? = some (.ref T) ∧ (base.get? T = none ∧ T ≠ e) ∧ h.get? T = some tb ∧ tb.data = .fields ts ∧ ts[3]? = some fl
structure FlyD (base : Heap) (l : List Env) (e : Addr) (cls : Value) (dd : Option Addr) (fl : Value) (h : Heap) : Prop where
  st : base.StaysIn h
  no : base.get? e = none
  fr : h.FunFrames base l
  tr : TrD h base e cls dd fl
theorem FlyD.at {base h : Heap} {l : List Env} {e : Addr} {cls fl : Value} {dd : Option Addr} (x : FlyD base l e cls dd fl h) : ∃ ob us, h.get? e = some ob ∧ ob.cls = cls ∧ ob.dict = dd ∧ ob.data = .fields us := by
  obtain ⟨ob, _, us, _, _, ⟨a, b, c, d⟩, _⟩ := x.tr
  exact ⟨ob, us, a, c, d, b⟩
section
variable {M : Model} {A : Around} {E : Value → Shared → Prop} {s : Shared} {base : Heap} {env : Env} {outer : List Env} {L e : Addr} {Q : Unit → Shared → Prop} {cls : Value} {dd : Option Addr}
/-- a row of the traceback is laid ahead of the others -/
theorem entryD {ob : Obj} {us : Array Value} {head : Value} {had : Bool} (frs : A.frames = some (env :: outer)) (ff : s.heap.FunFrames base (env :: outer)) (fL : env.frame = some L)
    (ge : s.heap.get? e = some ob) (st : base.StaysIn s.heap) (no : base.get? e = none) (du : ob.data = .fields us) (sz : 1 < us.size)
    (k : ∀ h', FlyD base (env :: outer) e ob.cls ob.dict (rawInt L) h' → s.heap.UpToSlots h' → Q () { s with heap := h' }) :
    wpAny M A (do let fo ← frameOf env; let pl ← entryPlaceOf L had; let row ← EntryCells.newEntry head fo .none (rawInt L) .none pl; setField (.ref e) 1 row) Q E s := by
  have eNot : e ∉ (env :: outer).filterMap (·.frame) := fun mem => by
    obtain ⟨_, o', g', nf⟩ := ff.mem mem
    cases ge.symm.trans g'
    exact nf us du
  refine wpAny_bind (wpAny_frameOf_fun frs ff fL fun h1 only => wpAny_bind (wpAny_entryPlaceOf fun pl plOk => ?_))
  unfold EntryCells.newEntry newFields
  refine wpAny_bind (wpAny_newObj_type ?_ (plOk.sizeOk5 _ _ _ _ _))
  have g1 : h1.get? e = some ob := (only.2.1 e eNot).trans ge
  have st1 : base.StaysIn h1 := fun b o q => (only.2.1 b fun mem => by
    rw [(ff.mem mem).1] at q
    cases q).trans (st b o q)
  generalize hrow : ({ cls := .type "traceback", dict := none, data := .fields ([head, .ref L, .none, rawInt L, .none] ++ (if pl.isEmpty then List.replicate 6 Value.none else pl)).toArray } : Obj) = row
  have g2 : (h1.push row).get? e = some ob := Heap.get?_push_of_some row g1
  have Tne : h1.objs.size ≠ e := Nat.ne_of_gt (Heap.lt_size g1)
  have du' := Obj.data_mapFields du (·.setIfInBounds 1 (Value.ref h1.objs.size))
  have gT : (h1.push row).get? h1.objs.size = some row := Heap.get?_push_size h1 (by rw [← hrow]; rfl)
  have old : ∀ b o, b ≠ e → h1.get? b = some o → ((h1.push row).update e (Obj.mapFields (·.setIfInBounds 1 (Value.ref h1.objs.size)))).get? b = some o := fun b o nb q => by
    rw [Heap.get?_update_other _ _ (Ne.symm nb)]
    exact Heap.get?_push_of_some row q
  have nofld : ∀ b o, s.heap.get? b = some o → (∀ vs, o.data ≠ .fields vs) → b ≠ e := fun b o q nf z => by
    subst z
    cases ge.symm.trans q
    exact nf us du
  refine wpAny_setField g2 du sz (k _ ⟨fun b o q => old b o ?_ (st1 b o q), no, ff.of_keeps fun b o q nf => ?_, ?_⟩ fun b o q nf => ?_)
  · rintro rfl
    rw [no] at q
    cases q
  · obtain ⟨sl, z⟩ := only.2.2 b o q
    exact ⟨_, old b _ (nofld b o q nf) z, rfl⟩
  · refine ⟨_, row, _, ([head, .ref L, .none, rawInt L, .none] ++ (if pl.isEmpty then List.replicate 6 Value.none else pl)).toArray, h1.objs.size, ⟨Heap.get?_update_self _ g2 (Obj.isFreed_of_fields du'), du', Obj.cls_mapFields _ _, dict_mf _ _⟩, by simp [sz], ⟨?_, Tne⟩, ?_, by rw [← hrow], by simp⟩
    · cases z : base.get? h1.objs.size with
      | none => rfl
      | some o => exact absurd (Heap.lt_size (st1 _ _ z)) (Nat.lt_irrefl _)
    · rw [Heap.get?_update_other _ _ (Ne.symm Tne)]
      exact gT
  · obtain ⟨sl, z⟩ := only.2.2 b o q
    exact ⟨sl, old b _ (nofld b o q nf) z⟩
/-- the row's mark goes -/
theorem flightD {l : List Env} {fl : Value} (F : FlyD base l e cls dd fl s.heap) (k : ∀ h', FlyD base l e cls dd .none h' → s.heap.UpToSlots h' → Q () { s with heap := h' }) : wpAny M A (setFlight (.ref e) none) Q E s := by
  obtain ⟨st, no, ff, ob, tb, us, ts, T, ⟨ge, du, cc, cd⟩, u1, ⟨nT, Tne⟩, gT, dt, t3⟩ := F
  unfold setFlight
  refine wpAny_bind (wpAny_field ge du u1 ?_)
  rw [if_pos (show (Value.ref T != Value.none) = true from rfl)]
  have z3 : 3 < ts.size := (Array.getElem?_eq_some_iff.mp t3).1
  have dt' := Obj.data_mapFields dt (·.setIfInBounds 3 ((none : Option Addr).elim Value.none fun f => rawInt f))
  have old : ∀ b, b ≠ T → (s.heap.update T (Obj.mapFields (·.setIfInBounds 3 ((none : Option Addr).elim Value.none fun f => rawInt f)))).get? b = s.heap.get? b := fun b nb => Heap.get?_update_other _ _ (Ne.symm nb)
  have nofld : ∀ b o, s.heap.get? b = some o → (∀ vs, o.data ≠ .fields vs) → b ≠ T := fun b o q nf z => by
    subst z
    cases gT.symm.trans q
    exact nf ts dt
  refine wpAny_setField gT dt z3 (k _ ⟨fun b o q => ?_, no, ff.of_keeps fun b o q nf => ⟨o, (old b (nofld b o q nf)).trans q, rfl⟩, ?_⟩ fun b o q nf => ⟨o.slots, (old b (nofld b o q nf)).trans q⟩)
  · refine (old b ?_).trans (st b o q)
    rintro rfl
    rw [nT] at q
    cases q
  · exact ⟨ob, _, us, _, T, ⟨(old e (Ne.symm Tne)).trans ge, du, cc, cd⟩, u1, ⟨nT, Tne⟩, Heap.get?_update_self _ gT (Obj.isFreed_of_fields dt'), dt', by simp [z3]⟩
/-- a new error is noted -/
theorem note1D {ob : Obj} {us : Array Value} (frs : A.frames = some (env :: outer)) (ff : s.heap.FunFrames base (env :: outer)) (fL : env.frame = some L)
    (ge : s.heap.get? e = some ob) (st : base.StaysIn s.heap) (no : base.get? e = none) (du : ob.data = .fields us) (u1 : us[1]? = some .none)
    (k : ∀ h', FlyD base (env :: outer) e ob.cls ob.dict (rawInt L) h' → s.heap.UpToSlots h' → Q () { s with heap := h' }) : wpAny M A (noteFrame (.ref e) env) Q E s := by
  unfold noteFrame
  simp only [fL]
  refine wpAny_bind (wpAny_field ge du u1 ?_)
  rw [if_neg (by decide)]
  exact entryD frs ff fL ge st no du (Array.getElem?_eq_some_iff.mp u1).1 k
/-- one that is on its way is noted in the next frame -/
theorem noteD (frs : A.frames = some (env :: outer)) (fL : env.frame = some L) (F : FlyD base (env :: outer) e cls dd .none s.heap)
    (k : ∀ h', FlyD base (env :: outer) e cls dd (rawInt L) h' → s.heap.UpToSlots h' → Q () { s with heap := h' }) : wpAny M A (noteFrame (.ref e) env) Q E s := by
  obtain ⟨st, no, ff, ob, tb, us, ts, T, ⟨ge, du, cc, cd⟩, u1, ⟨nT, Tne⟩, gT, dt, t3⟩ := F
  subst cc cd
  unfold noteFrame
  simp only [fL]
  refine wpAny_bind (wpAny_field ge du u1 ?_)
  rw [if_pos (show (Value.ref T != Value.none) = true from rfl)]
  refine wpAny_bind (wpAny_field gT dt t3 ?_)
  rw [if_neg (show ¬ ((Value.none == rawInt L) = true) from by simp [rawInt])]
  have z3 : 3 < ts.size := (Array.getElem?_eq_some_iff.mp t3).1
  have old : ∀ b, b ≠ T → (s.heap.update T (Obj.mapFields (·.setIfInBounds 3 Value.none))).get? b = s.heap.get? b := fun b nb => Heap.get?_update_other _ _ (Ne.symm nb)
  have nofld : ∀ b o, s.heap.get? b = some o → (∀ vs, o.data ≠ .fields vs) → b ≠ T := fun b o q nf z => by
    subst z
    cases gT.symm.trans q
    exact nf ts dt
  refine wpAny_bind (wpAny_setField gT dt z3 ?_)
  refine entryD frs (ff.of_keeps fun b o q nf => ⟨o, (old b (nofld b o q nf)).trans q, rfl⟩) fL ((old e (Ne.symm Tne)).trans ge) (fun b o q => ?_) no du (Array.getElem?_eq_some_iff.mp u1).1 fun h' F' up => k h' F' fun b o q nf => up b o ((old b (nofld b o q nf)).trans q) nf
  refine (old b ?_).trans (st b o q)
  rintro rfl
  rw [nT] at q
  cases q
theorem FlyD.tail {h : Heap} {fl : Value} (F : FlyD base (env :: outer) e cls dd fl h) : FlyD base outer e cls dd fl h := ⟨F.st, F.no, F.fr.2.2, F.tr⟩
/-- a new error leaves the frame in which it was raised -/
theorem leave1D {ob : Obj} {us : Array Value} (frs : A.frames = some (env :: outer)) (ff : s.heap.FunFrames base (env :: outer)) (fL : env.frame = some L)
    (ge : s.heap.get? e = some ob) (st : base.StaysIn s.heap) (no : base.get? e = none) (du : ob.data = .fields us) (u1 : us[1]? = some .none)
    (k : ∀ h', FlyD base outer e ob.cls ob.dict .none h' → s.heap.UpToSlots h' → Q () { s with heap := h' }) : wpAny M A (leaving env (.ref e)) Q E s := by
  unfold leaving
  exact wpAny_bind (note1D frs ff fL ge st no du u1 fun h' F' up => flightD F' fun h'' F'' up' => k h'' F''.tail (up.trans up'))
end
end L2

namespace L2
open PySem PySem.Spec PyProof.Rows PySem.W
/-- an error is under way, with its own dict: what is known behind a call that ended so (s, H: ahead of the call) -/
structure Flx (P : Program) (w : World) (outer : List Env) (H : Hp) (s : Shared) (H' : Hp) (ea : Addr) (cls : Value) (dd : Option Addr) (s' : Shared) : Prop where
  os : s'.os = s.os
  bare : AllBare s'.gens
  un : Un (frs outer) [] H H' s.heap s'.heap
  fl : ∃ B : Heap, HOk P w H' B ∧ FlyD B outer ea cls dd .none s'.heap ∧ (∀ b o, s.heap.get? b = some o → H b = none → b ∉ frs outer → B.get? b = some o) ∧ (∀ b o, s.heap.get? b = some o → b ∉ frs outer → ∃ o', B.get? b = some o')
def CXg (P : Program) (w : World) : CXT := fun outer H s E e s' => ∃ (ea C : Addr) (dd : Option Addr) (H' : Hp), e = .ref ea ∧ Flx P w outer H s H' ea (.ref C) dd s' ∧ E (.ref C) dd H'
/-- a def's body running: it has a frame of its own and nothing that was made ahead of it turns -/
structure OwnF (X : Cx) : Prop where
  stk : X.stack = X.env :: X.outer
  fr : X.env.frame = some X.env.locals
  ex : X.ex = []
section
variable {X : Cx} {pins : List (Addr × Obj)} {σ : St} {H H' : Hp} {s s' : Shared}
theorem notStk (O : OwnF X) (I : Inv X pins σ H s) {b : Addr} {o : Obj} (e : X.s₀.heap.get? b = some o) (hb : b ∉ frs X.outer) : b ∉ frs X.stack := by
  rw [O.stk]
  intro z
  unfold frs at z hb
  rw [List.filterMap_cons, O.fr] at z
  rcases List.mem_cons.mp z with z | z
  · exact absurd (Nat.lt_of_lt_of_le (Heap.lt_size e) I.ok.above) (by rw [z]; exact Nat.lt_irrefl _)
  · exact hb z
theorem inStk (O : OwnF X) {b : Addr} (hb : b ∈ frs X.outer) : b ∈ frs X.stack := by
  rw [O.stk]
  unfold frs at *
  rw [List.filterMap_cons, O.fr]
  exact List.mem_cons_of_mem _ hb
/-- what has stayed, seen from the entry, when the error has left the frame -/
theorem un_of (O : OwnF X) (I : Inv X pins σ H s) {B h' : Heap} (u : Un (frs X.stack) [] H H' s.heap s'.heap) (bk : ∀ b o, X.s₀.heap.get? b = some o → X.H₀ b = none → b ∉ frs X.outer → B.get? b = some o)
    (th : ∀ b o, X.s₀.heap.get? b = some o → b ∉ frs X.outer → ∃ o', B.get? b = some o') (st : B.StaysIn h') (up : s'.heap.UpToSlots h') : Un (frs X.outer) [] X.H₀ H' X.s₀.heap h' := by
  have noex : ∀ b : Addr, b ∉ X.ex := fun b z => by rw [O.ex] at z; cases z
  have slot : ∀ b o, X.s₀.heap.get? b = some o → X.H₀ b = none → b ∈ frs X.outer → ∃ sl, h'.get? b = some { o with slots := sl } := fun b o e n hb => by
    obtain ⟨sl, e1⟩ := I.base.slot b o e n hb (noex b)
    have n1 := I.base.free b o e n (noex b)
    obtain ⟨sl2, e2⟩ := u.slot b _ e1 n1 (inStk O hb) (by simp)
    obtain ⟨_, o', ho', hnf⟩ := I.ok.funs.mem hb
    rw [e] at ho'
    cases ho'
    obtain ⟨sl3, e3⟩ := up b _ e2 (fun vs q => hnf vs q)
    exact ⟨sl3, e3⟩
  refine ⟨fun b o e n hb _ => st b o (bk b o e n hb), fun b o e n hb _ => slot b o e n hb, fun b o e n _ => ?_, fun b o e _ => ?_, fun b xs e => u.tups _ _ (I.base.tups _ _ e), fun b o x e => u.frzs _ _ _ (I.base.frzs _ _ _ e), fun b ps e => ?_⟩
  · obtain ⟨o1, e1⟩ := I.base.there b o e (noex b)
    exact u.free b o1 e1 (I.base.free b o e n (noex b)) (by simp)
  · by_cases hb : b ∈ frs X.outer
    · obtain ⟨sl, q⟩ := slot b o e (I.ok.frf b hb) hb
      exact ⟨_, q⟩
    · obtain ⟨o2, e2⟩ := th b o e hb
      exact ⟨o2, st b o2 e2⟩
  · obtain ⟨m1, e1⟩ := I.base.tbls b ps e
    obtain ⟨m2, e2⟩ := u.tbls _ _ e1
    exact ⟨m1 ++ m2, by rw [e2, Array.append_assoc]⟩
/-- the written part of the heap when the error is raised: all but the frames and the error -/
theorem fly_B (I : Inv X pins σ H s) {ea : Addr} (hea : H ea = none) : HOk X.prog X.w H (hideAll s.heap (ea :: frs X.stack)) := fun a o e => (I.hok a o e).stay (fun b u hb q => hideAll_get _ q fun z => by
  have n : H b = none := by
    rcases List.mem_cons.mp z with z | z
    · rw [z]; exact hea
    · exact I.stkFree b z
  rcases hb with hb | hb
  · rw [← hb] at e; rw [e] at n; cases n
  · rw [hb] at n; cases n) (fun _ h => h) (fun _ _ h => h)
/-- an error that stands there, untracked, leaves the frame -/
theorem fly_raise (O : OwnF X) (I : Inv X pins σ H s) {ea C : Addr} {dd : Option Addr} {ob : Obj} {us : Array Value} {E' : Value → Shared → Prop} {Q : Unit → Shared → Prop} (hea : H ea = none) (n0 : X.s₀.heap.get? ea = none) (ge : s.heap.get? ea = some ob)
    (hc : ob.cls = .ref C) (hdd : ob.dict = dd) (du : ob.data = .fields us) (u1 : us[1]? = some .none)
    (k : ∀ h', Flx X.prog X.w X.outer X.H₀ X.s₀ H ea (.ref C) dd { s with heap := h' } → Q () { s with heap := h' }) : wpAny (model X.prog X.w) X.A (leaving X.env (.ref ea)) Q E' s := by
  have nfr : ea ∉ frs X.stack := fun z => by
    obtain ⟨_, o', ho', hnf⟩ := I.stack.mem z
    rw [ge] at ho'
    cases ho'
    exact hnf us du
  have hin : ∀ env ∈ X.stack, ∀ b, env.frame = some b → b ∈ ea :: frs X.stack := fun env he b hb => List.mem_cons_of_mem _ (List.mem_filterMap.mpr ⟨env, he, hb⟩)
  have hfr : X.A.frames = some (X.env :: X.outer) := by rw [← O.stk]; exact I.ok.frames
  have hl : s.heap.FunFrames (hideAll s.heap (ea :: frs X.stack)) (X.env :: X.outer) := by rw [← O.stk]; exact funFrames_hide I.stack hin
  have nB : (hideAll s.heap (ea :: frs X.stack)).get? ea = none := hideAll_none _ (List.mem_cons_self ..)
  have bk : ∀ b o, X.s₀.heap.get? b = some o → X.H₀ b = none → b ∉ frs X.outer → (hideAll s.heap (ea :: frs X.stack)).get? b = some o := fun b o e n hb => by
    refine hideAll_get _ (I.base.keep b o e n hb (by rw [O.ex]; simp)) fun z => ?_
    rcases List.mem_cons.mp z with z | z
    · rw [z, n0] at e; cases e
    · exact notStk O I e hb z
  have th : ∀ b o, X.s₀.heap.get? b = some o → b ∉ frs X.outer → ∃ o', (hideAll s.heap (ea :: frs X.stack)).get? b = some o' := fun b o e hb => by
    obtain ⟨o1, e1⟩ := I.base.there b o e (by rw [O.ex]; simp)
    refine ⟨o1, hideAll_get _ e1 fun z => ?_⟩
    rcases List.mem_cons.mp z with z | z
    · rw [z, n0] at e; cases e
    · exact notStk O I e hb z
  refine leave1D (base := hideAll s.heap (ea :: frs X.stack)) hfr hl O.fr ge (fun b o q => of_hideAll _ q) nB du u1 fun h' F' up => k h' ⟨I.os, I.bare, ?_, hideAll s.heap (ea :: frs X.stack), fly_B I hea, by rw [← hc, ← hdd]; exact F', bk, th⟩
  exact un_of (s' := s) O I Un.refl bk th F'.st up
end
/-- the body of a def that may raise -/
abbrev cxF (P : Program) (w : World) (K : Frag) (mg : Str → Option Value) (base : Heap) (N : List Str) (qual : Str) (scope : Scope) (f : Addr) (cd : Value) (A : Around) (outer : List Env) (s : Shared) (H : Hp) (E : XK) : Cx := cxOf (CXg P w) P w K mg base N qual scope f cd A outer s H E
section
variable {P : Program} {w : World} {K : Frag} {mg : Str → Option Value} {base : Heap} {N : List Str} {qual : Str} {scope : Scope} {f : Addr} {cd : Value} {A : Around} {outer : List Env} {s : Shared} {H : Hp} {E : XK}
theorem ownF_of : OwnF (cxF P w K mg base N qual scope f cd A outer s H E) := ⟨rfl, rfl, rfl⟩
/-- an error that stands there, untracked, leaves -/
def XeOk (X : Cx) (E : XK) : Prop := ∀ (pins : List (Addr × Obj)) (σ : St) (H : Hp) (s : Shared) (ea C : Addr) (ob : Obj) (us : Array Value), Inv X pins σ H s → H ea = none → X.s₀.heap.get? ea = none → s.heap.get? ea = some ob → ob.cls = .ref C → ob.data = .fields us → us[1]? = some .none → E (.ref C) ob.dict H → X.xe (.ref ea) s
theorem xe_f : XeOk (cxF P w K mg base N qual scope f cd A outer s H E) E := by
  intro pins σ Hc sc ea C ob us I hea n0 ge hc du u1 hE
  exact fly_raise (X := cxF P w K mg base N qual scope f cd A outer s H E) ownF_of I hea n0 ge hc rfl du u1 fun h'' F' => ⟨ea, C, ob.dict, Hc, rfl, F', hE⟩
/-- THE RULE for a def that may raise -/
theorem Fun.okF {x : Str} {st : Stmt} {fd : FuncData} {ps : List Str} {k : Nat} {sp : Sp} (F : Fun K x qual st f fd) (S : FnScope N ps (defScope st)) (len : ∀ vs H Q E, sp vs H Q E → vs.length = ps.length)
    (hbody : ∀ (cdv : Value) (A : Around) (outer : List Env) (s : Shared) (H : Hp) (vs : List V) (Q : VK) (E : XK), Room k (A.deeper (envOfC qual (defScope st) s.heap.objs.size f cdv)) → sp vs H Q E →
      ∃ t, PSs (cxF P w K mg base N qual (defScope st) f cdv A outer s H E) (defBody st) t ∧ t { nx := fun _ H' => Q .non H', rt := Q } (start N vs) H) : FnOk P w K mg base (CXg P w) (k + 1) f fd ps sp := by
  obtain ⟨oc, od, kV, doc, pm, an, cdv, ct, osl, rfl, lk, hcd⟩ := F.ex
  exact fn_of lk hcd S len fun A outer s H vs Q E hr hsp => hbody cdv A outer s H vs Q E hr hsp
end
end L2

namespace L2
open PySem PySem.Spec PyProof.Rows PySem.W
/-- the class that an except names -/
structure CtK (K : Frag) (D : Addr) : Prop where
  ty : typeIn K (.ref D) = some (.type "type")
  ci : (clsIn K D).isSome = true
  sb : subIn K (.ref D) (.type "BaseException") = some true
theorem exc_matches {M : Model} {A : Around} {E : Value → Shared → Prop} {h : Heap} {g : Array GenState} {d : Drawn} {t : Nat} {os : OsState} {e C D : Addr} {o : Obj} {K : Frag} {Q : Bool → Shared → Prop} (X : K.In h) (I : ExAt h e o C) (F : CtK K D) (hs : subIn K (.ref C) (.ref D) = some true)
    (hq : Q true ⟨h, g, d, t, os⟩) : wpAny M A (excMatches (.ref e) (.ref D)) Q E ⟨h, g, d, t, os⟩ := by
  have L1 := looks_typeIn (M := M) X F.ty
  have L2' : Looks M h (isType (.ref D)) true := by
    have hcD := F.ci
    unfold clsIn at hcD
    split at hcD
    · rename_i c' d' cd' sl' ho
      intro A' Q' E' s' k q
      unfold isType loadHead
      exact wpAny_bind (wpAny_loadPart (k _ _ (X _ _ ho)) (wpAny_pure q))
    · cases hcD
  have L3 := looks_subIn (M := M) X F.sb
  have L4 := looks_subIn (M := M) X hs
  have L5 := I.type (M := M)
  have f := tc_notTuple
  unfold excMatches isInstance
  repeat (first | with_reducible refine L1.at ?_ | with_reducible refine L2'.at ?_ | with_reducible refine L3.at ?_ | with_reducible refine L4.at ?_ | with_reducible refine L5.at ?_ | wp_step)
  exact hq
/-! ### raise -/
abbrev bmV : List Value := [.type "ValueError", .type "Exception", .type "BaseException", .type "object"]
structure ClsObj (h : Heap) (C : Addr) (bmB : List Value) (newId : String) : Prop where
  ex : ∃ (nm q : Str) (N : Addr) (bs bm : List Value) (hdct : Bool) (sn : List Str) (sub : List Value) (ab : Bool) (col : Option Bool) (dd : Option Addr) (k0 k1 k2 k3 k5 : Option Value) (mN : Str → Option Value),
    h.get? C = some (excClassObj nm q C N bs bm hdct sn sub ab col dd k0 k1 k2 k3 k5 newId) ∧ h.Ns N mN ∧ mN "__init__" = none ∧ OwnTail h bmB bm
theorem objThere {P : Program} {w : World} {H : Hp} {h : Heap} {a : Addr} {o : HO} (x : ObjOk P w H h a o) : ∃ ob, h.get? a = some ob := by
  cases o with
  | lst xs => obtain ⟨_, _, _, _, e⟩ := x; exact ⟨_, e⟩
  | tup xs => obtain ⟨_, _, _, ob, e, _⟩ := x; exact ⟨_, e⟩
  | dK kvs => obtain ⟨_, _, _, _, ob, _, _, e, _⟩ := x; exact ⟨_, e⟩
  | dT kvs => obtain ⟨_, _, _, _, ob, _, _, e, _⟩ := x; exact ⟨_, e⟩
  | set S n => obtain ⟨ob, _, _, _, e, _⟩ := x; exact ⟨_, e⟩
  | ins C dx fs => obtain ⟨_, _, _, e, _⟩ := x; exact ⟨_, e⟩
  | own y => obtain ⟨_, e⟩ := x; exact ⟨_, e⟩
  | xd fs => obtain ⟨_, ⟨_, _, _, e, _⟩, _⟩ := x; exact ⟨_, e⟩
  | rng lo hi => obtain ⟨_, _, _, e⟩ := x; exact ⟨_, e⟩
  | frz ob u => obtain ⟨e, _⟩ := x; exact ⟨_, e⟩
  | tbl ps => exact ⟨_, (show h.get? a = some _ from x)⟩
  | met f y => exact ⟨_, (show h.get? a = some _ from x)⟩
  | ext φ => obtain ⟨_, ⟨_, e⟩, _⟩ := x; exact ⟨_, e⟩
/-- an error of the class at C that was caught, its dict -/
def excD (a C : Addr) (dd : Option Addr) : HO := .ext fun h => ∃ o, ExAt h a o C ∧ o.dict = dd ∧ ∃ us, o.data = .fields us
theorem Inv.absent0 {X : Cx} {pins : List (Addr × Obj)} {σ : St} {H : Hp} {s : Shared} (I : Inv X pins σ H s) {e : Addr} (hex : X.ex = []) (n : s.heap.get? e = none) : X.s₀.heap.get? e = none := by
  cases q : X.s₀.heap.get? e with
  | none => rfl
  | some o =>
    obtain ⟨ob, z⟩ := I.base.there e o q (by rw [hex]; simp)
    rw [n] at z
    cases z
def tRaise (C : Addr) (E : XK) (t : TA) : TS := fun _ σ H => t σ H fun vs H1 => vs.length ≤ sizeLine ∧ E (.ref C) none H1
section
variable {X : Cx}
/-- isinstance of such an object, against an own class or a built-in one -/
theorem call_isiY : CallR X (.builtin "isinstance") (fun xs H Q => ∃ a C dd c v b, xs = [.ref a, v] ∧ H a = some (excD a C dd) ∧ ExK X.K C ∧ RelV v c ∧ kitOne X.K (.ref C) c = some b ∧ Q (.bl b) H) := by
  intro pins s σ H xs us Q I r h
  obtain ⟨a, C, dd, c, v, b, rfl, hH, F, rc, hk, q⟩ := h
  obtain ⟨u, w', rfl, rx, ry⟩ := vals2 r
  cases rx
  obtain ⟨⟨o, hi, _⟩, _⟩ := I.hok a _ hH
  have e : w' = c := by
    have := ry
    cases v with
    | ref z => cases ry; cases rc; rfl
    | ty z => cases ry; cases rc; rfl
    | non => cases ry; cases rc; rfl
    | bl z => cases ry; cases rc; rfl
    | int z => obtain ⟨_, rfl⟩ := rc; simp [kitOne, kitCls] at hk
    | str z => obtain ⟨_, rfl⟩ := rc; simp [kitOne, kitCls] at hk
    | byt z => obtain ⟨_, rfl⟩ := rc; simp [kitOne, kitCls] at hk
    | flt z => obtain ⟨_, rfl⟩ := rc; simp [kitOne, kitCls] at hk
  subst e
  exact kia_one (kitx_exc F) I.kIn hi hk (by intro z; cases z) fun tk => ⟨.bl b, H, I.tok _, rfl, q⟩
end
/-- within an except suite, from which nothing is raised -/
abbrev Cx.within (X : Cx) (v : Value) : Cx := { X with A := X.A.mark (some v), calm := false, xe := fun _ _ => False }
/-- within a try: what is wanted of an error, and pins that every state bears -/
abbrev Cx.trying (X : Cx) (pins : List (Addr × Obj)) (E : Value → Shared → Prop) : Cx := { X with pn := X.pn ++ pins, xe := E }
section
variable {X : Cx} {pins : List (Addr × Obj)} {σ : St} {H H' : Hp} {s s' : Shared}
theorem Inv.within (I : Inv X pins σ H s) (v : Value) : Inv (X.within v) pins σ H s :=
  ⟨⟨I.ok.mod, I.ok.kind, I.ok.glob, I.ok.blt, I.ok.above, I.ok.inj, I.ok.has, I.ok.cab, (fun h => (by cases h)), I.ok.frames, I.ok.stk, I.ok.exf, I.ok.bs, I.ok.bsz, I.ok.noex, I.ok.exfs, I.ok.funs, I.ok.frf⟩, I.os, I.bare, I.base, I.loc, I.cell, I.free, I.freeC, I.pin, I.hok, I.len⟩
theorem Inv.without {v : Value} (ok : X.Ok) (I : Inv (X.within v) pins σ H s) : Inv X pins σ H s := ⟨ok, I.os, I.bare, I.base, I.loc, I.cell, I.free, I.freeC, I.pin, I.hok, I.len⟩
theorem Inv.trying (I : Inv X pins σ H s) (E : Value → Shared → Prop) : Inv (X.trying pins E) [] σ H s :=
  ⟨⟨I.ok.mod, I.ok.kind, I.ok.glob, I.ok.blt, I.ok.above, I.ok.inj, I.ok.has, I.ok.cab, I.ok.hd, I.ok.frames, I.ok.stk, I.ok.exf, I.ok.bs, I.ok.bsz, I.ok.noex, I.ok.exfs, I.ok.funs, I.ok.frf⟩, I.os, I.bare, I.base, I.loc, I.cell, I.free, I.freeC, fun p hp => I.pin p (by rwa [List.append_nil] at hp), I.hok, I.len⟩
theorem Inv.tried {E : Value → Shared → Prop} {pl : List (Addr × Obj)} (I : Inv (X.trying pins E) pl σ H s) : Inv X pins σ H s :=
  ⟨⟨I.ok.mod, I.ok.kind, I.ok.glob, I.ok.blt, I.ok.above, I.ok.inj, I.ok.has, I.ok.cab, I.ok.hd, I.ok.frames, I.ok.stk, I.ok.exf, I.ok.bs, I.ok.bsz, I.ok.noex, I.ok.exfs, I.ok.funs, I.ok.frf⟩, I.os, I.bare, I.base, I.loc, I.cell, I.free, I.freeC, fun p hp => I.pin p (List.mem_append_left _ hp), I.hok, I.len⟩
theorem SP.tried {E : Value → Shared → Prop} {D : Ends} {f : Flow} (h : SP (X.trying pins E) [] D f s) : SP X pins D f s := by
  cases f with
  | next => obtain ⟨σ', H', I, q⟩ := h; exact ⟨σ', H', I.tried, q⟩
  | brk => obtain ⟨σ', H', I, q⟩ := h; exact ⟨σ', H', I.tried, q⟩
  | cont => obtain ⟨σ', H', I, q⟩ := h; exact ⟨σ', H', I.tried, q⟩
  | ret u => obtain ⟨v, σ', H', I, r, q⟩ := h; exact ⟨v, σ', H', I.tried, r, q⟩
/-- a thing that stands there is tracked from now on -/
theorem Inv.track (I : Inv X pins σ H s) {a : Addr} {u : HO} (hn : H a = none) (h0 : X.s₀.heap.get? a = none) (hL : a ≠ X.env.locals) (hc : ∀ x c, X.env.cells.lookup x = some c → c ≠ a) (hp : ∀ p ∈ X.pn ++ pins, p.1 ≠ a)
    (ok : ObjOk X.prog X.w (upd H a u) s.heap a u) : Inv X pins σ (upd H a u) s := by
  have old : ∀ b o, X.s₀.heap.get? b = some o → b ≠ a := fun b o e z => by rw [z, h0] at e; cases e
  have trk : ∀ b o, H b = some o → b ≠ a := fun b o e => ne_of_none e hn
  refine ⟨I.ok, I.os, I.bare, ⟨I.base.keep, I.base.slot, fun b o e n hx => ?_, I.base.there, fun b xs e => ?_, fun b o x e => ?_, fun b ps e => ?_⟩, I.loc, I.cell, ?_, fun x c e => ?_, fun p q => ?_, fun b o e => ?_, I.len⟩
  · rw [upd_ne (old b o e)]
    exact I.base.free b o e n hx
  · have z := I.base.tups b xs e
    rw [upd_ne (trk _ _ z)]
    exact z
  · have z := I.base.frzs b o x e
    rw [upd_ne (trk _ _ z)]
    exact z
  · obtain ⟨m, z⟩ := I.base.tbls b ps e
    exact ⟨m, by rw [upd_ne (trk _ _ z)]; exact z⟩
  · rw [upd_ne (Ne.symm hL)]
    exact I.free
  · rw [upd_ne (hc x c e)]
    exact I.freeC x c e
  · obtain ⟨a1, a2, a3⟩ := I.pin p q
    exact ⟨a1, by rw [upd_ne (hp p q)]; exact a2, a3⟩
  · by_cases hb : b = a
    · subst hb
      rw [upd_same] at e
      cases e
      exact ok
    · rw [upd_ne hb] at e
      exact (I.hok b o e).stay (fun _ _ _ q => q) (fun c q => by rw [upd_ne (trk _ _ q)]; exact q) (fun c xs q => by rw [upd_ne (trk _ _ q)]; exact q)
/-- what has stayed when the error is looked at in this frame -/
theorem un_here (I : Inv X pins σ H s) {B h' : Heap} (u : Un (frs X.stack) [] H H' s.heap s'.heap) (bk : ∀ b o, s.heap.get? b = some o → H b = none → b ∉ frs X.stack → B.get? b = some o)
    (th : ∀ b o, s.heap.get? b = some o → b ∉ frs X.stack → ∃ o', B.get? b = some o') (st : B.StaysIn h') (up : s'.heap.UpToSlots h') : Un (frs X.stack) [] H H' s.heap h' := by
  have slot : ∀ b o, s.heap.get? b = some o → H b = none → b ∈ frs X.stack → ∃ sl, h'.get? b = some { o with slots := sl } := fun b o e n hb => by
    obtain ⟨sl, e1⟩ := u.slot b o e n hb (by simp)
    obtain ⟨_, o', ho', hnf⟩ := I.stack.mem hb
    rw [e] at ho'
    cases ho'
    obtain ⟨sl3, e3⟩ := up b _ e1 (fun vs q => hnf vs q)
    exact ⟨sl3, e3⟩
  refine ⟨fun b o e n hb _ => st b o (bk b o e n hb), fun b o e n hb _ => slot b o e n hb, u.free, fun b o e _ => ?_, u.tups, u.frzs, u.tbls⟩
  by_cases hb : b ∈ frs X.stack
  · obtain ⟨sl, q⟩ := slot b o e (I.stkFree b hb) hb
    exact ⟨_, q⟩
  · obtain ⟨o2, e2⟩ := th b o e hb
    exact ⟨o2, st b o2 e2⟩
/-- the name of an except goes -/
theorem name_gone {M : Model} {A : Around} {E : Value → Shared → Prop} {i : Nat} {n : Str} {pos : Pos} {Q : Unit → Shared → Prop} (I : Inv X pins σ H s) (hN : X.N.Nodup) (hi : X.N[i]? = some n) (hk : X.env.scope.names.lookup n = some .local)
    (h : ∀ s', Inv X pins (σ.set i none) H s' → Q () s') : wpAny M A (do bindName X.env n .none; unbindBehindTheSuite X.env n pos) Q E s := by
  obtain ⟨m, hn, hl⟩ := id I.loc
  have hcls : (X.env.scope.kind == .class || (X.env.scope.kind == .module && X.env.locals != X.env.globals)) = false := by rw [I.ok.kind]; rfl
  have hiσ : i < σ.length := by rw [I.len]; exact (List.getElem?_eq_some_iff.mp hi).1
  refine wpAny_nameGoes_keeps hk hn hcls fun h' v hn' hs => ?_
  have ne : ∀ b o, X.s₀.heap.get? b = some o → b ≠ X.env.locals := fun b o e => Nat.ne_of_lt (Nat.lt_of_lt_of_le (Heap.lt_size e) I.ok.above)
  refine h _ ⟨I.ok, I.os, I.bare, ⟨fun b o e n hb hx => (hs.2 b (ne b o e)).trans (I.base.keep b o e n hb hx), fun b o e n hb hx => ?_, I.base.free, fun b o e hx => ?_, I.base.tups, I.base.frzs, I.base.tbls⟩, ⟨_, hn', fun j y v' e1 e2 e3 => ?_⟩, fun y c e => ?_, I.free, I.freeC, fun p hp => ?_, fun b ob e => ?_, by rw [List.length_set]; exact I.len⟩
  · obtain ⟨sl, e1⟩ := I.base.slot b o e n hb hx
    exact ⟨sl, (hs.2 b (ne b o e)).trans e1⟩
  · obtain ⟨o', e1⟩ := I.base.there b o e hx
    exact ⟨o', (hs.2 b (ne b o e)).trans e1⟩
  · by_cases hj : j = i
    · subst hj
      rw [List.getElem?_set_self hiσ] at e2
      cases e2
    · rw [List.getElem?_set_ne (Ne.symm hj)] at e2
      obtain ⟨u', r', q⟩ := hl j y v' e1 e2 e3
      refine ⟨u', r', ?_⟩
      rcases q with ⟨k, e⟩ | ⟨k, c, e, z⟩
      · refine .inl ⟨k, ?_⟩
        have ny : y ≠ n := fun e => hj (nodup_ix hN e1 (e ▸ hi))
        simp [ny, e]
      · exact .inr ⟨k, c, e, z.sameBut hs (I.cne y c e)⟩
  · obtain ⟨v', q⟩ := I.cell y c e
    exact ⟨v', q.sameBut hs (I.cne y c e)⟩
  · obtain ⟨a1, a2, a3, a4⟩ := I.pin p hp
    exact ⟨(hs.2 p.1 a3).trans a1, a2, a3, a4⟩
  · refine (I.hok b ob e).stay (fun c w' hc q => (hs.2 c ?_).trans q) (fun _ q => q) fun _ _ q => q
    intro z
    rw [z] at hc
    rcases hc with hc | hc
    · rw [← hc, I.free] at e
      cases e
    · rw [I.free] at hc
      cases hc
/-- an error of the body is caught under the name n and kept under the name y (slot j) -/
def tTry (K : Frag) (N j : Nat) (Dc : Addr) (tb : XK → TS) : TS := fun D σ H => tb (fun cls dd H' => ∃ C, cls = .ref C ∧ ExK K C ∧ subIn K (.ref C) (.ref Dc) = some true ∧ ∀ a, H' a = none → D.nx ((List.replicate N none).set j (some (.ref a))) (upd H' a (excD a C dd))) D σ H
end
end L2

namespace L2
open PySem PySem.Spec PyProof.Rows PySem.W
/-! ### an own class of errors with an __init__ of its own -/
/-- the class at C stands under the one at P, which stands under ValueError; its __init__ is the def at f -/
def xiIn (K : Frag) (C P f : Addr) : Bool := match K.lookup C with
  | some ⟨.type "type", _, .cls cd, sl⟩ => (match cd.mro, sl.toList with
    | .ref C' :: .ref P' :: bm, [_, _, _, _, some (.builtin n), _] => C' == C && P' == P && n == "ValueError.__new__" && !cd.hasDel && cd.hasDict && tailIn K bmV (.ref P' :: bm) && nsOkIn K cd.ns && nsIn K cd.ns "__init__" == some (some (.ref f)) && bm == bmV
    | _, _ => false)
  | _ => false
structure ClsI (h : Heap) (C P f : Addr) : Prop where
  ex : ∃ (nm q : Str) (N : Addr) (bs : List Value) (sn : List Str) (sub : List Value) (ab : Bool) (col : Option Bool) (dd : Option Addr) (k0 k1 k2 k3 k5 : Option Value) (mN : Str → Option Value),
    h.get? C = some (excClassObj nm q C N bs (.ref P :: bmV) true sn sub ab col dd k0 k1 k2 k3 k5 "ValueError.__new__") ∧ h.Ns N mN ∧ mN "__init__" = some (.ref f) ∧ OwnTail h bmV (.ref P :: bmV)
theorem nsMap_some_of_in {K : Frag} {h : Heap} {N : Addr} {x : Str} {v : Value} (X : K.In h) (hok : nsOkIn K N = true) (e : nsIn K N x = some (some v)) : h.nsMap N x = some v := by
  have G : h.Ns N (h.nsMap N) := .of_isNs (isNs_of_in X hok)
  obtain ⟨o, es, ep, ho, hd, _, hf⟩ := G
  unfold nsIn at e
  split at e
  · rename_i c d es' n' sl q
    have z := X _ _ q
    rw [ho] at z
    cases z
    cases hd
    split at e
    · rename_i en he
      cases e
      rw [← hf]
      unfold nsFind findBy
      rw [← Array.find?_toList, he]
      rfl
    · split at e <;> cases e
  · cases e
theorem clsI_of {K : Frag} {h : Heap} {C P f : Addr} (X : K.In h) (q : xiIn K C P f = true) : ClsI h C P f := by
  unfold xiIn at q
  split at q
  case h_2 => cases q
  case h_1 dd cd sl ho =>
    split at q
    case h_2 => cases q
    case h_1 C' P' bm k0 k1 k2 k3 n k5 hm hs =>
      simp only [Bool.and_eq_true, beq_iff_eq, Bool.not_eq_true'] at q
      obtain ⟨⟨⟨⟨⟨⟨⟨⟨e1, e0⟩, e2⟩, hdel⟩, hdi⟩, ht⟩, hok⟩, hni⟩, e3⟩ := q
      cases e1
      cases e0
      cases e2
      cases e3
      obtain ⟨nm, bs, mro, ns, qn, hd, sn, sub, ab, col, del⟩ := cd
      obtain ⟨sl⟩ := sl
      dsimp only at hm hdel hok hni hs hdi
      subst hm hdel hs hdi
      exact ⟨nm, qn, ns, bs, sn, sub, ab, col, dd, k0, k1, k2, k3, k5, _, X _ _ ho, .of_isNs (isNs_of_in X hok), nsMap_some_of_in X hok hni, tail_of_in X ht⟩
section
variable {prog : Program} {w : World} {A : Around} {E : Value → Shared → Prop} {h : Heap} {g : Array GenState} {d : Drawn} {t : Nat} {os : OsState} {K : Frag} {C P f : Addr}
/-- what stands there when __init__ is called -/
abbrev excNew (h : Heap) (C : Addr) (rest : List Value) : Heap := (h.push { cls := .type "tuple", data := .seq rest.toArray }).push { cls := .ref C, data := .fields #[.ref h.objs.size, .none, .none, .none, .bool false, .none] }
theorem exi_type_call {rest : List Value} {Q : Fin → Shared → Prop} (X : K.In h) (I : ClsI h C P f) (hf : typeIn K (.ref f) = some (.type "function")) (hrest : rest.length ≤ sizeLine)
    (hq : codeAny (model prog w) A (.call (.ref f) ⟨.ref (h.objs.size + 1) :: rest, []⟩) (fun r s' => match r with
      | .ok (.ret v) => v = .none ∧ Q (.done (.ret (.ref (h.objs.size + 1)))) s'
      | .ok _ => False
      | .error e => E e s') ⟨excNew h C rest, g, d, t, os⟩) :
    wpAny (model prog w) A (Builtin.«type.__call__» ⟨.ref C :: rest, []⟩) Q E ⟨h, g, d, t, os⟩ := by
  obtain ⟨nm, q, N, bs, sn, sub, ab, col, dd, k0, k1, k2, k3, k5, mN, hC, hn, hni, T⟩ := I.ex
  have F := PySem.F.excBase_ValueError
  repeat (first | with_reducible refine wpAny_loadPart_at hC ?_ | with_reducible refine wpAny_madeBy_exc hC ?_ | wp_step)
  refine codeAny_call_builtin_code (Code.quiet_builtin _ F.quiet) (wpAny_check_new_subU F F.hasB T hC ?_)
  refine codeAny_exc_new_subU F F.hasB F T hC ?_ hrest
  show wpAny _ _ _ _ _ _
  have keep : ∀ b o, h.get? b = some o → (excNew h C rest).get? b = some o := fun b o e => Heap.get?_push_of_some _ (Heap.get?_push_of_some _ e)
  have hC1 := keep _ _ hC
  have hn1 : (excNew h C rest).Ns N mN := hn.keeps keep
  have hget : (excNew h C rest).get? (h.objs.size + 1) = some { cls := .ref C, data := .fields #[.ref h.objs.size, .none, .none, .none, .bool false, .none] } := by unfold excNew; heap_get
  have hcC : (Value.ref C :: Value.ref P :: bmV).contains (.ref C) = true := by simp
  have T1 := T.keeps keep
  have B1 := bind_fn (M := model prog w) (X.keeps keep) (.ref (h.objs.size + 1)) hf
  unfold isInstance
  repeat (first | with_reducible refine wpAny_loadPart_at hget ?_ | (with_reducible refine wpAny_isSubtype_exc hC1 ?_; rw [hcC]) | wp_step)
  show wpAny _ _ (typeLookup (.ref C) _) _ _ _
  refine wpAny_typeLookup_tail hC1 hn1 T1 F.mroIs F.init.lookup ?_
  rw [hni]
  refine wpAny_holding (wpAny_bind (B1.at ?_))
  refine wpAny_bind (wpAny_call (codeAny_mono hq fun r s' z => ?_))
  cases r with
  | error e => exact z
  | ok fl =>
    cases fl with
    | ret v =>
      obtain ⟨rfl, z⟩ := z
      exact wpAny_pure (wpAny_pure z)
    | next => exact z.elim
    | brk => exact z.elim
    | cont => exact z.elim
theorem exi_call {rest : List Value} {R : Result → Shared → Prop} (X : K.In h) (I : ClsI h C P f) (hf : typeIn K (.ref f) = some (.type "function")) (hrest : rest.length ≤ sizeLine)
    (hq : codeAny (model prog w) (A.under (.builtin "type.__call__" ⟨.ref C :: rest, []⟩)) (.call (.ref f) ⟨.ref (h.objs.size + 1) :: rest, []⟩) (InitBack (h.objs.size + 1) R) ⟨excNew h C rest, g, d, t, os⟩) :
    codeAny (model prog w) A (.call (.ref C) ⟨rest, []⟩) R ⟨h, g, d, t, os⟩ := by
  obtain ⟨nm, q, N, bs, sn, sub, ab, col, dd, k0, k1, k2, k3, k5, mN, hC, hn, hni, T⟩ := id I.ex
  have f1 := tc_lookup
  have f2 := tc_bind (.ref C)
  have hT : (⟨h, g, d, t, os⟩ : Shared).TypeIs (.ref C) "type" := ⟨_, hC, rfl⟩
  refine codeAny_of_tree ?_
  show wpAny _ _ (callAny (.ref C) _) _ _ _
  repeat (any_goals (first | assumption | with_reducible refine wpAny_loadPart_at hC ?_ | wp_step))
  refine ⟨rfl, ?_⟩
  refine codeAny_call_builtin_at (Code.quiet_builtin _ (by decide +kernel)) entry_typeCall (wpAny_check_type_call_sub hC (exi_type_call X I hf hrest (codeAny_mono hq fun r s' z => ?_)))
  cases r with
  | error e => exact z
  | ok fl =>
    cases fl with
    | ret v => exact z
    | next => exact z.elim
    | brk => exact z.elim
    | cont => exact z.elim
end
end L2

namespace L2
open PySem PySem.Spec PyProof.Rows PySem.W
/-- an error that is being made, or was made and is not raised yet: its class, its dict -/
def exN (a C : Addr) (dd : Option Addr) : HO := .ext fun h => ∃ o t, (h.get? a = some o ∧ o.cls = .ref C ∧ o.dict = dd) ∧ o.data = .fields #[t, .none, .none, .none, .bool false, .none]
/-- what is no more tracked -/
def rem (H : Hp) (a : Addr) : Hp := fun b => if b = a then none else H b
theorem rem_ne {H : Hp} {a b : Addr} (h : b ≠ a) : rem H a b = H b := by unfold rem; rw [if_neg h]
theorem rem_same {H : Hp} {a : Addr} : rem H a a = none := by unfold rem; rw [if_pos rfl]
section
variable {X : Cx} {pins : List (Addr × Obj)} {σ : St} {H : Hp} {s : Shared}
theorem Inv.drop (I : Inv X pins σ H s) {a : Addr} {φ : Heap → Prop} (ha : H a = some (.ext φ)) : Inv X pins σ (rem H a) s := by
  have nn : ∀ b, H b = none → rem H a b = none := fun b h => by
    by_cases z : b = a
    · rw [z]; exact rem_same
    · rw [rem_ne z]; exact h
  have oo : ∀ b o, H b = some o → (∀ ψ, o ≠ .ext ψ) → rem H a b = some o := fun b o h n => by
    by_cases z : b = a
    · subst z; rw [h] at ha; cases ha; exact absurd rfl (n φ)
    · rw [rem_ne z]; exact h
  refine ⟨I.ok, I.os, I.bare, ⟨I.base.keep, I.base.slot, fun b o e n hx => nn b (I.base.free b o e n hx), I.base.there, fun b xs e => oo b _ (I.base.tups b xs e) (fun _ z => by cases z), fun b o x e => oo b _ (I.base.frzs b o x e) (fun _ z => by cases z), fun b ps e => ?_⟩, I.loc, I.cell, nn _ I.free, fun x c e => nn _ (I.freeC x c e), fun p hp => ?_, fun b o e => ?_, I.len⟩
  · obtain ⟨m, z⟩ := I.base.tbls b ps e
    exact ⟨m, oo b _ z (fun _ q => by cases q)⟩
  · obtain ⟨a1, a2, a3⟩ := I.pin p hp
    exact ⟨a1, nn _ a2, a3⟩
  · by_cases z : b = a
    · rw [z, rem_same] at e; cases e
    · rw [rem_ne z] at e
      exact (I.hok b o e).stay (fun _ _ _ q => q) (fun c q => oo c _ q (fun _ z => by cases z)) (fun c xs q => oo c _ q (fun _ z => by cases z))
theorem Inv.exnew (I : Inv X pins σ H s) (C : Addr) (us : List Value) : Inv X pins σ (upd H (s.heap.objs.size + 1) (exN (s.heap.objs.size + 1) C none)) { s with heap := excNew s.heap C us } := by
  refine I.laid (a := s.heap.objs.size + 1) (t' := s.toks) (fun b u e => Heap.get?_push_of_some _ (Heap.get?_push_of_some _ e)) (Nat.le_succ _) ?_
  have hget : (excNew s.heap C us).get? (s.heap.objs.size + 1) = some { cls := .ref C, data := .fields #[.ref s.heap.objs.size, .none, .none, .none, .bool false, .none] } := by unfold excNew; heap_get
  exact ⟨⟨_, _, ⟨hget, rfl, rfl⟩, rfl⟩, ⟨_, hget⟩, fun h1 h2 ⟨o, t, ⟨e1, e2, e3⟩, e4⟩ k => ⟨o, t, ⟨k o e1, e2, e3⟩, e4⟩⟩
theorem raise_made {M : Model} {A : Around} {E : Value → Shared → Prop} {env : Env} {x : Sem Value} {C : Addr} {K : Frag} {s : Shared} {Q : Flow → Shared → Prop} (hh : A.handled = none) (F : ExK K C) (hk : ∃ oC, K.lookup C = some oC ∧ oC.cls = .type "type")
    (h : wpAny M A x (fun v s₁ => K.In s₁.heap ∧ ∃ e ob us, v = .ref e ∧ s₁.heap.get? e = some ob ∧ ob.cls = .ref C ∧ ob.data = .fields us ∧ us[1]? = some .none ∧ E (.ref e) s₁) E s) : wpAny M A (raiseStmt env (some x) none) Q E s := by
  unfold raiseStmt
  refine wpAny_bind (wpAny_mono h (fun v s₁ h₁ => ?_) fun _ _ x => x)
  obtain ⟨KX, e, ob, us, rfl, he, hc, hd, h1, hE⟩ := h₁
  obtain ⟨hp, g, d, tk, os⟩ := s₁
  have L1 := looks_subIn (M := M) KX F.sb
  obtain ⟨⟨cC, dC, tC, sC⟩, hkC, hkc⟩ := hk
  have hC := KX _ _ hkC
  dsimp only at hkc
  subst hkc
  obtain ⟨oc, od, odt, osl⟩ := ob
  dsimp only at hc hd
  subst hc hd
  have h1' := h1
  repeat (first | with_reducible refine wpAny_loadPart_at he ?_ | with_reducible refine wpAny_loadPart_at hC ?_ | with_reducible refine L1.at ?_ | wp_step)
  rw [h1]
  refine wpAny_pure ?_
  rw [if_neg (by decide)]
  exact wpAny_pure (wpAny_raiseNew_none hh hE)
end
theorem xiIn_obj {K : Frag} {C P f : Addr} (q : xiIn K C P f = true) : ∃ oC, K.lookup C = some oC ∧ oC.cls = .type "type" := by
  unfold xiIn at q
  split at q
  · rename_i ho
    exact ⟨_, ho, rfl⟩
  · cases q
/-- an own class of errors with an __init__, as the top made it -/
structure ExI (K : Frag) (C P f : Addr) : Prop where
  xi : xiIn K C P f = true
  fn : typeIn K (.ref f) = some (.type "function")
  kp : keepIn K (.ref C) = true
  k : ExK K C
/-- raise C(..): the error is made, __init__ runs, it leaves -/
def tRaiseI (C : Addr) (sp : Sp) (E : XK) (t : TA) : TS := fun _ σ H => t σ H fun vs H1 => vs.length ≤ sizeLine ∧ ∀ e, H1 e = none →
  sp (.ref e :: vs) (upd H1 e (exN e C none)) (fun v H2 => v = .non ∧ ∃ dd, H2 e = some (exN e C dd) ∧ E (.ref C) dd (rem H2 e)) E0
section
variable {X : Cx}
theorem ps_raiseI {x : Str} {C P f : Addr} {fd : FuncData} {ps : List Str} {sp : Sp} {k : Nat} {e₀ : Expr} {es : List Expr} {t : TA} {E : XK} {np cpos pos : Pos} (hex : X.ex = []) (hX : XeOk X E) (hc : X.calm = true) (hr : Room (k + 1) X.A) (hg : Gl X x) (hm : X.mg x = some (.ref C)) (hei : ExI X.K C P f)
    (F : FnOk X.prog X.w X.K X.mg X.base CX0 k f fd ps sp) (hb : Binds X.K fd ps []) (ha : PA X (e₀ :: es) t)
    (hdb : (x == ("__debug__" : Str)) = false := by decide) (he : starEach (e₀ :: es) X.env = (false, eval e₀ X.env) :: starEach es X.env := by rfl) (hpl : (backTo cpos (starEach es X.env)).any (·.1) = false := by rfl) :
    PS X (.Raise (some (.Call (.Name x np) (e₀ :: es) [] cpos)) none pos) (tRaiseI C sp E t) := by
  intro pins s σ H D I h
  rw [arm_exec_Raise]
  refine wpAny_bind (wpAny_standAt (raise_made (C := C) (K := X.K) (I.ok.hd hc) hei.k (xiIn_obj hei.xi) ?_))
  refine wpAny_bind (thn (Q := fun v s₁ => X.K.In s₁.heap ∧ ∃ e ob us, v = Value.ref e ∧ s₁.heap.get? e = some ob ∧ ob.cls = .ref C ∧ ob.data = .fields us ∧ us[1]? = some .none ∧ X.xe (.ref e) s₁) ?_ fun v s1 q => wpAny_bind (wpAny_standAt (wpAny_pure q)))
  refine wpAny_Call_Name_kw (ld_glob I hg hm ?_ hdb)
  refine PySem.W.callWith_K (h₀ := X.base) I.ok.mod.kin hei.kp (thn (ha cpos pins s σ H _ I h) fun us s1 ⟨vs, H1, I1, r, hl, q⟩ => ⟨I1.kIn, ?_⟩) he hpl
  have hn : H1 (s1.heap.objs.size + 1) = none := I1.hok.fresh (Nat.le_succ _)
  have hq := q (s1.heap.objs.size + 1) hn
  have I2 := I1.exnew C us
  have r2 : Vals (V.ref (s1.heap.objs.size + 1) :: vs) (Value.ref (s1.heap.objs.size + 1) :: us) := .cons rfl r
  have hlen : (Value.ref (s1.heap.objs.size + 1) :: us ++ []).length = ps.length := by
    have e := r2.length
    rw [F.len _ _ _ _ hq] at e
    rw [List.append_nil]
    exact e.symm
  have n0 : X.s₀.heap.get? (s1.heap.objs.size + 1) = none := I1.absent0 hex (Heap.get?_none_of_le (Nat.le_succ _))
  obtain ⟨hh, g, d, tk, os⟩ := s1
  refine wpAny_call (exi_call (f := f) (P := P) I1.kIn (clsI_of I1.kIn hei.xi) hei.fn (by show us.length ≤ sizeLine; rw [← r.length]; exact hl) (codeAny_mono (F.run _ X.stack _ _ ⟨Value.ref (hh.objs.size + 1) :: us, []⟩ (Value.ref (hh.objs.size + 1) :: us) _ _ E0 (hr.make C us [])
    (I2.env0.make C us []) (by have z := hb _ (Value.ref (hh.objs.size + 1) :: us) I2.kIn hlen; rw [List.append_nil] at z; exact z) r2 hq) fun r s' hq' => ?_))
  cases r with
  | error e => exact hq'.elim
  | ok fl =>
    cases fl with
    | ret u =>
      obtain ⟨v, H', I3, rv, ev, dd, hd, hE⟩ := I2.after hq'
      subst ev
      refine ⟨rv, ?_⟩
      obtain ⟨⟨o, t', ⟨o1, o2, o3⟩, o4⟩, _⟩ := I3.hok _ _ hd
      exact ⟨I3.kIn, _, o, _, rfl, o1, o2, o4, rfl, hX pins σ _ s' _ C o _ (I3.drop hd) rem_same n0 o1 o2 o4 rfl (by rw [o3]; exact hE)⟩
    | next => exact hq'.elim
    | brk => exact hq'.elim
    | cont => exact hq'.elim
end
end L2

namespace L2
open PySem PySem.Spec PyProof.Rows PySem.W PySem.Builtin PySem.Builtin.ObjectAttr
theorem refuse_exc (self : Value) : refuseLoop self "__setattr__" bmV = pure () := by
  kernel_rfl
section
variable {prog : Program} {w : World} {A : Around} {E : Value → Shared → Prop} {h : Heap} {g : Array GenState} {d : Drawn} {t : Nat} {os : OsState} {K : Frag} {C P f a : Addr} {o : Obj} {name : Str} {v : Value}
/-- e.name = v, up to the store itself -/
theorem exi_set_open {Q : Unit → Shared → Prop} (X : K.In h) (I : ClsI h C P f) (F : ExK K C) (sa : findIn K (.ref C) "__setattr__" = some (some (.builtin "object.__setattr__"))) (nn : findIn K (.ref C) name = some none) (O : ExAt h a o C)
    (hq : ∀ A' tk, wpAny (model prog w) A' (storeInOwnDict (.ref a) (.ref C) (.str name tk) name v false) (fun fin s' => ∃ u, fin = .done (.ret u) ∧ Q () s') (fun _ _ => False) ⟨h, g, d, t + 1, os⟩) :
    wpAny (model prog w) A (setAttr (.ref a) name v) Q E ⟨h, g, d, t, os⟩ := by
  obtain ⟨nm, q, N, bs, sn, sub, ab, col, dd, k0, k1, k2, k3, k5, mN, hC, hn, hni, T⟩ := I.ex
  have SF := PySem.F.store_object
  have L1 := O.type (M := model prog w)
  have L2' := looks_findIn (M := model prog w) X sa
  have L3 := looks_findIn (M := model prog w) X nn
  have L4 : Looks (model prog w) h (isInstance (.ref a) (.type "object")) true := L1.andThen (looks_subIn X F.so)
  refine wpAny_bind (wpAny_mkText (wpAny_bind (wpAny_bind (wpAny_bind (L1 _ _ _ _ (fun _ _ e => e) (L2' _ _ _ _ (fun _ _ e => e) (wpAny_holding ?_)))))))
  rw [SF.slot.bind]
  refine wpAny_bind (wpAny_pure (wpAny_bind (wpAny_call ?_)))
  refine codeAny_call_builtin SF.slot.plain SF.entry (@check_slot (model prog w) _ _ _ "object.__setattr__" "object" "__setattr__" (.ref a) [.str name t, v] [] _ SF.kind SF.split L4 (SF.args (.ref a) (.str name t) v) ?_)
  show wpAny _ _ (Builtin.«object.__setattr__» ⟨[.ref a, .str name t, v], []⟩) _ _ _
  rw [osa_eq, refuse_eq]
  refine wpAny_bind (wpAny_bind (L1.here (wpAny_bind (wpAny_mroOf_exc hC ?_))))
  rw [refuseLoop_ref, refuseLoop_ref, refuse_exc]
  refine wpAny_pure (wpAny_bind (L1.here (wpAny_bind (L3.here (wpAny_bind (wpAny_pure ?_))))))
  refine wpAny_mono (hq _ t) (fun fin s' z => ?_) fun _ _ z => z.elim
  obtain ⟨u, rfl, z⟩ := z
  exact wpAny_pure (wpAny_pure z)
theorem idict_new {Q : Option Addr → Shared → Prop} (I : ClsI h C P f) (O : ExAt h a o C) (hd : o.dict = none) {us : Array Value} (hf : o.data = .fields us)
    (hq : Q (some h.objs.size) ⟨(h.push { cls := .type "dict", data := .dict #[] }).update a fun ob => { ob with dict := some h.objs.size }, g, d, t, os⟩) : wpAny (model prog w) A (instanceDict a true) Q E ⟨h, g, d, t, os⟩ := by
  obtain ⟨nm, q, N, bs, sn, sub, ab, col, dd, k0, k1, k2, k3, k5, mN, hC, hn, hni, T⟩ := I.ex
  have hx := O.at_
  obtain ⟨oc, od, odt, osl⟩ := o
  have hc := O.cls
  dsimp only at hd hf hc
  subst hd hf hc
  have hx1 : (h.push { cls := .type "dict", data := .dict #[] }).get? a = some ⟨.ref C, none, .fields us, osl⟩ := Heap.get?_push_of_some _ hx
  unfold instanceDict
  repeat (first | with_reducible refine wpAny_loadPart_at hx ?_ | with_reducible refine wpAny_loadPart_at hC ?_ | wp_step)
  exact hq
theorem idict_old {Q : Option Addr → Shared → Prop} {dx : Addr} (I : ClsI h C P f) (O : ExAt h a o C) (hd : o.dict = some dx) (hq : Q (some dx) ⟨h, g, d, t, os⟩) (b : Bool) : wpAny (model prog w) A (instanceDict a b) Q E ⟨h, g, d, t, os⟩ := by
  obtain ⟨nm, q, N, bs, sn, sub, ab, col, dd, k0, k1, k2, k3, k5, mN, hC, hn, hni, T⟩ := I.ex
  have hx := O.at_
  obtain ⟨oc, od, odt, osl⟩ := o
  have hc := O.cls
  dsimp only at hd hc
  subst hd hc
  unfold instanceDict
  repeat (first | with_reducible refine wpAny_loadPart_at hx ?_ | with_reducible refine wpAny_loadPart_at hC ?_ | wp_step)
  exact hq
/-- the store into a dict -/
theorem store_in {Q : Fin → Shared → Prop} {dx : Addr} {mA : Str → Option Value} {ns : List Str} {tk : Tok} (hn : h.Ns1 dx mA) (hw : Within mA ns) (hz : ns.length ≤ 100)
    (hq : ∀ h' tk', h'.Ns1 dx (fun y => if y = name then some v else mA y) → (∀ b ob, b ≠ dx → h.get? b = some ob → h'.get? b = some ob) → Q (.done (.ret .none)) ⟨h', g, d, tk', os⟩) :
    wpAny (model prog w) A (storeInDict dx (.str name tk) name v) Q E ⟨h, g, d, t, os⟩ := by
  unfold storeInDict newKeyGuard
  refine wpAny_bind (wpAny_pure (wpAny_bind (wpAny_nsSet1 hn fun h' hn' hs => ?_)))
  obtain ⟨oD, esD, epD, hoD, hdD, hcD⟩ := hn'.count (Within.cons name v hw)
  refine wpAny_bind (wpAny_lookBehind hoD (by rw [hdD]; exact pastItsLine_dict (Nat.le_trans hcD (by rw [List.length_cons, sizeLine_eq]; omega))) ?_)
  exact wpAny_pure (hq h' _ hn' fun b ob nb q => (hs.2 b nb).trans q)
/-- the first attribute: its dict is made -/
theorem exi_set_new {Q : Unit → Shared → Prop} (X : K.In h) (I : ClsI h C P f) (F : ExK K C) (sa : findIn K (.ref C) "__setattr__" = some (some (.builtin "object.__setattr__"))) (nn : findIn K (.ref C) name = some none) (O : ExAt h a o C) (hd : o.dict = none) {us : Array Value} (hf : o.data = .fields us)
    (hq : ∀ h' tk, h'.Ns1 h.objs.size (fun y => if y = name then some v else none) → h'.get? a = some { o with dict := some h.objs.size } → (∀ b ob, b ≠ a → h.get? b = some ob → h'.get? b = some ob) → Q () ⟨h', g, d, tk, os⟩) :
    wpAny (model prog w) A (setAttr (.ref a) name v) Q E ⟨h, g, d, t, os⟩ := by
  refine exi_set_open X I F sa nn O fun A' tk => ?_
  have hx := O.at_
  have ne : a ≠ h.objs.size := Nat.ne_of_lt (Heap.lt_size hx)
  have hx1 : (h.push { cls := .type "dict", data := .dict #[] }).get? a = some o := Heap.get?_push_of_some _ hx
  unfold storeInOwnDict
  refine wpAny_bind (wpAny_pure ?_)
  show wpAny _ _ (ownDictForStores (.ref a) >>= _) _ _ _
  refine wpAny_bind (idict_new I O hd hf ?_)
  have hgd : ((h.push { cls := .type "dict", data := .dict #[] }).update a fun ob => { ob with dict := some h.objs.size }).get? h.objs.size = some { cls := .type "dict", data := .dict #[] } :=
    (Heap.get?_update_other _ _ ne).trans (Heap.get?_push_at rfl rfl)
  have hga : ((h.push { cls := .type "dict", data := .dict #[] }).update a fun ob => { ob with dict := some h.objs.size }).get? a = some { o with dict := some h.objs.size } := by
    refine Heap.get?_update_self _ hx1 ?_
    obtain ⟨oc, od, odt, osl⟩ := o
    dsimp only at hf
    subst hf
    rfl
  have hnd : ((h.push { cls := .type "dict", data := .dict #[] }).update a fun ob => { ob with dict := some h.objs.size }).Ns h.objs.size (fun _ => none) := ⟨_, #[], _, hgd, rfl, fun e he => absurd he (by simp), fun _ => rfl⟩
  refine store_in (Heap.Ns1.of_empty hnd) (ns := []) Within.nil (by decide) fun h' tk' hn' hk => ⟨_, rfl, hq h' tk' hn' (hk a _ ne hga) fun b ob nb q => hk b ob (Nat.ne_of_lt (Heap.lt_size q)) ?_⟩
  exact (Heap.get?_update_other _ _ (Ne.symm nb)).trans (Heap.get?_push_of_some _ q)
/-! ### e.name -/
theorem exi_get_entry {tk : Tok} {dx : Addr} {mA : Str → Option Value} {Q : Fin → Shared → Prop} (X : K.In h) (I : ClsI h C P f) (nn : findIn K (.ref C) name = some none) (O : ExAt h a o C) (hd : o.dict = some dx) {us : Array Value} (hf : o.data = .fields us) (hn : h.Ns dx mA) (hv : mA name = some v)
    (hq : Q (.done (.ret v)) ⟨h, g, d, t, os⟩) : wpAny (model prog w) A (Builtin.«object.__getattribute__» ⟨[.ref a, .str name tk], []⟩) Q E ⟨h, g, d, t, os⟩ := by
  have L1 := O.type (M := model prog w)
  have L3 := looks_findIn (M := model prog w) X nn
  have hx := O.at_
  have hc := O.cls
  refine wpAny_bind (wpAny_pure (wpAny_bind (wpAny_pure ?_)))
  refine wpAny_bind (L1.here (wpAny_bind ?_))
  unfold find
  refine wpAny_bind (L3.here ?_)
  refine wpAny_bind (wpAny_pure ?_)
  refine wpAny_bind (wpAny_pure ?_)
  unfold ownThenClass inOwnDict ObjectAttr.ownDict
  refine wpAny_bind (wpAny_bind ?_)
  refine wpAny_bind (wpAny_loadPart_at hx ?_)
  rw [hf]
  refine idict_old I O hd ?_ false
  refine wpAny_nsGet hn ?_
  rw [hv]
  exact wpAny_bind (wpAny_rule (wpAny_pure (wpAny_pure hq)))
theorem exi_get_call {tk : Tok} {dx : Addr} {mA : Str → Option Value} {R : Result → Shared → Prop} (X : K.In h) (I : ClsI h C P f) (F : ExK K C) (nn : findIn K (.ref C) name = some none) (O : ExAt h a o C) (hd : o.dict = some dx) {us : Array Value} (hf : o.data = .fields us) (hn : h.Ns dx mA) (hv : mA name = some v)
    (hq : R (.ok (.ret v)) ⟨h, g, d, t, os⟩) : codeAny (model prog w) A (.call (.builtin "BaseException.__getattribute__") ⟨[.ref a, .str name tk], []⟩) R ⟨h, g, d, t, os⟩ :=
  codeAny_call_builtin PySem.F.attr_ValueError.ga.plain PySem.F.entry_bexc_ga (exc_check_ga X F O (exi_get_entry X I nn O hd hf hn hv hq))
theorem exi_get_by {tk : Tok} {fill expr : Bool} {dx : Addr} {mA : Str → Option Value} {Q : Value → Shared → Prop} (X : K.In h) (I : ClsI h C P f) (F : ExK K C) (nn : findIn K (.ref C) name = some none) (O : ExAt h a o C) (hd : o.dict = some dx) {us : Array Value} (hf : o.data = .fields us) (hn : h.Ns dx mA) (hv : mA name = some v) (hh : handedIn v = true)
    (hq : Q v ⟨h, g, d, t, os⟩) : wpAny (model prog w) A (getAttrBy (.ref a) (.str name tk) fill expr) Q E ⟨h, g, d, t, os⟩ := by
  have f3 := PySem.F.attr_ValueError.ga.bind (.ref a)
  have hx0 : (expr && onTheHeap (Value.builtin "BaseException.__getattribute__")) = false := by cases expr <;> rfl
  have hx2 : (Value.builtin "BaseException.__getattribute__" == Value.builtin "object.__getattribute__") = false := by decide +kernel
  have hx1 : (onTheHeap (Value.ref C) && Value.builtin "BaseException.__getattribute__" == Value.builtin "object.__getattribute__") = false := by rw [hx2]; rfl
  have L1 := looks_findIn (M := model prog w) X F.ga
  have L2' := looks_findIn (M := model prog w) X F.gt
  have hx := O.at_
  have hc := O.cls
  repeat (any_goals (first | assumption | (with_reducible refine wpAny_loadPart_at hx ?_; rw [hc]) | with_reducible refine L1.at ?_ | with_reducible refine L2'.at ?_ | wp_step))
  refine exi_get_call X I F nn O hd hf hn hv ?_
  repeat (any_goals (first | assumption | exact handed_on hh hq | wp_step))
end
/-! ### in the layer -/
/-- what the top made of a class of errors with fields: no attribute of the class has a field's name -/
structure ExF (K : Frag) (C P f : Addr) (x : Str) : Prop where
  i : ExI K C P f
  sa : findIn K (.ref C) "__setattr__" = some (some (.builtin "object.__setattr__"))
  nn : findIn K (.ref C) x = some none
/-- the dict of an error -/
def xdE (a : Addr) (fs : List (Str × V)) : HO := .ext fun h => ∃ mA, h.Ns1 a mA ∧ (∀ g, RelO (fs.lookup g) (mA g)) ∧ Within mA (fs.map (·.1))
theorem xdE_ok {P : Program} {w : World} {H : Hp} {h : Heap} {a : Addr} {fs : List (Str × V)} {mA : Str → Option Value} (n : h.Ns1 a mA) (r : ∀ g, RelO (fs.lookup g) (mA g)) (wi : Within mA (fs.map (·.1))) : ObjOk P w H h a (xdE a fs) := by
  obtain ⟨o, es, ep, e, q⟩ := id n
  exact ⟨⟨mA, n, r, wi⟩, ⟨o, e⟩, fun h1 h2 ⟨m, n1, r1, w1⟩ k => ⟨m, n1.at k, r1, w1⟩⟩
theorem exN_ok {P : Program} {w : World} {H : Hp} {h : Heap} {a C : Addr} {dd : Option Addr} {o : Obj} {t : Value} (e : h.get? a = some o) (c : o.cls = .ref C) (dq : o.dict = dd) (fd : o.data = .fields #[t, .none, .none, .none, .bool false, .none]) : ObjOk P w H h a (exN a C dd) :=
  ⟨⟨o, t, ⟨e, c, dq⟩, fd⟩, ⟨o, e⟩, fun h1 h2 ⟨o, t, ⟨e1, e2, e3⟩, e4⟩ k => ⟨o, t, ⟨k o e1, e2, e3⟩, e4⟩⟩
section
variable {X : Cx} {pins : List (Addr × Obj)} {σ : St} {H : Hp} {s : Shared} {o e value : Expr} {x : Str} {pos pos' : Pos} {ta tv : TE} {C P f : Addr}
/-- a thing that was not there ahead is tracked -/
theorem Inv.trackNew {s' : Shared} {H' : Hp} (I : Inv X pins σ H s) (I' : Inv X pins σ H' s') {a : Addr} {u : HO} (hex : X.ex = []) (n : s.heap.get? a = none) (hn : H' a = none) (ok : ObjOk X.prog X.w (upd H' a u) s'.heap a u) : Inv X pins σ (upd H' a u) s' := by
  refine I'.track hn (I.absent0 hex n) (fun z => ?_) (fun y c q z => ?_) (fun p q z => ?_) ok
  · obtain ⟨m, ⟨oL, _, _, hoL, _⟩, _⟩ := I.loc
    rw [← z, n] at hoL
    cases hoL
  · obtain ⟨v, o, ho, _⟩ := I.cell y c q
    rw [z, n] at ho
    cases ho
  · have := (I.pin p q).1
    rw [z, n] at this
    cases this
/-- e.x = value, the first one -/
def sExN (K : Frag) (C P f : Addr) (ta tv : TE) (x : Str) : TS := fun D σ H => tv σ H fun y H1 => ta σ H1 fun z H2 => ∃ a, z = .ref a ∧ H2 a = some (exN a C none) ∧ ExF K C P f x ∧
  ∀ dx, H2 dx = none → dx ≠ a → D.nx σ (upd (upd H2 a (exN a C (some dx))) dx (xdE dx [(x, y)]))
theorem ps_exN (hex : X.ex = []) (ha : PE X o ta) (hv : PE X value tv) (hs : swapsWith value (some (.Attribute o x pos')) pos.line X.env = pure false) : PS X (.Assign [.Attribute o x pos'] value pos) (sExN X.K C P f ta tv x) := by
  intro pins s σ H D I h
  refine plainObj_wpAny_Assign_Attribute (thn (hv pins s σ H _ I h) fun u s1 ⟨y, H1, I1, ry, q⟩ => thn (ha pins s1 σ H1 _ I1 q) fun ov s2 ⟨z, H2, I2, rx, a, ez, ea, F, q2⟩ => ?_) hs
  subst ez
  obtain rfl : ov = Value.ref a := rx
  obtain ⟨⟨ob, t', ⟨o1, o2, o3⟩, o4⟩, _⟩ := I2.hok _ _ ea
  have nz : s2.heap.get? s2.heap.objs.size = none := Heap.get?_none_of_le (Nat.le_refl _)
  have Hz : H2 s2.heap.objs.size = none := I2.hok.fresh (Nat.le_refl _)
  have ne : s2.heap.objs.size ≠ a := Nat.ne_of_gt (Heap.lt_size o1)
  obtain ⟨hh, g, d, tk, os⟩ := s2
  refine exi_set_new I2.kIn (clsI_of I2.kIn F.i.xi) F.i.k F.sa F.nn ⟨o1, o2⟩ o3 o4 fun h' tk' hn' ga ks => ?_
  have J1 : Inv X pins σ (upd H2 a (exN a C (some hh.objs.size))) ⟨h', g, d, tk', os⟩ := by
    refine I2.write (x := a) (e := a) (t' := tk') (by rw [ea]; exact True.intro) (.inl rfl) ks ⟨_, ga⟩ ?_
    exact exN_ok ga o2 rfl o4
  have J2 := I2.trackNew J1 (a := hh.objs.size) (u := xdE hh.objs.size [(x, y)]) hex nz (by rw [upd_ne ne]; exact Hz) (xdE_ok hn' (fun g => ?_) (fun g hg => ?_))
  · exact ⟨σ, _, J2, q2 _ Hz ne⟩
  · by_cases z : g = x
    · subst z
      simp only [List.lookup, beq_self_eq_true, if_true]
      exact ry
    · have : ([(x, y)] : List (Str × V)).lookup g = none := by
        simp only [List.lookup]
        rw [beq_eq_false_iff_ne.mpr z]
      rw [this, if_neg z]
      exact True.intro
  · by_cases z : g = x
    · rw [z]; simp
    · rw [if_neg z] at hg
      exact absurd rfl hg
end
end L2

namespace L2
open PySem PySem.Spec PyProof.Rows PySem.W PySem.Builtin PySem.Builtin.ObjectAttr
section
variable {prog : Program} {w : World} {A : Around} {E : Value → Shared → Prop} {h : Heap} {g : Array GenState} {d : Drawn} {t : Nat} {os : OsState} {K : Frag} {C P f a : Addr} {o : Obj} {v : Value}
/-- the base's __init__ of an error that is being made: its args are laid -/
theorem binit_call {Q : Value → Shared → Prop} {rest : List Value} {us : Array Value} {a0 : Value} (I : ClsI h C P f) (O : ExAt h a o C) (hf : o.data = .fields us) (h0 : us[0]? = some a0) (hz : rest.length ≤ sizeLine)
    (hq : Q .none ⟨(h.push { cls := .type "tuple", data := .seq rest.toArray }).update a (Obj.mapFields (·.setIfInBounds 0 (.ref h.objs.size))), g, d, t, os⟩) :
    wpAny (model prog w) A (call (.builtin "ValueError.__init__") (.ref a :: rest)) Q E ⟨h, g, d, t, os⟩ := by
  obtain ⟨nm, q, N, bs, sn, sub, ab, col, dd, k0, k1, k2, k3, k5, mN, hC, hn, hni, T⟩ := I.ex
  have F := PySem.F.excBase_ValueError
  have z0 : 0 < us.size := (Array.getElem?_eq_some_iff.mp h0).1
  have g1 := Heap.get?_push_of_some (h := h) { cls := .type "tuple", data := .seq rest.toArray } O.at_
  refine wpAny_call (codeAny_call_builtin F.init.plain F.initEntry (wpAny_check_init_subU F T hC O.at_ O.cls ?_))
  unfold Builtin.«BaseException.__init__»
  dsimp only
  rw [if_neg (by simp)]
  unfold newTuple Builtin.BaseException.bexcPut
  refine wpAny_bind (wpAny_newObj_type ?_ (by show rest.toArray.size ≤ sizeLine; rw [List.size_toArray]; exact hz))
  refine wpAny_bind (wpAny_bind (wpAny_field g1 hf h0 (wpAny_bind (wpAny_setField g1 hf z0 ?_))))
  split
  · refine wpAny_letGo ?_
    exact wpAny_pure hq
  · exact wpAny_pure (wpAny_pure hq)
end
/-- the class whose __init__ is called by its name -/
structure BaseI (K : Frag) (P : Addr) : Prop where
  rd : readsIn K P (.type "type") = true
  fc : findCls K (.ref P) (.type "type") "__init__" = some (.val (.builtin "ValueError.__init__"))
  ga : specialIn K (.ref P) "__getattribute__" = some (some (.builtin "type.__getattribute__"))
section
variable {X : Cx} {C P f : Addr} {x : Str} {p apos pos : Pos} {e₁ e₂ : Expr} {t : TA}
/-- Base.__init__(self, text) -/
def tBInit (K : Frag) (P : Addr) (t : TA) : TE := fun σ H Q => t σ H fun vs H1 => ∃ a C dd f txt, vs = [.ref a, .str txt] ∧ H1 a = some (exN a C dd) ∧ ExI K C P f ∧ Q .non H1
theorem upd_id {H : Hp} {a : Addr} {o : HO} (h : H a = some o) : upd H a o = H := by
  funext b
  by_cases z : b = a
  · rw [z, upd_same, h]
  · rw [upd_ne z]
theorem pe_binit {pl : Sem Bool} (hg : Gl X x) (hm : X.mg x = some (.ref P)) (B : BaseI X.K P) (ha : PA X [e₁, e₂] t) (hdb : (x == ("__debug__" : Str)) = false := by decide)
    (hst : starEach [e₁, e₂] X.env = (false, eval e₁ X.env) :: starEach [e₂] X.env := by rfl) (hpl : (backTo pos (starEach [e₂] X.env)).any (·.1) = false := by rfl)
    (ht : eval (.Call (.Attribute (.Name x p) "__init__" apos) [e₁, e₂] [] pos) X.env = (do
      let ov ← eval (.Name x p) X.env
      standAt apos.atName
      let (f, first) ← holding [ov] (getMethod ov "__init__" pl)
      callWith pos f first (backTo pos (starEach [e₁, e₂] X.env)) (backToKw pos (keywordEach [] X.env))) := by rfl) :
    PE X (.Call (.Attribute (.Name x p) "__init__" apos) [e₁, e₂] [] pos) (tBInit X.K P t) := by
  intro pins s σ H Q I h
  refine PySem.W.methodCall_KW (pl := pl) (ld_glob I hg hm ?_ hdb) ht
  refine method_cls I.kIn B.ga (cls_value I.kIn B.rd B.fc rfl ?_)
  have I0 := I.tok (s.toks + 1)
  have hA := ha pos pins _ σ H _ I0 h
  rw [hst] at hA ⊢
  refine Calls.callWith_builtin (by show (false || (backTo pos (starEach [e₂] X.env)).any (·.1)) = false; rw [hpl] <;> rfl) (Calls.evalArgs_plain (thn hA fun us s2 ⟨vs, H2, I2, r2, a, C, dd, f, txt, e1, ea, F, q2⟩ => ?_))
  subst e1
  obtain ⟨u1, u2, rfl, ra, rt⟩ := r2.two
  obtain rfl : u1 = Value.ref a := ra
  obtain ⟨⟨ob, t', ⟨o1, o2, o3⟩, o4⟩, _⟩ := I2.hok _ _ ea
  obtain ⟨hh, g, d, tk, os⟩ := s2
  refine binit_call (clsI_of I2.kIn F.xi) ⟨o1, o2⟩ o4 rfl (by show 1 ≤ sizeLine; decide) ?_
  have g1 := Heap.get?_push_of_some (h := hh) { cls := .type "tuple", data := .seq [u2].toArray } o1
  have d1 := Obj.data_mapFields o4 (·.setIfInBounds 0 (Value.ref hh.objs.size))
  have g2 := Heap.get?_update_self (Obj.mapFields (·.setIfInBounds 0 (Value.ref hh.objs.size))) g1 (Obj.isFreed_of_fields d1)
  have J : Inv X pins σ (upd H2 a (exN a C dd)) ⟨(hh.push { cls := .type "tuple", data := .seq [u2].toArray }).update a (Obj.mapFields (·.setIfInBounds 0 (.ref hh.objs.size))), g, d, tk, os⟩ := by
    refine I2.write (x := a) (e := a) (t' := tk) (by rw [ea]; exact True.intro) (.inl rfl) (fun b u nb q => ?_) ⟨_, g2⟩ ?_
    · exact (Heap.get?_update_other _ _ (Ne.symm nb)).trans (Heap.get?_push_of_some _ q)
    · exact exN_ok g2 ((Obj.cls_mapFields _ _).trans o2) ((dict_mf _ _).trans o3) d1
  rw [upd_id ea] at J
  exact ⟨.non, H2, J, rfl, q2⟩
/-! ### e.x of an error that was caught -/
def tExF (K : Frag) (ta : TE) (x : Str) : TE := fun σ H Q => ta σ H fun z H1 => ∃ a C P f dx fs v, z = .ref a ∧ H1 a = some (excD a C (some dx)) ∧ H1 dx = some (xdE dx fs) ∧ ExF K C P f x ∧ fs.lookup x = some v ∧ Q v H1
theorem pe_exf {e : Expr} {ta : TE} (he : PE X e ta) (hb : attributeBase e x X.env (eval e X.env) = eval e X.env) : PE X (.Attribute e x pos) (tExF X.K ta x) := by
  intro pins s σ H Q I h
  refine attr_of hb (thn (he pins s σ H _ I h) fun u s1 ⟨z, H1, I1, rx, a, C, P, f, dx, fs, v, ez, ea, ed, F, l, q⟩ => ?_)
  subst ez
  obtain rfl : u = Value.ref a := rx
  obtain ⟨⟨ob, O, od, us, ou⟩, _⟩ := I1.hok _ _ ea
  obtain ⟨⟨mA, n1, r1, _⟩, _⟩ := I1.hok _ _ ed
  obtain ⟨w', hw, rw'⟩ := RelO.some_of (by rw [← l]; exact r1 x)
  unfold getAttr
  refine wpAny_bind (wpAny_mkText ?_)
  have I2 := I1.tok (s1.toks + 1)
  obtain ⟨hh, g, d, tk, os⟩ := s1
  exact exi_get_by I1.kIn (clsI_of I1.kIn F.i.xi) F.i.k F.nn O od ou n1.ns hw (handed_of rw') ⟨v, H1, I2, rw', q⟩
end
end L2

namespace L2
open PySem PySem.Spec PyProof.Rows PySem.W
/-! ### f-strings -/
/-- what stands in an f-string for a value -/
def FmtV : V → Str → Prop
  | .int i, x => i.natAbs.log2 < 1920 ∧ x = (toString i : String)
  | .str y, x => y.length ≤ sizeLine ∧ x = y
  | .non, x => x = "None"
  | _, _ => False
def tFmt (ta : TE) : TE := fun σ H Q => ta σ H fun v H1 => ∃ x, FmtV v x ∧ Q (.str x) H1
abbrev TJ := Str → St → Hp → (Str → Hp → Prop) → Prop
/-- the parts of an f-string, behind what was joined so far -/
def PJ (X : Cx) (es : List Expr) (t : TJ) : Prop :=
  ∀ (acc : Str) (pins : List (Addr × Obj)) (s : Shared) (σ : St) (H : Hp) (Q : Str → Hp → Prop), Inv X pins σ H s → t acc σ H Q → wpAny (model X.prog X.w) X.A (joinParts acc (evalEach es X.env)) (EP X pins σ fun v H' => ∃ x, v = .str x ∧ Q x H') X.xe s
def jNil : TJ := fun acc _ H Q => acc.length ≤ sizeLine ∧ Q acc H
def jCons (te : TE) (tr : TJ) : TJ := fun acc σ H Q => te σ H fun v H1 => ∃ x, v = .str x ∧ (acc ++ x).length ≤ sizeLine ∧ tr (acc ++ x) σ H1 Q
def tJoin (t : TJ) : TE := fun σ H Q => t Str.empty σ H fun x H' => Q (.str x) H'
section
variable {X : Cx} {value e e' : Expr} {es : List Expr} {ta te : TE} {tr t : TJ} {pos : Pos}
theorem pe_fmt (ha : PE X value ta) : PE X (.FormattedValue value (-1) none pos) (tFmt ta) := by
  intro pins s σ H Q I h
  refine FormattedValue_plain (thn (ha pins s σ H _ I h) fun u s1 ⟨v, H1, I1, rv, x, fx, q⟩ => ?_)
  cases v with
  | int i =>
    obtain ⟨t, rfl⟩ := rv
    obtain ⟨hl, rfl⟩ := fx
    exact formatField_int_small hl ⟨.str _, H1, I1.tok _, ⟨_, rfl⟩, q⟩
  | str y =>
    obtain ⟨t, rfl⟩ := rv
    obtain ⟨hl, rfl⟩ := fx
    exact formatField_str (fun t' tk => ⟨.str x, H1, I1.tok _, ⟨_, rfl⟩, q⟩) hl
  | non =>
    cases rv
    cases fx
    exact wpAny_formatField_none ⟨.str _, H1, I1.tok _, ⟨_, rfl⟩, q⟩
  | bl _ => exact fx.elim
  | byt _ => exact fx.elim
  | flt _ => exact fx.elim
  | ref _ => exact fx.elim
  | ty _ => exact fx.elim
theorem pj_nil : PJ X [] jNil := fun acc pins s σ H Q I h => joinParts_nil ⟨.str acc, H, I.tok _, ⟨_, rfl⟩, acc, rfl, h.2⟩ h.1
theorem pj_cons (he : PE X e te) (hr : PJ X es tr) : PJ X (e :: es) (jCons te tr) := by
  intro acc pins s σ H Q I h
  show wpAny _ _ (joinParts acc (eval e X.env :: evalEach es X.env)) _ _ _
  refine joinParts_cons (thn (he pins s σ H _ I h) fun u s1 ⟨v, H1, I1, rv, x, ev, hz, q⟩ => ?_)
  subst ev
  obtain ⟨t, rfl⟩ := rv
  exact ⟨hz, hr _ pins s1 σ H1 Q I1 q⟩
theorem pe_join (h : PJ X (e :: e' :: es) t) : PE X (.JoinedStr (e :: e' :: es) pos) (tJoin t) := by
  intro pins s σ H Q I hw
  refine JoinedStr_many (thn (h _ pins s σ H _ I hw) fun u s1 ⟨v, H1, I1, rv, x, ev, q⟩ => ?_)
  subst ev
  exact ⟨.str x, H1, I1, rv, q⟩
end
end L2

namespace L2
open PySem PySem.Spec PyProof.Rows PySem.W
/-! ### over a text, sign by sign -/
def Its (x : Str) : It := ⟨fun i _ => ∃ c, x.cps[i]? = some c, fun i H v H' => H' = H ∧ ∃ c, x.cps[i]? = some c ∧ v = .str ⟨#[c]⟩, fun i _ => x.cps[i]? = none⟩
theorem turn_str {P : Program} {w : World} {K : Frag} {tg : Expr} (x : Str) (t : Tok) (it : Addr) (b : Bool) :
    Turn P w K tg (Its x) [it] it (fun i h => h.IsStrIter it (if b then "str_ascii_iterator" else "str_iterator") x t i) where
  mem := by simp
  obj := fun i h st a ha => by
    have e : a = it := by simpa using ha
    subst e
    obtain ⟨o, e, c, d⟩ := st
    exact ⟨o, e, fun v z => by rw [d] at z; cases z⟩
  keep := fun i h h' ⟨o, e, r⟩ k => ⟨o, k it (by simp) o e, r⟩
  item := by
    intro X hP hw hK hc i pins s σ H E I hf st hg
    subst hP hw hK
    obtain ⟨c, hx⟩ := hg
    obtain ⟨f0, f1, f2, f3, f4, f5⟩ := hf it (by simp)
    have go : ∀ h', h'.IsStrIter it (if b then "str_ascii_iterator" else "str_iterator") x t (i + 1) → Heap.SameBut it s.heap h' →
        ∃ u, (some (Value.str ⟨#[c]⟩ s.toks)) = some u ∧ wpAny (model X.prog X.w) X.A (letOwnedTupleGo tg (.ref it) u) (fun _ s2 => ∃ v H', Inv X pins σ H' s2 ∧ RelV v u ∧ (Its x).yld i H v H' ∧ s2.heap.IsStrIter it (if b then "str_ascii_iterator" else "str_iterator") x t (i + 1) ∧ ∀ b ∈ [it], H' b = none) E { s with heap := h', toks := s.toks + 1 } := by
      intro h' st' sb
      have I1 : Inv X pins σ H { s with heap := h', toks := s.toks + 1 } := I.turned (t' := s.toks + 1) (fun b o hb e => (sb.2 b hb).trans e) f0 f1 f3 f4 f5
      obtain ⟨o, e, cc, d⟩ := id st'
      exact ⟨_, rfl, go_of (s := { s with heap := h', toks := s.toks + 1 }) e cc d (by cases b <;> decide) ⟨.str ⟨#[c]⟩, H, I1, ⟨_, rfl⟩, ⟨rfl, c, hx, rfl⟩, st', fun b hb => (hf b hb).1⟩⟩
    cases b with
    | true => exact wpAny_pyNext_ascii_item st hx go
    | false => exact wpAny_pyNext_wide_item st hx go
  done := by
    intro X hP hw hK hc i pins s σ H E I hf st hg
    subst hP hw hK
    obtain ⟨f0, f1, f2, f3, f4, f5⟩ := hf it (by simp)
    cases b with
    | true => exact wpAny_pyNext_ascii_end (I.ok.hd hc) st hg fun h' eb => ⟨rfl, I.turned (t' := s.toks) (fun b o hb e => eb b o hb e) f0 f1 f3 f4 f5⟩
    | false => exact wpAny_pyNext_wide_end (I.ok.hd hc) st hg fun h' eb => ⟨rfl, I.turned (t' := s.toks) (fun b o hb e => eb b o hb e) f0 f1 f3 f4 f5⟩
  self := fun _ _ _ _ _ st h => by
    cases b with
    | true => exact wpAny_pyIter_striter_ascii st h
    | false => exact wpAny_pyIter_striter_wide st h
def iStr (tl : TE) : TI := fun σ H R => tl σ H fun v H1 => ∃ x, v = .str x ∧ R (Its x) H1
section
variable {X : Cx}
theorem pi_str {tg l : Expr} {tl : TE} (hl : PE X l tl) : PI X tg l (iStr tl) := by
  intro pins s σ H R I h
  refine thn (hl pins s σ H _ I h) fun v s1 ⟨y, H1, I1, r1, x, ey, q⟩ => ?_
  subst ey
  obtain ⟨t, rfl⟩ := r1
  have fin : ∀ b : Bool, PIE X pins σ tg R (.ref s1.heap.objs.size) { s1 with heap := s1.heap.push { cls := .type (if b then "str_ascii_iterator" else "str_iterator"), data := .fields #[.str x t, .int 0 0] } } := by
    intro b
    refine ⟨s1.heap.objs.size, [s1.heap.objs.size], _, _, H1, rfl, I1.kept (t' := s1.toks) fun b o e => Heap.get?_push_of_some _ e, turn_str x t _ b, ⟨_, Heap.get?_push_size _ rfl, rfl, rfl⟩, fun b hb => ?_, q⟩
    have e : b = s1.heap.objs.size := by simpa using hb
    subst e
    exact I1.fpOk (Nat.le_refl _) (I1.hok.fresh (Nat.le_refl _))
  cases ha : x.cps.all (· < 128) with
  | true => exact wpAny_pyIter_ascii ha (fin true)
  | false => exact wpAny_pyIter_wide ha (fin false)
end
/-! ### methods of texts -/
def rPart : V → List V → Hp → VK → Prop := fun z vs H Q => ∃ x y, z = .str x ∧ vs = [.str y] ∧ (y.length == 0) = false ∧ x.length ≤ sizeLine ∧ ∀ p, H p = none → Q (.ref p) (upd H p (.tup [.str (Txt.partition x y).1, .str (Txt.partition x y).2.1, .str (Txt.partition x y).2.2]))
def rSplit : V → List V → Hp → VK → Prop := fun z vs H Q => ∃ x y, z = .str x ∧ vs = [.str y] ∧ (y.length == 0) = false ∧ x.length + 2 ≤ sizeLine ∧ ∀ p, H p = none → Q (.ref p) (upd H p (.lst ((Txt.split x y).map V.str)))
section
variable {X : Cx}
end
end L2
namespace L2
open PySem PySem.Spec PyProof.Rows PySem.W
section
variable {X : Cx}
/-! ### int(text), any and all of bools, text * number -/
theorem truth_bl {prog : Program} {w : World} {A : Around} {b : Bool} {s : Shared} {Q : Bool → Shared → Prop} {E : Value → Shared → Prop} (h : Q b s) : wpAny (model prog w) A (truthy (.bool b)) Q E s := by
  cases b <;> exact wpAny_pure h
theorem range_any {bs : List Bool} : (List.range bs.length).any (fun i => bs.getD i false) = bs.any id := by
  rw [Bool.eq_iff_iff]
  simp only [List.any_eq_true, List.mem_range, id]
  constructor
  · rintro ⟨i, hi, h⟩
    exact ⟨bs[i], List.getElem_mem hi, by simpa [List.getD, hi] using h⟩
  · rintro ⟨b, hb, h⟩
    obtain ⟨i, hi, rfl⟩ := List.getElem_of_mem hb
    exact ⟨i, hi, by simpa [List.getD, hi] using h⟩
theorem range_all {bs : List Bool} : (List.range bs.length).all (fun i => bs.getD i false) = bs.all id := by
  rw [Bool.eq_iff_iff]
  simp only [List.all_eq_true, List.mem_range, id]
  constructor
  · intro h b hb
    obtain ⟨i, hi, rfl⟩ := List.getElem_of_mem hb
    simpa [List.getD, hi] using h i hi
  · intro h i hi
    simpa [List.getD, hi] using h bs[i] (List.getElem_mem hi)
/-- the walk that any and all make over a list of bools -/
theorem walk_bools {pins : List (Addr × Obj)} {σ : St} {H : Hp} {s : Shared} (I : Inv X pins σ H s) (hc : X.calm = true) {p : Addr} {bs : List Bool} (hq : SqL X.K H p (bs.map V.bl)) {E : Value → Shared → Prop} {k : (Nat → Bool) → Nat → Bool} {Q : VK} (q : Q (.bl (k (fun i => bs.getD i false) bs.length)) H) :
    wpAny (model X.prog X.w) X.A.in1 (pyIter (.ref p)) (fun it s₂ => ∃ J fp wr n P St tr, it = .ref J ∧ Walks X.prog X.w X.A.in1 J fp wr n P St ∧ St 0 s₂.heap ∧ TruthOf X.prog X.w X.A.in1 P tr ∧
      ∀ h' tk, (∀ b o, b ∉ wr → s₂.heap.get? b = some o → h'.get? b = some o) → EP X pins σ Q (.bool (k tr n)) { s₂ with heap := h', toks := tk }) E s := by
  obtain ⟨its, rv, pl, hz⟩ := I.list hq
  have hl := rv.length
  rw [List.length_map] at hl
  have ne : p ≠ s.heap.objs.size := by
    obtain ⟨o, n, e, _⟩ := pl
    exact Nat.ne_of_lt (Heap.lt_size e)
  refine wpAny_pyIter_list pl.isList ?_
  have keep : ∀ b o, s.heap.get? b = some o → (s.heap.push { cls := .type "list_iterator", data := .fields #[.ref p, .int 0 0] }).get? b = some o := fun b o e => Heap.get?_push_of_some _ e
  refine ⟨s.heap.objs.size, _, _, _, _, _, fun i => bs.getD i false, rfl, Walks.list (A := X.A.in1) (show X.A.in1.handled = none from I.ok.hd hc) s.heap.objs.size p ne its.toArray, ⟨⟨_, Heap.get?_push_size _ rfl, rfl, rfl⟩, pl.isList.at fun o e => keep p o e⟩, ?_, ?_⟩
  · intro i v s' Q' E' hv hQ
    have hv' : its[i]? = some v := by simpa using hv
    have hi : i < bs.length := by rw [hl]; exact (List.getElem?_eq_some_iff.mp hv').1
    obtain ⟨u, hu, ru⟩ := rv.get (show (bs.map V.bl)[i]? = some (.bl bs[i]) by simp [hi])
    rw [hv'] at hu
    cases hu
    cases ru
    have e : bs.getD i false = bs[i] := by simp [List.getD, hi]
    dsimp only at hQ
    rw [e] at hQ
    exact truth_bl hQ
  · intro h' tk kp
    have J : Inv X pins σ H { s with heap := h', toks := tk } := I.kept (t' := tk) fun b o e => kp b o (by
      have lt := Heap.lt_size e
      intro z
      have z' : b = s.heap.objs.size := by simpa using z
      rw [z'] at lt
      exact Nat.lt_irrefl _ lt) (keep b o e)
    have es : its.toArray.size = bs.length := by rw [List.size_toArray]; omega
    rw [es]
    exact ⟨.bl _, H, J, rfl, q⟩
theorem call_allB (hc : X.calm = true) : CallR X (.builtin "all") (fun xs H Q => ∃ p, ∃ bs : List Bool, xs = [.ref p] ∧ SqL X.K H p (bs.map V.bl) ∧ Q (.bl (bs.all id)) H) := by
  intro pins s σ H xs us Q I r h
  obtain ⟨p, bs, rfl, hq, q⟩ := h
  obtain ⟨u, rfl, rx⟩ := vals1 r
  cases rx
  exact call_all_walk (walk_bools I hc hq (k := fun tr n => (List.range n).all tr) (by rw [range_all]; exact q))
/-! ### text * number, text[a:b] -/
theorem sl_str : SlR X (fun x lo hi H Q => ∃ a, x = .str a ∧ a.length ≤ sizeLine ∧ Q (.str (Txt.slice a lo hi)) H) := by
  intro pins s σ H x v vl vu lo hi sl Q I rx hs pl pu h
  obtain ⟨a, rfl, hz, q⟩ := h
  obtain ⟨t, rfl⟩ := rx
  refine ⟨"str", _, PySem.F.slot_str_getitem.lookup, typeIs_str _ _ _, ?_⟩
  have fin : ∀ t' k, EP X pins σ Q (.str (Txt.slice a lo hi) t') { s with toks := k } := fun t' k => ⟨.str _, H, I.tok _, ⟨_, rfl⟩, q⟩
  cases pl with
  | none => cases pu with
    | none => exact wpAny_getItem_str_slice (l := none) (u := none) (st := none) hs rfl (post_val_or_str ⟨Nat.le_trans (Txt.slice_le a _ _) hz, fin⟩)
    | int j tj => exact wpAny_getItem_str_slice (l := none) (u := some (j, tj)) (st := none) hs rfl (post_val_or_str ⟨Nat.le_trans (Txt.slice_le a _ _) hz, fin⟩)
  | int i ti => cases pu with
    | none => exact wpAny_getItem_str_slice (l := some (i, ti)) (u := none) (st := none) hs rfl (post_val_or_str ⟨Nat.le_trans (Txt.slice_le a _ _) hz, fin⟩)
    | int j tj => exact wpAny_getItem_str_slice (l := some (i, ti)) (u := some (j, tj)) (st := none) hs rfl (post_val_or_str ⟨Nat.le_trans (Txt.slice_le a _ _) hz, fin⟩)
/-! ### a list against the empty one -/
end
end L2

/-! texts of figures, and of amounts, as lists of codes -/
namespace TM
open PySem PySem.NumText
/-- the figures of a number -/
def dg (n : Nat) : List Nat := (Nat.toDigits 10 n).map Char.toNat
/-- figures without a nought ahead of others -/
structure Fig (cs : List Nat) : Prop where
  ne : cs ≠ []
  len : cs.length ≤ 60
  all : AllDigits cs
  no : cs.head? = some 48 → cs.length = 1
/-- the text L writes the amount t / b -/
def Reads (L : List Nat) (t b : Nat) : Prop :=
  (Fig L ∧ t = digitsVal L ∧ b = 1) ∨ ∃ p q, L = p ++ 47 :: q ∧ Fig p ∧ Fig q ∧ t = digitsVal p ∧ b = digitsVal q ∧ 2 ≤ b ∧ Nat.gcd t b = 1
def showL (t b : Nat) : List Nat := if b = 1 then dg t else dg t ++ 47 :: dg b
end TM
namespace TM
open PySem PySem.StrLaws PySem.Builtin PySem.Builtin.Str
abbrev cps (x : Str) : List Nat := x.cps.toList
abbrev sl : Str := ⟨#[47]⟩
theorem cps_append' (x y : Str) : cps (x ++ y) = cps x ++ cps y := by
  show (x.cps ++ y.cps).toList = _
  rw [Array.toList_append]
end TM

namespace L2
open PySem PySem.Spec PyProof.Rows PySem.W
def rCount : V → List V → Hp → VK → Prop := fun x vs H Q => ∃ l xs y, x = .ref l ∧ vs = [y] ∧ H l = some (.lst xs) ∧ flatV y = true ∧ xs.all flatV = true ∧ Q (.int ((xs.countP fun z => eqV z y : Nat) : Int)) H
def rIndex : V → List V → Hp → VK → Prop := fun x vs H Q => ∃ l xs y, ∃ j : Nat, ∃ z, x = .ref l ∧ vs = [y] ∧ H l = some (.lst xs) ∧ flatV y = true ∧ xs.all flatV = true ∧ xs[j]? = some z ∧ eqV z y = true ∧
  (∀ m z, m < j → xs[m]? = some z → eqV z y = false) ∧ Q (.int (j : Int)) H
section
variable {X : Cx}
end
def Nx (n i : Nat) (P : Prop) : Prop := ∃ m', m' < n - i ∧ m' = n - (i + 1) ∧ i + 1 ≤ n ∧ P
theorem Nx.mk {n i : Nat} {P : Prop} (h : i < n) (p : P) : Nx n i P := ⟨n - (i + 1), by omega, rfl, h, p⟩
theorem blkN_none {X : Cx} {scope : Scope} {N' : List Str} {cl : List (Str × Addr)} {σ : St} : BlkN X N' scope cl σ (List.replicate N'.length none) := by
  refine ⟨by simp, fun i x v h1 h2 => ?_⟩
  rw [List.getElem?_replicate] at h2
  split at h2 <;> cases h2
/-- over the signs of a text -/
theorem comp_str {D : Addr} {x : Str} {g : TG} {tt : TT} {te : TE} {σ0 : St} {QD : Hp → Prop} {H1 : Hp} (Pv : Nat → List V → Hp → Prop) (h0 : Pv 0 [] (upd H1 D (.lst [])))
    (hl : ∀ i ys H, i ≤ x.cps.toList.length → Pv i ys H → H D = some (.lst ys) ∧ ys.length < sizeLine)
    (hs : ∀ i c ys H, x.cps.toList[i]? = some c → Pv i ys H → g (.str ⟨#[c]⟩) σ0 H fun σ2 H2 => Keep σ0 σ2 ∧ tt σ2 H2 fun b H3 => if b = true then te σ2 H3 fun y H4 => H4 D = some (.lst ys) ∧ Nx x.cps.toList.length i (Pv (i + 1) (ys ++ [y]) (upd H4 D (.lst (ys ++ [y])))) else Nx x.cps.toList.length i (Pv (i + 1) ys H3))
    (hd : ∀ ys H, Pv x.cps.toList.length ys H → QD H) :
    ∃ W : Nat → Nat → List V → Hp → Prop, (∃ m, W 0 m [] (upd H1 D (.lst []))) ∧
      ∀ i m ys H, W i m ys H → H D = some (.lst ys) ∧ ys.length < sizeLine ∧
        (((Its x).stop i H ∧ QD H) ∨ ((Its x).go i H ∧ ∀ v H', (Its x).yld i H v H' → g v σ0 H' fun σ2 H2 => Keep σ0 σ2 ∧ tt σ2 H2 fun b H3 =>
          if b = true then te σ2 H3 fun y H4 => H4 D = some (.lst ys) ∧ ∃ m', m' < m ∧ W (i + 1) m' (ys ++ [y]) (upd H4 D (.lst (ys ++ [y]))) else ∃ m', m' < m ∧ W (i + 1) m' ys H3)) := by
  refine ⟨fun i m ys H => m = x.cps.toList.length - i ∧ i ≤ x.cps.toList.length ∧ Pv i ys H, ⟨x.cps.toList.length, by simp, Nat.zero_le _, h0⟩, ?_⟩
  rintro i m ys H ⟨rfl, hi, p⟩
  obtain ⟨hD, hz⟩ := hl i ys H hi p
  refine ⟨hD, hz, ?_⟩
  by_cases hlt : i < x.cps.toList.length
  · have e : x.cps[i]? = some x.cps.toList[i] := by rw [← Array.getElem?_toList]; exact List.getElem?_eq_getElem hlt
    refine .inr ⟨⟨_, e⟩, fun v H' y => ?_⟩
    obtain ⟨rfl, c, hc, rfl⟩ := y
    exact hs i c ys _ (by rw [Array.getElem?_toList]; exact hc) p
  · have e : i = x.cps.toList.length := by omega
    subst e
    refine .inl ⟨?_, hd ys H p⟩
    show x.cps[x.cps.toList.length]? = none
    rw [← Array.getElem?_toList]
    exact List.getElem?_eq_none (Nat.le_refl _)
end L2

namespace L2
open PySem PySem.Spec PyProof.Rows
/-! ### an empty dict, of which it is only known that it is one -/
def dcE (a : Addr) : HO := .ext fun h => ∃ o, h.get? a = some o ∧ o.cls = .type "dict"
def tDict0 : TE := fun _ H Q => ∀ p, H p = none → Q (.ref p) (upd H p (dcE p))
section
variable {X : Cx} {pos : Pos}
/-- isinstance against a built-in type, a dict among the things that are asked -/
def IsiD (K : PySem.W.Frag) (H : Hp) (v : V) (T : String) (b : Bool) : Prop := Isi K H v T b ∨ ∃ a, v = .ref a ∧ H a = some (dcE a) ∧ T = "str" ∧ b = false
theorem call_isiZ : CallR X (.builtin "isinstance") (fun xs H Q => ∃ x T b, xs = [x, .ty T] ∧ IsiD X.K H x T b ∧ Q (.bl b) H) := by
  intro pins s σ H xs us Q I r h
  obtain ⟨x, T, b, rfl, hi | ⟨a, rfl, hH, rfl, rfl⟩, q⟩ := h
  · exact call_isi pins s σ H _ us Q I r ⟨x, T, b, rfl, hi, q⟩
  · obtain ⟨u, w', rfl, rx, ry⟩ := vals2 r
    cases ry
    cases rx
    obtain ⟨⟨o, e, c⟩, _⟩ := I.hok a _ hH
    exact IsiPair.dict_str e c ⟨.bl false, H, I.tok _, rfl, q⟩
end
end L2

namespace L2
open PySem PySem.Spec PyProof.Rows
/-! ### == and != of lists -/
def rEqL (K : PySem.W.Frag) : R2 := fun x y H Q => ∃ a b xs ys, ∃ e : Nat → Bool, x = .ref a ∧ y = .ref b ∧ SqL K H a xs ∧ SqL K H b ys ∧ (∀ (j : Nat) x y, xs[j]? = some x → ys[j]? = some y → DEq K H 40 x y (e j)) ∧
  Q (.bl ((List.range (min xs.length ys.length)).all e && xs.length == ys.length)) H
def rNeL (K : PySem.W.Frag) : R2 := fun x y H Q => ∃ a b xs ys, ∃ e : Nat → Bool, x = .ref a ∧ y = .ref b ∧ SqL K H a xs ∧ SqL K H b ys ∧ (∀ (j : Nat) x y, xs[j]? = some x → ys[j]? = some y → DEq K H 40 x y (e j)) ∧
  Q (.bl (!((List.range (min xs.length ys.length)).all e && xs.length == ys.length))) H
section
variable {X : Cx}
theorem op_eqL (hu : X.A.units + 64 < cLine) : OpR X (compareOp .Eq) (rEqL X.K) := by
  intro pins s σ H x y v u Q I rx ry h
  obtain ⟨a, b, xs, ys, e, rfl, rfl, hx, hy, hd, q⟩ := h
  cases rx; cases ry
  exact lsts_at I hx hy (by omega) (fun j x y u v h1 h2 r1 r2 => (hd j x y h1 h2).at I (by show X.A.units + 1 + 40 < cLine; omega) r1 r2) X.prog X.w X.xe _ ⟨.bl _, H, I, rfl, q⟩
theorem nels_at {pins : List (Addr × Obj)} {σ : St} {H : Hp} {s : Shared} (I : Inv X pins σ H s) {A : Around} {a b : Addr} {xs ys : List V} {e : Nat → Bool} (hx : SqL X.K H a xs) (hy : SqL X.K H b ys) (hu : A.units < cLine)
    (hd : ∀ (j : Nat) x y u v, xs[j]? = some x → ys[j]? = some y → RelV x u → RelV y v → SeqAt.EqAt A.in1 s u v (e j)) :
    SeqAt.RcNeAt A s (.ref a) (.ref b) (!((List.range (min xs.length ys.length)).all e && xs.length == ys.length)) := by
  obtain ⟨its, r, tx, _⟩ := I.list hx
  obtain ⟨its', r', ty, _⟩ := I.list hy
  have l1 := r.length
  have l2 := r'.length
  by_cases hl : xs.length = ys.length
  · have q := SeqAt.RcNeAt.lists (A := A) (e := e) (isList_of tx) (isList_of ty) (by rw [List.size_toArray, List.size_toArray]; omega) hu (fun j h1 h2 => ?_)
    · rw [List.size_toArray, ← l1] at q
      have e1 : ((List.range (min xs.length ys.length)).all e && xs.length == ys.length) = (List.range xs.length).all e := by
        rw [← hl, Nat.min_self, beq_self_eq_true, Bool.and_true]
      rw [e1]
      exact q
    · rw [List.size_toArray] at h1 h2
      obtain ⟨x, hxj⟩ : ∃ x, xs[j]? = some x := ⟨_, List.getElem?_eq_getElem (by omega)⟩
      obtain ⟨y, hyj⟩ : ∃ y, ys[j]? = some y := ⟨_, List.getElem?_eq_getElem (by omega)⟩
      obtain ⟨u1, hu1, ru1⟩ := r.get hxj
      obtain ⟨u2, hu2, ru2⟩ := r'.get hyj
      have e1 : its.toArray[j] = u1 := by
        have := (List.getElem?_eq_some_iff.mp hu1).2
        simpa using this
      have e2 : its'.toArray[j] = u2 := by
        have := (List.getElem?_eq_some_iff.mp hu2).2
        simpa using this
      rw [e1, e2]
      exact hd j x y u1 u2 hxj hyj ru1 ru2
  · have q := SeqAt.RcNeAt.lists_lengths (A := A) (isList_of tx) (isList_of ty) (by rw [List.size_toArray, List.size_toArray, ← l1, ← l2, bne_iff_ne]; exact hl) hu
    have e1 : ((List.range (min xs.length ys.length)).all e && xs.length == ys.length) = false := by
      rw [beq_eq_false_iff_ne.mpr hl, Bool.and_false]
    rw [e1]
    exact q
theorem op_neL (hu : X.A.units + 64 < cLine) : OpR X (compareOp .NotEq) (rNeL X.K) := by
  intro pins s σ H x y v u Q I rx ry h
  obtain ⟨a, b, xs, ys, e, rfl, rfl, hx, hy, hd, q⟩ := h
  cases rx; cases ry
  exact nels_at I hx hy (by omega) (fun j x y u v h1 h2 r1 r2 => (hd j x y h1 h2).at I (by show X.A.units + 1 + 40 < cLine; omega) r1 r2) X.prog X.w X.xe _ ⟨.bl _, H, I, rfl, q⟩
end
/-- a value that equals itself at sight -/
def Sf (v : V) : Prop := flatV v = true ∨ ∃ a, v = .ref a
theorem eqV_self {v : V} (h : flatV v = true) : eqV v v = true := by
  cases v <;> simp_all [flatV, eqV]
theorem DEq.self {K : PySem.W.Frag} {H : Hp} {n : Nat} {v : V} (h : Sf v) : DEq K H n v v true := by
  rcases h with h | ⟨a, rfl⟩
  · have := DEq.flat (K := K) (H := H) (n := n) h h
    rwa [eqV_self h] at this
  · exact .same
theorem all_true (n : Nat) (m : Nat) (h : n = m) : ((List.range (min n m)).all (fun _ => true) && n == m) = true := by
  subst h
  rw [beq_self_eq_true, Bool.and_true, List.all_eq_true]
  exact fun _ _ => rfl
/-- two lists of the same things -/
def rNeLs (K : PySem.W.Frag) : R2 := fun x y H Q => ∃ a b xs, x = .ref a ∧ y = .ref b ∧ SqL K H a xs ∧ SqL K H b xs ∧ (∀ v ∈ xs, Sf v) ∧ Q (.bl false) H
theorem op_neLs {X : Cx} (hu : X.A.units + 64 < cLine) : OpR X (compareOp .NotEq) (rNeLs X.K) := by
  intro pins s σ H x y v u Q I rx ry h
  obtain ⟨a, b, xs, rfl, rfl, hx, hy, hd, q⟩ := h
  refine op_neL hu pins s σ H _ _ v u Q I rx ry ⟨a, b, xs, xs, fun _ => true, rfl, rfl, hx, hy, fun j x y h1 h2 => ?_, ?_⟩
  · rw [h1] at h2
    cases h2
    exact DEq.self (hd _ (List.mem_of_getElem? h1))
  · rw [all_true _ _ rfl]
    exact q
end L2

namespace L2
open PySem PySem.Spec PyProof.Rows
/-! ### the tuples stay -/
def Tk (H H' : Hp) : Prop := ∀ b ys, H b = some (.tup ys) → H' b = some (.tup ys)
theorem Same.tk {H H' : Hp} (s : Same H H') : Tk H H' := fun b ys e => s b _ e
theorem Tk.lst {H : Hp} {l : Addr} {xs : List V} {o : HO} (h : H l = some (.lst xs)) : Tk H (upd H l o) := fun b ys e => by
  have ne : b ≠ l := fun z => by rw [z, h] at e; cases e
  rw [upd_ne ne]
  exact e
theorem sz1000 {n : Nat} (h : n ≤ 1000) : n ≤ sizeLine := Nat.le_trans h (by decide)
/-! ### displays of many elements -/
def starFree : Expr → Bool
  | .Starred .. => false
  | _ => true
end L2

namespace L2
open PySem PySem.Spec PyProof.Rows
/-! ### what a value tells: flat things, and tuples of such, at any depth -/
inductive Dt where
  | i (n : Int)
  | s (x : Str)
  | b (k : Bool)
  | n
  | t (l : List Dt)
/-- a tuple that nothing changes: one of the heap, or of the module -/
def SqZ (K : PySem.W.Frag) (H : Hp) (a : Addr) (xs : List V) : Prop := H a = some (.tup xs) ∨ ∃ (o : Obj) (its : Array Value) (n : Nat), K.lookup a = some o ∧ o.cls = .type "tuple" ∧ o.data = .seq its n ∧ its.size ≤ sizeLine ∧ Vals xs its.toList
inductive Dv (K : PySem.W.Frag) (H : Hp) : Nat → V → Dt → Prop where
  | i {n m} : Dv K H n (.int m) (.i m)
  | s {n x} : Dv K H n (.str x) (.s x)
  | b {n k} : Dv K H n (.bl k) (.b k)
  | n {n} : Dv K H n .non .n
  | t {n a xs ds} : SqZ K H a xs → xs.length = ds.length → (∀ (j : Nat) x d, xs[j]? = some x → ds[j]? = some d → Dv K H n x d) → Dv K H (n + 1) (.ref a) (.t ds)
/-- lists of such things -/
def DL (K : PySem.W.Frag) (H : Hp) (n : Nat) (xs : List V) (ds : List Dt) : Prop := xs.length = ds.length ∧ ∀ (j : Nat) x d, xs[j]? = some x → ds[j]? = some d → Dv K H n x d
/-- the same list of things, told twice -/
def rEqDL (K : PySem.W.Frag) : R2 := fun x y H Q => ∃ a b xs ys ds, x = .ref a ∧ y = .ref b ∧ SqL K H a xs ∧ SqL K H b ys ∧ DL K H 40 xs ds ∧ DL K H 40 ys ds ∧ Q (.bl true) H
def rNeDL (K : PySem.W.Frag) : R2 := fun x y H Q => ∃ a b xs ys ds, x = .ref a ∧ y = .ref b ∧ SqL K H a xs ∧ SqL K H b ys ∧ DL K H 40 xs ds ∧ DL K H 40 ys ds ∧ Q (.bl false) H
def rEqDT (K : PySem.W.Frag) : R2 := fun x y H Q => ∃ a b xs ys ds, x = .ref a ∧ y = .ref b ∧ SqT K H a xs ∧ SqT K H b ys ∧ DL K H 40 xs ds ∧ DL K H 40 ys ds ∧ Q (.bl true) H
def rNeDT (K : PySem.W.Frag) : R2 := fun x y H Q => ∃ a b xs ys ds, x = .ref a ∧ y = .ref b ∧ SqT K H a xs ∧ SqT K H b ys ∧ DL K H 40 xs ds ∧ DL K H 40 ys ds ∧ Q (.bl false) H
section
variable {X : Cx}
end
end L2

namespace L2
open PySem PySem.Spec PyProof.Rows
/-! ### a comprehension that takes names over -/
theorem closure_go {env : Env} : ∀ (names : List (Str × NameKind)) (acc : List (Str × Addr)), (∀ y ∈ names, y.2 = NameKind.free → ∃ c, env.cells.lookup y.1 = some c) → (∀ x c, acc.lookup x = some c → env.cells.lookup x = some c) →
    ∃ cl, (forIn (m := Sem) names acc (fun x r => do if (x.2 == NameKind.free) = true then do let c ← cellOf env x.1; pure (ForInStep.yield ((x.1, c) :: r)) else pure (ForInStep.yield r))) = pure cl ∧
      (∀ x c, cl.lookup x = some c → env.cells.lookup x = some c) ∧ (∀ y ∈ names, y.2 = NameKind.free → ∃ c, cl.lookup y.1 = some c) ∧ ∀ x, (∃ c, acc.lookup x = some c) → ∃ c, cl.lookup x = some c
  | [], acc, _, h2 => ⟨acc, rfl, h2, (fun y hy => by simp at hy), fun _ h => h⟩
  | y :: r, acc, h1, h2 => by
    by_cases e : y.2 = NameKind.free
    · obtain ⟨c, hc⟩ := h1 y List.mem_cons_self e
      obtain ⟨cl, e1, e2, e3, e4⟩ := closure_go r ((y.1, c) :: acc) (fun z hz => h1 z (List.mem_cons_of_mem _ hz)) (fun x d hx => by
        rw [List.lookup_cons] at hx
        split at hx
        · rename_i hb
          have : x = y.1 := eq_of_beq hb
          rw [this, hc]
          exact hx
        · exact h2 x d hx)
      refine ⟨cl, ?_, e2, fun z hz ez => ?_, fun x hx => e4 x ?_⟩
      · rw [List.forIn_cons, if_pos (by rw [e]; rfl)]
        unfold cellOf
        rw [hc]
        simp only [pure_bind]
        exact e1
      · rcases List.mem_cons.mp hz with rfl | hz
        · exact e4 z.1 ⟨c, by rw [List.lookup_cons, beq_self_eq_true]⟩
        · exact e3 z hz ez
      · obtain ⟨d, hd⟩ := hx
        rw [List.lookup_cons]
        split
        · exact ⟨c, rfl⟩
        · exact ⟨d, hd⟩
    · obtain ⟨cl, e1, e2, e3, e4⟩ := closure_go r acc (fun z hz => h1 z (List.mem_cons_of_mem _ hz)) h2
      refine ⟨cl, ?_, e2, fun z hz ez => ?_, e4⟩
      · rw [List.forIn_cons, if_neg (by intro z; exact e (eq_of_beq z))]
        simp only [pure_bind]
        exact e1
      · rcases List.mem_cons.mp hz with rfl | hz
        · exact absurd ez e
        · exact e3 z hz ez
theorem closure_ok {scope : Scope} {env : Env} (h : ∀ y ∈ scope.names, y.2 = NameKind.free → ∃ c, env.cells.lookup y.1 = some c) :
    ∃ cl, closureFor scope env = pure cl ∧ (∀ x c, cl.lookup x = some c → env.cells.lookup x = some c) ∧ ∀ y ∈ scope.names, y.2 = NameKind.free → ∃ c, cl.lookup y.1 = some c := by
  obtain ⟨cl, e1, e2, e3, _⟩ := closure_go (env := env) scope.names [] h (fun x c e => by simp at e)
  refine ⟨cl, ?_, e2, e3⟩
  simp only [closureFor]
  rw [show (forIn (m := Sem) scope.names [] fun x r => if (x.2 == NameKind.free) = true then (do let c ← cellOf env x.1; pure (ForInStep.yield ((x.1, c) :: r))) else pure (ForInStep.yield r)) = pure cl from e1]
  rfl
theorem relabel_from {scope : Scope} {env : Env} {x : Str} (hc : ∀ y ∈ scope.names, y.2 ≠ NameKind.cell) (h : (relabel scope env).names.lookup x = some .cell ∨ (relabel scope env).names.lookup x = some .free) : ∃ y ∈ scope.names, y.1 = x ∧ y.2 = NameKind.free := by
  have e' : ∃ k, (k = NameKind.cell ∨ k = NameKind.free) ∧ (relabel scope env).names.lookup x = some k := by
    rcases h with e | e
    · exact ⟨_, .inl rfl, e⟩
    · exact ⟨_, .inr rfl, e⟩
  obtain ⟨k, hk, e⟩ := e'
  have hm := PySem.mem_of_lookup e
  obtain ⟨y, hy, hy2⟩ := List.mem_map.mp hm
  obtain ⟨n, kk⟩ := y
  have hn := hc _ hy
  simp only at hy2 hn
  split at hy2
  · rename_i hf
    injection hy2 with a1 a2
    subst a1
    simp only [Bool.and_eq_true] at hf
    exact ⟨(n, kk), hy, rfl, eq_of_beq hf.1.1⟩
  · injection hy2 with a1 a2
    subst a1 a2
    rcases hk with rfl | rfl
    · exact absurd rfl hn
    · exact ⟨_, hy, rfl, rfl⟩
theorem clOk_of {X : Cx} (ok : X.Ok) {scope : Scope} (hc : ∀ y ∈ scope.names, y.2 ≠ NameKind.cell) (h : ∀ y ∈ scope.names, y.2 = NameKind.free → X.env.kindOf y.1 = some .cell ∨ X.env.kindOf y.1 = some .free) : ∃ cl, ClOk X scope cl := by
  obtain ⟨cl, e1, e2, e3⟩ := closure_ok (scope := scope) (env := X.env) fun y hy ey => ok.has y.1 (h y hy ey)
  refine ⟨cl, e1, e2, fun x hx => ?_⟩
  obtain ⟨y, hy, rfl, ey⟩ := relabel_from hc hx
  exact e3 y hy ey
theorem pe_compC {X : Cx} {elt tg iter : Expr} {ifs : List Expr} {scope : Scope} {pos : Pos} {N' : List Str} {wi : TI} {g : TG} {tt : TT} {te : TE} (σf : St → St)
    (hc : X.calm = true) (hkind : scope.kind = .function) (hcell : ∀ y ∈ scope.names, y.2 ≠ .cell) (hnames : ∀ y ∈ scope.names, y.2 = .local → scope.names.lookup y.1 = some .local)
    (hk : ∀ y ∈ scope.names, y.2 = NameKind.free → X.env.kindOf y.1 = some .cell ∨ X.env.kindOf y.1 = some .free)
    (hN : ∀ cl (σ : St), σ.length = X.N.length → BlkN X N' scope cl σ (σf σ)) (hi : PI X tg iter wi)
    (hg : ∀ cl C s₀ H₀ ex pn, PG (blk X N' scope cl C s₀ H₀ ex pn) tg g) (ht : ∀ cl C s₀ H₀ ex pn, PIfs (blk X N' scope cl C s₀ H₀ ex pn) ifs tt) (he : ∀ cl C s₀ H₀ ex pn, PE (blk X N' scope cl C s₀ H₀ ex pn) elt te)
    (hs : ∀ x, foldedSetIterable iter X.env x = pure x := by intro _; rfl) : PE X (.ListComp elt [⟨tg, iter, ifs, 0⟩] scope pos) (tComp σf wi g tt te) := by
  intro pins s σ H Q I h
  obtain ⟨cl, hcl⟩ := clOk_of I.ok hcell hk
  exact pe_comp σf hc hkind hcell hnames hcl (hN cl) hi (hg cl) (ht cl) (he cl) hs pins s σ H Q I h
/-- the names that are taken over: free in the block, cells of the frame -/
theorem hk_of {X : Cx} {scope sc : Scope} (hs : X.env.scope = sc) (h : (scope.names.all fun y => y.2 != NameKind.free || sc.names.lookup y.1 == some NameKind.cell || sc.names.lookup y.1 == some NameKind.free) = true) :
    ∀ y ∈ scope.names, y.2 = NameKind.free → X.env.kindOf y.1 = some .cell ∨ X.env.kindOf y.1 = some .free := fun y hy ey => by
  have q := List.all_eq_true.mp h y hy
  unfold Env.kindOf
  rw [hs]
  rw [ey] at q
  simp only [bne_self_eq_false, Bool.false_or, Bool.or_eq_true] at q
  rcases q with q | q
  · exact .inl (eq_of_beq q)
  · exact .inr (eq_of_beq q)
theorem lookup_relabel_free {env : Env} {x : Str} (hk : env.scope.kind = .function) (hx : env.kindOf x = some .cell) : ∀ {names : List (Str × NameKind)}, names.lookup x = some .free →
    (names.map fun (n, k) => if (k == NameKind.free && env.scope.kind == .function && env.kindOf n == some .cell) then (n, NameKind.cell) else (n, k)).lookup x = some .cell
  | [], h => by simp at h
  | (n, k) :: r, h => by
    rw [List.map_cons]
    rw [List.lookup_cons] at h
    by_cases e : (x == n) = true
    · rw [e] at h
      have e' : x = n := eq_of_beq e
      subst e'
      have hf : k = NameKind.free := Option.some.inj h
      subst hf
      have c : (NameKind.free == NameKind.free && env.scope.kind == .function && env.kindOf x == some .cell) = true := by rw [hk, hx]; rfl
      rw [show (match ((x, NameKind.free) : Str × NameKind) with | (n, k) => if (k == NameKind.free && env.scope.kind == .function && env.kindOf n == some .cell) = true then (n, NameKind.cell) else (n, k)) = (x, NameKind.cell) from if_pos c]
      rw [List.lookup_cons, beq_self_eq_true]
    · have e0 : (x == n) = false := by simpa using e
      rw [e0] at h
      have ih := lookup_relabel_free hk hx h
      have en : ∀ q : Str × NameKind, q.1 = n → (q :: (r.map fun (n, k) => if (k == NameKind.free && env.scope.kind == .function && env.kindOf n == some .cell) then (n, NameKind.cell) else (n, k))).lookup x = some .cell := fun q hq => by
        obtain ⟨q1, q2⟩ := q
        simp only at hq
        subst hq
        rw [List.lookup_cons, e0]
        exact ih
      refine en _ ?_
      show (if _ then (n, NameKind.cell) else (n, k)).1 = n
      split <;> rfl
theorem blkN_by {X : Cx} {N' N : List Str} {scope sc : Scope} {cl : List (Str × Addr)} {σ : St} (ts : List (Option Nat)) (hN : X.N = N) (hsc : X.env.scope = sc) (hl : ts.length = N'.length) (hk : sc.kind = .function)
    (h : ((ts.zip N').all fun p => match p.1 with | none => true | some j => N[j]? == some p.2 && sc.names.lookup p.2 == some NameKind.cell && scope.names.lookup p.2 == some NameKind.free) = true) :
    BlkN X N' scope cl σ (ts.map fun t => t.bind fun j => (σ[j]?).join) := by
  refine ⟨by rw [List.length_map, hl], fun i x v h1 h2 => ?_⟩
  rw [List.getElem?_map] at h2
  cases ht : ts[i]? with
  | none => rw [ht] at h2; cases h2
  | some t =>
    rw [ht] at h2
    have h2' : (t.bind fun j => (σ[j]?).join) = some v := Option.some.inj h2
    cases t with
    | none => cases h2'
    | some j =>
      have hm : (some j, x) ∈ ts.zip N' := List.mem_of_getElem? (by rw [List.getElem?_zip_eq_some]; exact ⟨ht, h1⟩ : (ts.zip N')[i]? = some (some j, x))
      have q := List.all_eq_true.mp h _ hm
      simp only [Bool.and_eq_true] at q
      obtain ⟨⟨q1, q2⟩, q3⟩ := q
      have q1' := eq_of_beq q1
      have q2' := eq_of_beq q2
      have q3' := eq_of_beq q3
      have kd : X.env.kindOf x = some .cell := by
        unfold Env.kindOf
        rw [hsc]
        exact q2'
      refine ⟨j, by rw [hN]; exact q1', ?_, by rw [hsc]; exact .inr (.inl q2'), (by rw [kd]; decide), .inl (lookup_relabel_free (by rw [hsc]; exact hk) kd q3')⟩
      have h3 : (σ[j]?).join = some v := h2'
      cases hj : σ[j]? with
      | none => rw [hj] at h3; cases h3
      | some o => rw [hj] at h3; cases o with
        | none => cases h3
        | some u => cases h3; rfl
end L2

namespace L2
open PySem PySem.Spec PyProof.Rows
/-! ### name = [ .. for .. ]: the name is stored ahead of the block's end -/
theorem ps_comp {X : Cx} {iy : Nat} {y : Str} {py spos : Pos} {elt tg iter : Expr} {ifs : List Expr} {scope : Scope} {pos : Pos} {N' : List Str} {cl : List (Str × Addr)} {wi : TI} {g : TG} {tt : TT} {te : TE} (σf : St → St)
    (hc : X.calm = true) (hkind : scope.kind = .function) (hcell : ∀ y ∈ scope.names, y.2 ≠ .cell) (hnames : ∀ y ∈ scope.names, y.2 = .local → scope.names.lookup y.1 = some .local) (hcl : ClOk X scope cl)
    (hN : ∀ σ : St, σ.length = X.N.length → BlkN X N' scope cl σ (σf σ)) (hi : PI X tg iter wi)
    (hg : ∀ C s₀ H₀ ex pn, PG (blk X N' scope cl C s₀ H₀ ex pn) tg g) (ht : ∀ C s₀ H₀ ex pn, PIfs (blk X N' scope cl C s₀ H₀ ex pn) ifs tt) (he : ∀ C s₀ H₀ ex pn, PE (blk X N' scope cl C s₀ H₀ ex pn) elt te)
    (hnd : X.N.Nodup) (hiy : X.N[iy]? = some y) (hy : Loc X.env.scope y) (hfy : X.fn y = true ∨ X.env.scope.names.lookup y = some .local)
    (hsw : swapsWith (.ListComp elt [⟨tg, iter, ifs, 0⟩] scope pos) (some (.Name y py)) spos.line X.env = pure true)
    (hs : ∀ x, foldedSetIterable iter X.env x = pure x := by intro _; rfl) : PS X (.Assign [.Name y py] (.ListComp elt [⟨tg, iter, ifs, 0⟩] scope pos) spos) (tAsg (tComp σf wi g tt te) (gName iy)) := by
  intro pins s σ H Dn I h
  rw [exec_Assign_Name_used _ _ _ _ hsw]
  refine wpAny_bind (wpAny_standAt (wpAny_bind ?_))
  show wpAny _ X.A (do let _ ← comprehension (.ListComp elt [⟨tg, iter, ifs, 0⟩] scope pos) scope X.env _ (newList []) false (eval iter X.env) (some (assign (.Name y py) X.env))) _ _ s
  refine wpAny_bind (wpAny_mono (wpAny_comprehension_free (use := some (assign (.Name y py) X.env)) (Q := fun _ s' => SP X pins Dn .next s') rfl hs hcl.run hkind hnames
    (thn (hi pins s σ H _ I h) fun v s1 h1 => thn h1 fun itv s2 h2 => ?_)) (fun _ s' hq => wpAny_pure (wpAny_pure hq)) fun _ _ e => e)
  obtain ⟨it, fp, tn, J, H2, rfl, I2, T, st2, f2, q⟩ := h2
  refine wpAny_newObj_type (wpAny_newFunctionEnv hcell (by intro y hy; simp at hy) (fun h₁ hns₁ hsb₁ => ?_) hkind)
  dsimp only at hns₁ hsb₁ ⊢
  have hfo : ∀ b ∈ fp, b < s2.heap.objs.size := fun b hb => by
    obtain ⟨o, e, _⟩ := T.obj _ _ st2 b hb
    exact Heap.lt_size e
  have hDf : H2 s2.heap.objs.size = none := I2.hok.fresh (Nat.le_refl _)
  obtain ⟨W, ⟨m0, w0⟩, turn⟩ := q s2.heap.objs.size hDf
  have I3 : Inv X pins σ (upd H2 s2.heap.objs.size (.lst [])) { s2 with heap := s2.heap.push { cls := .type "list", data := .seq ([] : List Value).toArray } } := I2.lnew (its := []) (t' := s2.toks) .nil (Nat.zero_le _)
  have f3 : ∀ b ∈ fp, FpOk X pins (upd H2 s2.heap.objs.size (.lst [])) b := fun b hb => ⟨by rw [upd_ne (Nat.ne_of_lt (hfo b hb))]; exact (f2 b hb).1, (f2 b hb).2⟩
  generalize hD : s2.heap.objs.size = D at *
  generalize hs3 : ({ s2 with heap := s2.heap.push { cls := .type "list", data := .seq ([] : List Value).toArray } } : Shared) = s3 at *
  have hh3 : s3.heap = s2.heap.push { cls := .type "list", data := .seq ([] : List Value).toArray } := by rw [← hs3]
  have hsz3 : s2.heap.objs.size < s3.heap.objs.size := by rw [hh3, Heap.size_push]; exact Nat.lt_succ_self _
  have e3 : ∀ h t, ({ s2 with heap := h, toks := t } : Shared) = { s3 with heap := h, toks := t } := fun h t => by rw [← hs3]
  rw [← hh3] at hns₁ hsb₁ ⊢
  have hk3 : ∀ b o, s3.heap.get? b = some o → h₁.get? b = some o := fun b o e => hsb₁.extBut b o (Nat.ne_of_lt (Heap.lt_size e)) (Heap.get?_push_of_some _ e)
  have I4 := blk_start (t' := s3.toks) I3 hkind hcl (hN σ I.len) f3 (fun b hb => Nat.lt_trans (hfo b hb) (hD ▸ hsz3)) (hns := by simpa using hns₁) hk3
  generalize hB : blk X N' scope cl s3.heap.objs.size s3 (upd H2 D (.lst [])) fp (X.pn ++ pins) = B at *
  have hBp : B.prog = X.prog := by rw [← hB]; rfl
  have hBw : B.w = X.w := by rw [← hB]; rfl
  have hBK : B.K = X.K := by rw [← hB]; rfl
  have hBA : B.A = X.A := by rw [← hB]; rfl
  have hBc : B.calm = true := by rw [← hB]; exact hc
  have hBe : B.env = compEnvC scope cl s3.heap.objs.size X.env := by rw [← hB]; rfl
  have hBx : B.xe = fun _ _ => False := by rw [← hB]; rfl
  have hGB : PG B tg g := hB ▸ hg _ _ _ _ _
  have hTB : PIfs B ifs tt := hB ▸ ht _ _ _ _ _
  have hEB : PE B elt te := hB ▸ he _ _ _ _ _
  have stat : ∀ {H' : Hp}, (∀ b ∈ fp, H' b = none) → ∀ b ∈ fp, FpOk B [] H' b := fun {H'} hn b hb => by
    obtain ⟨f0, f1, f2', f3', f4, f5⟩ := f3 b hb
    rw [← hB]
    refine ⟨hn b hb, Nat.ne_of_lt (Nat.lt_trans (hfo b hb) (hD ▸ hsz3)), fun z => ?_, .inl hb, fun x c e => f4 x c (hcl.sub x c e), fun p hp => ?_⟩
    · rcases List.mem_cons.mp (I.stkSub b z) with z | z
      · exact f1 z
      · exact f2' z
    · rw [show (blk X N' scope cl s3.heap.objs.size s3 (upd H2 D (.lst [])) fp (X.pn ++ pins)).pn = X.pn ++ pins from rfl, List.append_nil] at hp
      exact f5 p hp
  have loop : ∀ s4 : Shared, Inv B [] (σf σ) (upd H2 D (.lst [])) s4 → tn 0 s4.heap →
      codeAny (model X.prog X.w) X.A (.compLoop (.ListComp elt [⟨tg, iter, ifs, 0⟩] scope pos) 0 (.ref it) (.ref D) (compEnvC scope cl s3.heap.objs.size X.env)) (compPost (model X.prog X.w) X.A X.xe (some (assign (.Name y py) X.env)) (fun _ s' => SP X pins Dn .next s') (.ref D) s3.heap.objs.size) s4 := by
    intro s4 I4 st4
    refine compLoop_gen (I := fun n s' => ∃ i ys H', Inv B [] (σf σ) H' s' ∧ tn i s'.heap ∧ (∀ b ∈ fp, H' b = none) ∧ W i n ys H') ?_ m0 ⟨0, [], _, I4, st4, fun b hb => (f3 b hb).1, w0⟩
    rintro n s5 ⟨i, ys, H5, I5, st5, fr5, w5⟩
    obtain ⟨hD5, hlen5, alt⟩ := turn i n ys H5 w5
    rcases alt with ⟨stop, qn⟩ | ⟨go, step⟩
    · have z := T.done B hBp hBw hBK hBc i [] s5 (σf σ) H5 (fun _ _ => False) I5 (stat fr5) st5 stop
      rw [hBA] at z
      refine thn z fun r s6 ⟨hr, I6⟩ => ?_
      subst hr
      obtain ⟨m6, hn6, _⟩ := I6.loc
      rw [hBe] at hn6
      subst hB
      have I6x : Inv X pins σ H5 s6 := blk_end I3 f3 I6 (h'' := s6.heap) ⟨rfl, fun _ _ => rfl⟩
      have fC : FpOk X pins H5 s3.heap.objs.size := I3.fpOk (Nat.le_refl _) I6.free
      obtain ⟨g0, g1, g2, g3, g4, g5⟩ := id fC
      obtain ⟨oC, es, ep, hoC, hdC, rest⟩ := hn6
      have I6p := I6x.pinned (fp := [s3.heap.objs.size]) (fun b hb => by rw [List.mem_singleton.mp hb]; exact fC) (fun b hb => ⟨oC, by rw [List.mem_singleton.mp hb]; exact hoC, fun v e => by rw [hdC] at e; cases e⟩)
      show wpAny (model X.prog X.w) X.A (assign (.Name y py) X.env (.ref D)) _ X.xe s6
      refine thn (pg_name (i := iy) (pos := py) hnd hiy hy hfy _ s6 σ H5 (.ref D) (.ref D) (fun σ' H' => Dn.nx σ' H') I6p rfl qn) fun _ s7 ⟨σ7, H7, I7, q7⟩ => ?_
      have pc := I7.pin (s3.heap.objs.size, oC) (List.mem_append_right _ (List.mem_append_right _ (mem_pinsAt (by simp) hoC)))
      refine ⟨m6, ⟨oC, es, ep, pc.1, hdC, rest⟩, fun h' hs' => ⟨σ7, H7, ?_, q7⟩⟩
      exact I7.unpinned.turned (t' := s7.toks) (fun b o hb e => hs'.extBut b o hb e) pc.2.1 g1 g3 g4 g5
    · have z := T.item B hBp hBw hBK hBc i [] s5 (σf σ) H5 (fun _ _ => False) I5 (stat fr5) st5 go
      rw [hBA] at z
      refine thn z fun r s6 ⟨u, hr, h6⟩ => ?_
      subst hr
      refine thn h6 fun _ s7 ⟨x, H7, I7, r7, y7, st7, fr7⟩ => ?_
      have I7' := I7.pinned (stat fr7) (T.obj _ _ st7)
      have z8 := hGB _ s7 (σf σ) H7 x u _ I7' r7 (step x H7 y7)
      rw [hBp, hBw, hBA, hBe, hBx] at z8
      refine thn z8 fun _ s8 ⟨σ8, H8, I8, k8, q8⟩ => ?_
      have z9 := hTB _ s8 σ8 H8 _ I8 q8
      rw [hBp, hBw, hBA, hBe, hBx] at z9
      refine thn z9 fun ok s9 ⟨H9, I9, q9⟩ => ?_
      have again : ∀ {ys' : List V} {H' : Hp} {s' : Shared}, Inv B ([] ++ pinsAt fp s7.heap) σ8 H' s' → (∃ m', m' < n ∧ W (i + 1) m' ys' H') → ∃ m, m < n ∧ ∃ i ys H', Inv B [] (σf σ) H' s' ∧ tn i s'.heap ∧ (∀ b ∈ fp, H' b = none) ∧ W i m ys H' := fun {ys' H' s'} J ⟨m', hm, w'⟩ => by
        refine ⟨m', hm, i + 1, ys', H', J.unpinned.weak k8.len.symm k8.at', T.keep _ _ _ st7 fun b hb o e => (J.pin (b, o) (List.mem_append_right _ (List.mem_append_right _ (mem_pinsAt hb e)))).1, fun b hb => ?_, w'⟩
        obtain ⟨o, e, d⟩ := T.obj _ _ st7 b hb
        exact (J.pin (b, o) (List.mem_append_right _ (List.mem_append_right _ (mem_pinsAt hb e)))).2.1
      cases ok with
      | false => exact again I9 q9
      | true =>
        have z10 := hEB _ s9 σ8 H9 _ I9 q9
        rw [hBp, hBw, hBA, hBe, hBx] at z10
        refine thn z10 fun y10 s10 ⟨y, H10, I10, r10, hD10, q10⟩ => ?_
        have z11 := mt_append (X := B) _ s10 σ8 H10 (.ref D) [y] (.ref D) [y10] (fun _ H' => ∃ m', m' < n ∧ W (i + 1) m' (ys ++ [y]) H') I10 rfl (.cons r10 .nil) ⟨D, ys, y, rfl, rfl, hD10, hlen5, q10⟩
        rw [hBp, hBw, hBA, hBx] at z11
        refine thn z11 fun _ s11 ⟨_, H11, I11, _, q11⟩ => again I11 q11
  have st4 : tn 0 ({ s3 with heap := h₁, toks := s3.toks } : Shared).heap := T.keep _ _ _ st2 fun b hb o e => hk3 b o (by rw [hh3]; exact Heap.get?_push_of_some _ e)
  have L4 := loop _ I4 st4
  subst hs3
  exact codeAny_compStart_list L4 (T.self _ 0 _ _ _ st4 L4)
theorem ps_compC {X : Cx} {iy : Nat} {y : Str} {py spos : Pos} {elt tg iter : Expr} {ifs : List Expr} {scope : Scope} {pos : Pos} {N' : List Str} {wi : TI} {g : TG} {tt : TT} {te : TE} (σf : St → St)
    (hc : X.calm = true) (hkind : scope.kind = .function) (hcell : ∀ y ∈ scope.names, y.2 ≠ .cell) (hnames : ∀ y ∈ scope.names, y.2 = .local → scope.names.lookup y.1 = some .local)
    (hk : ∀ y ∈ scope.names, y.2 = NameKind.free → X.env.kindOf y.1 = some .cell ∨ X.env.kindOf y.1 = some .free)
    (hN : ∀ cl (σ : St), σ.length = X.N.length → BlkN X N' scope cl σ (σf σ)) (hi : PI X tg iter wi)
    (hg : ∀ cl C s₀ H₀ ex pn, PG (blk X N' scope cl C s₀ H₀ ex pn) tg g) (ht : ∀ cl C s₀ H₀ ex pn, PIfs (blk X N' scope cl C s₀ H₀ ex pn) ifs tt) (he : ∀ cl C s₀ H₀ ex pn, PE (blk X N' scope cl C s₀ H₀ ex pn) elt te)
    (hnd : X.N.Nodup) (hiy : X.N[iy]? = some y) (hy : Loc X.env.scope y) (hfy : X.fn y = true ∨ X.env.scope.names.lookup y = some .local)
    (hsw : swapsWith (.ListComp elt [⟨tg, iter, ifs, 0⟩] scope pos) (some (.Name y py)) spos.line X.env = pure true)
    (hs : ∀ x, foldedSetIterable iter X.env x = pure x := by intro _; rfl) : PS X (.Assign [.Name y py] (.ListComp elt [⟨tg, iter, ifs, 0⟩] scope pos) spos) (tAsg (tComp σf wi g tt te) (gName iy)) := by
  intro pins s σ H D I h
  obtain ⟨cl, hcl⟩ := clOk_of I.ok hcell hk
  exact ps_comp σf hc hkind hcell hnames hcl (hN cl) hi (hg cl) (ht cl) (he cl) hnd hiy hy hfy hsw hs pins s σ H D I h
end L2

namespace L2
open PySem PySem.Spec PyProof.Rows
/-! ### comprehensions, by what each element is -/
/-- an iterator that gives the things xs, as long as the heap only grows -/
structure Ys (J : It) (xs : List V) (H1 : Hp) : Prop where
  go : ∀ i H, Same H1 H → i < xs.length → J.go i H
  yld : ∀ i H x H', Same H1 H → i < xs.length → J.yld i H x H' → H' = H ∧ xs[i]? = some x
  stop : ∀ i H, Same H1 H → xs.length ≤ i → J.stop i H
theorem Ys.list {K : PySem.W.Frag} {a : Addr} {xs : List V} {H1 : Hp} (h : SqL K H1 a xs) : Ys (Itl K a) xs H1 where
  go := fun i H s hi => ⟨xs, xs[i], s.seq h, List.getElem?_eq_getElem hi⟩
  yld := fun i H x H' s _ y => ⟨y.1, y.2 xs (s.seq h)⟩
  stop := fun i H s hi => ⟨xs, s.seq h, hi⟩
theorem Ys.tup {K : PySem.W.Frag} {a : Addr} {xs : List V} {H1 : Hp} (h : SqT K H1 a xs) : Ys (Itt K a) xs H1 where
  go := fun i H s hi => ⟨xs, xs[i], s.tup h, List.getElem?_eq_getElem hi⟩
  yld := fun i H x H' s _ y => ⟨y.1, y.2 xs (s.tup h)⟩
  stop := fun i H s hi => ⟨xs, s.tup h, hi⟩
def rngV (lo : Int) (n : Nat) : List V := (List.range n).map fun (i : Nat) => V.int (lo + (i : Int))
theorem rngV_len (lo : Int) (n : Nat) : (rngV lo n).length = n := by unfold rngV; rw [List.length_map, List.length_range]
theorem rngV_get {lo : Int} {n i : Nat} {x : V} (h : (rngV lo n)[i]? = some x) : i < n ∧ x = .int (lo + i) := by
  have hi : i < n := by rw [← rngV_len lo n]; exact (List.getElem?_eq_some_iff.mp h).1
  unfold rngV at h
  rw [List.getElem?_map, List.getElem?_range hi] at h
  exact ⟨hi, (Option.some.inj h).symm⟩
theorem Ys.rng {lo : Int} {n : Nat} {H1 : Hp} : Ys (Itr lo n) (rngV lo n) H1 where
  go := fun i H _ hi => by rw [rngV_len] at hi; exact hi
  yld := fun i H x H' _ hi y => ⟨y.1, by
    obtain ⟨_, rfl⟩ := y
    rw [rngV_len] at hi
    unfold rngV
    rw [List.getElem?_map, List.getElem?_range hi]
    rfl⟩
  stop := fun i H _ hi => by rw [rngV_len] at hi; exact hi
theorem snoc_get {α : Type} {ys : List α} {y z : α} {j : Nat} (h : (ys ++ [y])[j]? = some z) : (j < ys.length ∧ ys[j]? = some z) ∨ (j = ys.length ∧ z = y) := by
  by_cases hj : j < ys.length
  · rw [List.getElem?_append_left hj] at h
    exact .inl ⟨hj, h⟩
  · rw [List.getElem?_append_right (by omega)] at h
    have e0 : j - ys.length = 0 := by
      cases hz : j - ys.length with
      | zero => rfl
      | succ n => rw [hz] at h; simp at h
    rw [e0] at h
    exact .inr ⟨by omega, by simpa using h.symm⟩
theorem comp_rel {J : It} {xs : List V} {D : Addr} {g : TG} {te : TE} {σ0 : St} {QD : Hp → Prop} {H1 : Hp} (Y : Ys J xs H1) (Pr : Nat → V → V → Hp → Prop) (hP : ∀ i x y H H', Pr i x y H → Tk H H' → Pr i x y H') (hD : H1 D = none) (hl : xs.length ≤ 1000)
    (hs : ∀ i x H' (R : VK), xs[i]? = some x → Same H1 H' → (∀ y H4, Same H' H4 → Pr i x y H4 → R y H4) → g x σ0 H' fun σ2 H2 => Keep σ0 σ2 ∧ te σ2 H2 R)
    (hd : ∀ ys H', Same H1 H' → H' D = some (.lst ys) → ys.length = xs.length → (∀ i x y, xs[i]? = some x → ys[i]? = some y → Pr i x y H') → QD H') :
    ∃ W : Nat → Nat → List V → Hp → Prop, (∃ m, W 0 m [] (upd H1 D (.lst []))) ∧ ∀ i m ys H, W i m ys H → H D = some (.lst ys) ∧ ys.length < sizeLine ∧
      ((J.stop i H ∧ QD H) ∨ (J.go i H ∧ ∀ x H', J.yld i H x H' → g x σ0 H' fun σ2 H2 => Keep σ0 σ2 ∧ tNoIf σ2 H2 fun b H3 =>
        if b = true then te σ2 H3 fun y H4 => H4 D = some (.lst ys) ∧ ∃ m', m' < m ∧ W (i + 1) m' (ys ++ [y]) (upd H4 D (.lst (ys ++ [y]))) else ∃ m', m' < m ∧ W (i + 1) m' ys H3)) := by
  refine ⟨fun i m ys H => m = xs.length - i ∧ i ≤ xs.length ∧ Same H1 H ∧ H D = some (.lst ys) ∧ ys.length = i ∧ ∀ j x y, xs[j]? = some x → ys[j]? = some y → Pr j x y H,
    ⟨_, rfl, Nat.zero_le _, Same.upd hD, upd_same, rfl, fun j x y _ h => by simp at h⟩, ?_⟩
  rintro i m ys H ⟨rfl, hi, sm, hDH, yl, pr⟩
  refine ⟨hDH, small1000 (by omega), ?_⟩
  by_cases hlt : i < xs.length
  · refine .inr ⟨Y.go i H sm hlt, fun x H' y => ?_⟩
    obtain ⟨rfl, hx⟩ := Y.yld i H x H' sm hlt y
    refine hs i x H' _ hx sm fun y H4 s4 py => ?_
    have hD4 := s4 _ _ hDH
    have tk : Tk H4 (upd H4 D (.lst (ys ++ [y]))) := Tk.lst hD4
    refine ⟨hD4, xs.length - (i + 1), by omega, rfl, hlt, fun b o hb => ?_, upd_same, by rw [List.length_append, yl]; rfl, fun j x' y' hx' hy' => ?_⟩
    · rw [upd_ne (ne_of_none hb hD)]
      exact s4 _ _ (sm _ _ hb)
    · rcases snoc_get hy' with ⟨_, hy'⟩ | ⟨e, e'⟩
      · exact hP _ _ _ _ _ (hP _ _ _ _ _ (pr j x' y' hx' hy') (Same.tk s4)) tk
      · subst e'
        have : j = i := by omega
        subst this
        rw [hx] at hx'
        cases hx'
        exact hP _ _ _ _ _ py tk
  · have e : i = xs.length := by omega
    subst e
    exact .inl ⟨Y.stop _ H sm (Nat.le_refl _), hd ys H sm hDH yl pr⟩
/-! ### rules within a comprehension: the module is named, so that the reading does not hang on the block -/
/-- a comprehension with a test -/
theorem comp_filt {J : It} {xs : List V} {D : Addr} {g : TG} {tt : TT} {te : TE} {σ0 : St} {QD : Hp → Prop} {H1 : Hp} (Y : Ys J xs H1) (p : V → Bool) (Pr : V → V → Hp → Prop) (hP : ∀ x y H H', Pr x y H → Tk H H' → Pr x y H') (hD : H1 D = none) (hl : xs.length ≤ 1000)
    (hs : ∀ (i : Nat) x H' (R1 : VK) (R2 : Hp → Prop), xs[i]? = some x → Same H1 H' → (p x = true → ∀ y H4, Same H' H4 → Pr x y H4 → R1 y H4) → (p x = false → ∀ H4, Same H' H4 → R2 H4) → g x σ0 H' fun σ2 H2 => Keep σ0 σ2 ∧ tt σ2 H2 fun b H3 => if b = true then te σ2 H3 R1 else R2 H3)
    (hd : ∀ ys H', Same H1 H' → H' D = some (.lst ys) → ys.length = (xs.filter p).length → (∀ (i : Nat) x y, (xs.filter p)[i]? = some x → ys[i]? = some y → Pr x y H') → QD H') :
    ∃ W : Nat → Nat → List V → Hp → Prop, (∃ m, W 0 m [] (upd H1 D (.lst []))) ∧ ∀ i m ys H, W i m ys H → H D = some (.lst ys) ∧ ys.length < sizeLine ∧
      ((J.stop i H ∧ QD H) ∨ (J.go i H ∧ ∀ x H', J.yld i H x H' → g x σ0 H' fun σ2 H2 => Keep σ0 σ2 ∧ tt σ2 H2 fun b H3 =>
        if b = true then te σ2 H3 fun y H4 => H4 D = some (.lst ys) ∧ ∃ m', m' < m ∧ W (i + 1) m' (ys ++ [y]) (upd H4 D (.lst (ys ++ [y]))) else ∃ m', m' < m ∧ W (i + 1) m' ys H3)) := by
  refine ⟨fun i m ys H => m = xs.length - i ∧ i ≤ xs.length ∧ Same H1 H ∧ H D = some (.lst ys) ∧ ys.length = ((xs.take i).filter p).length ∧ ∀ (j : Nat) x y, ((xs.take i).filter p)[j]? = some x → ys[j]? = some y → Pr x y H,
    ⟨_, rfl, Nat.zero_le _, Same.upd hD, upd_same, rfl, fun j x y _ h => by simp at h⟩, ?_⟩
  rintro i m ys H ⟨rfl, hi, sm, hDH, yl, pr⟩
  have yl' : ys.length ≤ xs.length := by
    rw [yl]
    exact Nat.le_trans (List.length_filter_le _ _) (by rw [List.length_take]; omega)
  refine ⟨hDH, small1000 (by omega), ?_⟩
  by_cases hlt : i < xs.length
  · refine .inr ⟨Y.go i H sm hlt, fun x H' y => ?_⟩
    obtain ⟨rfl, hx⟩ := Y.yld i H x H' sm hlt y
    have et : xs.take (i + 1) = xs.take i ++ [x] := by rw [List.take_add_one, hx]; rfl
    refine hs i x H' _ _ hx sm (fun px y H4 s4 py => ?_) (fun px H4 s4 => ?_)
    · have hD4 := s4 _ _ hDH
      have tk : Tk H4 (upd H4 D (.lst (ys ++ [y]))) := Tk.lst hD4
      refine ⟨hD4, xs.length - (i + 1), by omega, rfl, hlt, fun b o hb => ?_, upd_same, ?_, fun j x' y' hx' hy' => ?_⟩
      · rw [upd_ne (ne_of_none hb hD)]
        exact s4 _ _ (sm _ _ hb)
      · rw [et, List.filter_append, List.length_append, List.length_append, yl, List.filter_cons_of_pos px]
        rfl
      · rw [et, List.filter_append, List.filter_cons_of_pos px] at hx'
        rcases snoc_get hx' with ⟨h1, hx'⟩ | ⟨h1, hx'⟩
        · rcases snoc_get hy' with ⟨_, hy'⟩ | ⟨e, _⟩
          · exact hP _ _ _ _ (hP _ _ _ _ (pr j x' y' hx' hy') (Same.tk s4)) tk
          · omega
        · rcases snoc_get hy' with ⟨h2, _⟩ | ⟨_, hy'⟩
          · omega
          · subst hx' hy'
            exact hP _ _ _ _ py tk
    · refine ⟨xs.length - (i + 1), by omega, rfl, hlt, sm.trans s4, s4 _ _ hDH, ?_, fun j x' y' hx' hy' => ?_⟩
      · rw [et, List.filter_append, List.filter_cons_of_neg (by rw [px]; exact Bool.false_ne_true), List.filter_nil, List.append_nil, yl]
      · rw [et, List.filter_append, List.filter_cons_of_neg (by rw [px]; exact Bool.false_ne_true), List.filter_nil, List.append_nil] at hx'
        exact hP _ _ _ _ (pr j x' y' hx' hy') (Same.tk s4)
  · have e : i = xs.length := by omega
    subst e
    rw [List.take_length] at yl pr
    exact .inl ⟨Y.stop _ H sm (Nat.le_refl _), hd ys H sm hDH yl pr⟩
end L2

namespace L2
open PySem PySem.Spec PyProof.Rows
/-! ### zip of a tuple and a list -/
section
variable {prog : Program} {w : World} {A : Around} {E : Value → Shared → Prop} {s : Shared}
/-- the objects of a zip are apart -/
structure Ap (z TI TO i1 i2 : Addr) (f1 f2 : List Addr) : Prop where
  a1 : ∀ b ∈ f1, b ≠ z ∧ b ≠ TO ∧ b ≠ i2
  a2 : ∀ b ∈ f2, b ≠ z ∧ b ≠ TO ∧ b ≠ i1
  m1 : i1 ∈ f1
  m2 : i2 ∈ f2
  tz : TI ≠ z
  tO : TI ≠ TO
  t1 : TI ≠ i1
  t2 : TI ≠ i2
  oz : TO ≠ z
section
variable {z TI TO i1 i2 : Addr} {f1 f2 : List Addr} {n1 n2 k : Nat} {P1 P2 : Nat → Value → Prop} {S1 S2 : Nat → Heap → Prop} {a b : Value}
end
end
/-- the i-th items of a tuple and of a list, in a new tuple -/
def Itz (K : PySem.W.Frag) (a b : Addr) : It :=
  ⟨fun i H => ∃ xs ys, SqT K H a xs ∧ SqL K H b ys ∧ i < xs.length ∧ i < ys.length,
   fun i H v H' => ∃ T, H T = none ∧ v = .ref T ∧ ∀ xs ys, SqT K H a xs → SqL K H b ys → ∃ x y, xs[i]? = some x ∧ ys[i]? = some y ∧ H' = upd H T (.tup [x, y]),
   fun i H => ∃ xs ys, SqT K H a xs ∧ SqL K H b ys ∧ (i = xs.length ∨ (i < xs.length ∧ i = ys.length))⟩
theorem Inv.turnedL {X : Cx} {pins : List (Addr × Obj)} {σ : St} {H : Hp} {s : Shared} {h' : Heap} {t' : Nat} {ch : List Addr} (I : Inv X pins σ H s) (k : ∀ b o, b ∉ ch → s.heap.get? b = some o → h'.get? b = some o) (hf : ∀ b ∈ ch, FpOk X pins H b) : Inv X pins σ H { s with heap := h', toks := t' } := by
  have nit : ∀ b u, H b = some u → b ∉ ch := fun b u e z => by rw [(hf b z).1] at e; cases e
  refine I.step (g' := s.gens) (d' := s.drawn) (ch := ch) (fun b hb => ⟨(hf b hb).2.2.2.1, (hf b hb).2.1, (hf b hb).2.2.2.2.1, (hf b hb).2.2.2.2.2⟩) (fun b o _ _ hc e _ => k b o hc e) (fun b o _ _ hc e _ => ⟨o.slots, k b o hc e⟩) (fun _ _ _ _ n => n)
    (fun b o hc e => ⟨o, k b o hc e⟩) (fun _ _ e => e) (fun _ _ _ e => e) (fun b ps e => ⟨#[], by rw [e]; simp⟩) (fun m hm => ?_) (fun b u e => ?_) I.bare
  · obtain ⟨o, es, ep, ho, r⟩ := hm
    exact ⟨o, es, ep, k _ o (fun z => (hf _ z).2.1 rfl) ho, r⟩
  · refine (I.hok b u e).stay (fun c v hc q => k c v ?_ q) (fun _ q => q) fun _ _ q => q
    rcases hc with z | z
    · rw [z]; exact nit b u e
    · exact nit c _ z
/-- a zip's objects, laid one behind another from n on -/
def ZipSt (n a b : Nat) (i : Nat) (h : Heap) : Prop := IsZip h (n + 4) (n + 2) (n + 3) .none ∧ IsPair h (n + 2) (.ref n) (.ref (n + 1)) ∧ (∃ x y, IsPair h (n + 3) x y) ∧ h.IsTupleIter n a i ∧ h.IsListIter (n + 1) b i
abbrev zo1 (h : Heap) (a : Addr) : Heap := h.push { cls := .type "tuple_iterator", data := .fields #[.ref a, .int 0 0] }
abbrev zo2 (h : Heap) (a b : Addr) : Heap := (zo1 h a).push { cls := .type "list_iterator", data := .fields #[.ref b, .int 0 0] }
abbrev zo3 (h : Heap) (a b : Addr) : Heap := (zo2 h a b).push { cls := .type "tuple", data := .seq #[.ref h.objs.size, .ref (zo1 h a).objs.size] }
abbrev zo4 (h : Heap) (a b : Addr) : Heap := (zo3 h a b).push { cls := .type "tuple", data := .seq #[.none, .none] }
abbrev zo5 (h : Heap) (a b : Addr) : Heap := (zo4 h a b).push { cls := .type "zip", data := .fields #[.none, .bool false, .bool false, .ref (zo2 h a b).objs.size, .ref (zo3 h a b).objs.size] }
def iZip (K : PySem.W.Frag) (ta : TA) : TI := fun σ H R => ta σ H fun vs H1 => ∃ a b, vs = [.ref a, .ref b] ∧ (∃ xs, SqT K H1 a xs) ∧ (∃ ys, SqL K H1 b ys) ∧ R (Itz K a b) H1
end L2

namespace L2
open PySem PySem.Spec PyProof.Rows

/-! ### lists of pairs as tables -/
section
variable {κ : Type} [DecidableEq κ]
def valV (kvs : List (κ × V)) (k : κ) : Option V := (kvs.find? fun kv => decide (kv.1 = k)).map (·.2)
/-- in its place, or at the end -/
def putK (kvs : List (κ × V)) (k : κ) (v : V) : List (κ × V) :=
  if (kvs.any fun kv => decide (kv.1 = k)) = true then kvs.map (fun kv => if kv.1 = k then (kv.1, v) else kv) else kvs ++ [(k, v)]
def dropK (kvs : List (κ × V)) (k : κ) : List (κ × V) := kvs.filter fun kv => decide (kv.1 ≠ k)

theorem valV_pos {p : κ × V} {r : List (κ × V)} {k : κ} (e : p.1 = k) : valV (p :: r) k = some p.2 := by simp [valV, List.find?_cons, e]
theorem valV_neg {p : κ × V} {r : List (κ × V)} {k : κ} (e : ¬ p.1 = k) : valV (p :: r) k = valV r k := by simp [valV, List.find?_cons, e]
theorem valV_any (k : κ) : ∀ kvs : List (κ × V), (kvs.any fun kv => decide (kv.1 = k)) = (valV kvs k).isSome
  | [] => rfl
  | p :: r => by
    rw [List.any_cons]
    by_cases e : p.1 = k
    · simp only [valV_pos e, decide_eq_true e, Bool.true_or, Option.isSome_some]
    · rw [valV_neg e, decide_eq_false e, Bool.false_or]; exact valV_any k r
theorem valV_map (k j : κ) (y : V) : ∀ kvs : List (κ × V), valV (kvs.map fun kv => if kv.1 = k then (kv.1, y) else kv) j = (valV kvs j).map fun x => if j = k then y else x
  | [] => rfl
  | p :: r => by
    have ih := valV_map k j y r
    rw [List.map_cons]
    by_cases h : p.1 = k
    · rw [if_pos h]
      by_cases e : p.1 = j
      · rw [valV_pos (p := (p.1, y)) e, valV_pos e, Option.map_some, if_pos (e.symm.trans h)]
      · rw [valV_neg (p := (p.1, y)) e, valV_neg e, ih]
    · rw [if_neg h]
      by_cases e : p.1 = j
      · rw [valV_pos (p := p) e, valV_pos e, Option.map_some, if_neg (fun z => h (e.trans z))]
      · rw [valV_neg (p := p) e, valV_neg e, ih]
theorem valV_snoc (k j : κ) (y : V) : ∀ kvs : List (κ × V), valV kvs k = none → valV (kvs ++ [(k, y)]) j = if j = k then some y else valV kvs j
  | [], _ => by
    by_cases e : k = j
    · rw [if_pos e.symm]; exact valV_pos (p := (k, y)) e
    · rw [if_neg (fun z => e z.symm)]; exact valV_neg (p := (k, y)) e
  | p :: r, hn => by
    rw [List.cons_append]
    have hk : ¬ p.1 = k := fun z => by rw [valV_pos z] at hn; cases hn
    rw [valV_neg hk] at hn
    have ih := valV_snoc k j y r hn
    by_cases e : p.1 = j
    · rw [valV_pos e, valV_pos e, if_neg (fun z => hk (e.trans z))]
    · rw [valV_neg e, valV_neg e, ih]
theorem valV_put (kvs : List (κ × V)) (k j : κ) (y : V) : valV (putK kvs k y) j = if j = k then some y else valV kvs j := by
  unfold putK
  by_cases a : (kvs.any fun kv => decide (kv.1 = k)) = true
  · rw [if_pos a, valV_map]
    rw [valV_any] at a
    by_cases e : j = k
    · obtain ⟨x, hx⟩ := Option.isSome_iff_exists.mp a
      rw [if_pos e, e, hx, Option.map_some, if_pos rfl]
    · rw [if_neg e]
      cases valV kvs j with
      | none => rfl
      | some x => rw [Option.map_some, if_neg e]
  · rw [if_neg a]
    refine valV_snoc k j y kvs ?_
    rw [valV_any] at a
    cases q : valV kvs k with
    | none => rfl
    | some x => rw [q] at a; exact (a rfl).elim
theorem length_putK (kvs : List (κ × V)) (k : κ) (v : V) : (putK kvs k v).length ≤ kvs.length + 1 := by
  unfold putK
  split
  · rw [List.length_map]; omega
  · rw [List.length_append, List.length_cons, List.length_nil]; omega
theorem putK_new {kvs : List (κ × V)} {k : κ} (v : V) (h : valV kvs k = none) : putK kvs k v = kvs ++ [(k, v)] := by
  unfold putK
  rw [valV_any, h]
  exact if_neg (by decide)

theorem RelO.isSome_eq {o : Option V} {u : Option Value} (r : RelO o u) : o.isSome = u.isSome := by
  cases o with
  | none => cases u with
    | none => rfl
    | some _ => exact (show False from r).elim
  | some _ => cases u with
    | none => exact (show False from r).elim
    | some _ => rfl
/-- raw tables of the same keys -/
theorem KV.val {kvs : List (κ × V)} {vs : List (κ × Value)} (r : KV kvs vs) (k : κ) : RelO (valV kvs k) (valueAt vs k) := by
  unfold KV at r
  induction r with
  | nil => exact True.intro
  | @cons p q ps qs h t ih =>
    obtain ⟨h1, h2⟩ := h
    by_cases e : p.1 = k
    · have e' : q.1 = k := h1.symm.trans e
      have b : valueAt (q :: qs) k = some q.2 := by simp [valueAt, List.find?_cons, e']
      rw [valV_pos e, b]; exact h2
    · have e' : ¬ q.1 = k := fun z => e (h1.trans z)
      have b : valueAt (q :: qs) k = valueAt qs k := by simp [valueAt, List.find?_cons, e']
      rw [valV_neg e, b]; exact ih
theorem KV.any {kvs : List (κ × V)} {vs : List (κ × Value)} (r : KV kvs vs) (k : κ) : (kvs.any fun kv => decide (kv.1 = k)) = vs.any fun kv => decide (kv.1 = k) := by
  unfold KV at r
  induction r with
  | nil => rfl
  | cons h t ih => rw [List.any_cons, List.any_cons, ih, h.1]
theorem KV.repl {kvs : List (κ × V)} {vs : List (κ × Value)} (r : KV kvs vs) (k : κ) {y : V} {u : Value} (ry : RelV y u) :
    KV (kvs.map fun kv => if kv.1 = k then (kv.1, y) else kv) (vs.map fun kv => if kv.1 = k then (kv.1, u) else kv) := by
  unfold KV at r ⊢
  induction r with
  | nil => exact .nil
  | @cons p q ps qs h t ih =>
    rw [List.map_cons, List.map_cons]
    refine .cons ?_ ih
    obtain ⟨h1, h2⟩ := h
    by_cases e : p.1 = k
    · rw [if_pos e, if_pos (h1.symm.trans e)]; exact ⟨h1, ry⟩
    · rw [if_neg e, if_neg (fun z => e (h1.trans z))]; exact ⟨h1, h2⟩
theorem KV.put {kvs : List (κ × V)} {vs : List (κ × Value)} (r : KV kvs vs) (k : κ) {y : V} {u : Value} (ry : RelV y u) : KV (putK kvs k y) (stored vs k u) := by
  unfold putK stored
  rw [r.any k]
  by_cases e : (vs.any fun kv => decide (kv.1 = k)) = true
  · rw [if_pos e, if_pos e]; exact r.repl k ry
  · rw [if_neg e, if_neg e]; exact Paired.snoc r ⟨rfl, ry⟩
theorem KV.length {kvs : List (κ × V)} {vs : List (κ × Value)} (r : KV kvs vs) : kvs.length = vs.length := Paired.length r
end


/-! ### a tracked dict, its keys ints and texts or tuples of these -/
theorem kV_is {P : Program} {w : World} {k : Key} {u : Value} (r : RelV (kV k) u) : (mixKind P w).is k u = true := by
  cases k with
  | inl i => obtain ⟨t, e⟩ := (show ∃ t, u = Value.int i t from r); subst e; exact mixKind_int P w i t
  | inr x => obtain ⟨t, e⟩ := (show ∃ t, u = Value.str x t from r); subst e; exact mixKind_str P w x t
theorem items_are {P : Program} {w : World} : ∀ {ks : List Key} {us : List Value}, Vals (ks.map kV) us → ItemsAre (mixKind P w) ks us
  | [], _, r => by rw [List.map_nil] at r; cases r; exact .nil
  | k :: ks, _, r => by
    rw [List.map_cons] at r
    cases r with
    | cons h t => exact .cons (kV_is h) (items_are t)

/-- raw entries of a dict with tuple keys -/
abbrev KT (H : Hp) : List (List Key × V) → List (List Key × Addr × Value) → Prop := Paired fun p q => p.1 = q.1 ∧ H q.2.1 = some (.tup (p.1.map kV)) ∧ RelV p.2 q.2.2
theorem KT.val {H : Hp} {kvs : List (List Key × V)} {xs : List (List Key × Addr × Value)} (r : KT H kvs xs) (k : List Key) : RelO (valV kvs k) ((atKey xs k).map (·.2)) := by
  induction r with
  | nil => exact True.intro
  | @cons p q ps qs h t ih =>
    obtain ⟨h1, _, h2⟩ := h
    by_cases e : p.1 = k
    · have e' : q.1 = k := h1.symm.trans e
      have b : atKey (q :: qs) k = some q.2 := by simp [atKey, List.find?_cons, e']
      rw [valV_pos e, b]; exact h2
    · have e' : ¬ q.1 = k := fun z => e (h1.trans z)
      have b : atKey (q :: qs) k = atKey qs k := by simp [atKey, List.find?_cons, e']
      rw [valV_neg e, b]; exact ih
theorem KT.repl {H : Hp} {kvs : List (List Key × V)} {xs : List (List Key × Addr × Value)} (r : KT H kvs xs) (k : List Key) {y : V} {u : Value} (ry : RelV y u) :
    KT H (kvs.map fun kv => if kv.1 = k then (kv.1, y) else kv) (xs.map (putAt k u)) := by
  induction r with
  | nil => exact .nil
  | @cons p q ps qs h t ih =>
    rw [List.map_cons, List.map_cons]
    refine .cons ?_ ih
    obtain ⟨h1, h2, h3⟩ := h
    unfold putAt
    by_cases e : p.1 = k
    · rw [if_pos e, if_pos (h1.symm.trans e)]; exact ⟨h1, h2, ry⟩
    · rw [if_neg e, if_neg (fun z => e (h1.trans z))]; exact ⟨h1, h2, h3⟩
theorem KT.put {H : Hp} {kvs : List (List Key × V)} {xs : List (List Key × Addr × Value)} (r : KT H kvs xs) (k : List Key) {b : Addr} {y : V} {u : Value} (hb : H b = some (.tup (k.map kV))) (ry : RelV y u) :
    KT H (putK kvs k y) (storedH xs k b u) := by
  have e : (kvs.any fun kv => decide (kv.1 = k)) = (atKey xs k).isSome := by
    rw [valV_any, (r.val k).isSome_eq, Option.isSome_map]
  unfold putK storedH
  rw [e]
  by_cases q : (atKey xs k).isSome = true
  · rw [if_pos q, if_pos q]; exact r.repl k ry
  · rw [if_neg q, if_neg q]; exact Paired.snoc r ⟨rfl, hb, ry⟩
theorem KT.keeps {H H' : Hp} {kvs : List (List Key × V)} {xs : List (List Key × Addr × Value)} (r : KT H kvs xs) (ht : ∀ b ys, H b = some (.tup ys) → H' b = some (.tup ys)) : KT H' kvs xs :=
  Paired.mapP r fun _ _ z => ⟨z.1, ht _ _ z.2.1, z.2.2⟩

section
variable {P : Program} {w : World} {H : Hp} {h : Heap} {a : Addr}
theorem rd_of {u : HO} (ok : HOk P w H h) (e : Rd H a u) : ObjOk P w H h a u := e.ok ok
theorem dk_rd {kvs : List (Key × V)} (ok : HOk P w H h) (e : Rd H a (.dK kvs)) : kvs.length ≤ sizeLine ∧ (a == sysModules) = false ∧ ∃ vs, KV kvs vs ∧ h.DictOf (mixKind P w) a vs :=
  show ObjOk P w H h a (.dK kvs) from rd_of ok e
theorem dk_of {kvs : List (Key × V)} (ok : HOk P w H h) (e : H a = some (.dK kvs)) : kvs.length ≤ sizeLine ∧ (a == sysModules) = false ∧ ∃ vs, KV kvs vs ∧ h.DictOf (mixKind P w) a vs := dk_rd ok (.inl e)
/-- a tracked tuple of ints and texts is a key -/
theorem key_of {ks : List Key} (ok : HOk P w H h) (e : H a = some (.tup (ks.map kV))) : (tupleKind (mixKind P w)).is h ks a := by
  obtain ⟨_, its, r, o, h1, h2, n, h3⟩ := (show ObjOk P w H h a (.tup (ks.map kV)) from ok a _ e)
  exact ⟨o, its.toArray, n, h1, h2, h3, by simpa using items_are r⟩
theorem dt_rd {kvs : List (List Key × V)} (ok : HOk P w H h) (e : Rd H a (.dT kvs)) : kvs.length ≤ sizeLine ∧ (a == sysModules) = false ∧
    ∃ xs, KT H kvs xs ∧ h.DictOfH (tupleKind (mixKind P w)) a xs := by
  obtain ⟨z, y, xs, r, o, es, ep, h1, h2, h3, h4, h5⟩ := (show ObjOk P w H h a (.dT kvs) from rd_of ok e)
  refine ⟨z, y, xs, r, o, es, ep, h1, h2, h3, h4, fun x hx => ?_, h5⟩
  have all : ∀ {l : List (List Key × V)} {m : List (List Key × Addr × Value)}, KT H l m → ∀ x ∈ m, (tupleKind (mixKind P w)).is h x.1 x.2.1 := by
    intro l m q
    induction q with
    | nil => intro x hx; exact nomatch hx
    | @cons p q ps qs hq t ih =>
      intro x hx
      rcases List.mem_cons.mp hx with e | hx
      · subst e
        exact key_of ok (by rw [← hq.1]; exact hq.2.1)
      · exact ih x hx
  exact all r x hx
theorem dt_of {kvs : List (List Key × V)} (ok : HOk P w H h) (e : H a = some (.dT kvs)) : kvs.length ≤ sizeLine ∧ (a == sysModules) = false ∧
    ∃ xs, KT H kvs xs ∧ h.DictOfH (tupleKind (mixKind P w)) a xs := dt_rd ok (.inl e)
end

/-- what the dict at a holds at the key y -/
def DGet (H : Hp) (a : Addr) (y : V) (r : Option V) : Prop :=
  (∃ kvs k, Rd H a (.dK kvs) ∧ y = kV k ∧ r = valV kvs k) ∨ ∃ kvs k b, Rd H a (.dT kvs) ∧ y = .ref b ∧ H b = some (.tup (k.map kV)) ∧ r = valV kvs k
/-- the heap behind a[y] = v -/
def DPut (H : Hp) (a : Addr) (y v : V) (H' : Hp) : Prop :=
  (∃ kvs k, H a = some (.dK kvs) ∧ y = kV k ∧ kvs.length < sizeLine ∧ H' = upd H a (.dK (putK kvs k v))) ∨
  ∃ kvs k b, H a = some (.dT kvs) ∧ y = .ref b ∧ H b = some (.tup (k.map kV)) ∧ kvs.length < sizeLine ∧ H' = upd H a (.dT (putK kvs k v))
theorem DGet.k {H : Hp} {a : Addr} {kvs : List (Key × V)} {k : Key} (e : H a = some (.dK kvs)) : DGet H a (kV k) (valV kvs k) := .inl ⟨kvs, k, .inl e, rfl, rfl⟩
theorem DPut.k {H : Hp} {a : Addr} {kvs : List (Key × V)} {k : Key} {v : V} (e : H a = some (.dK kvs)) (hl : kvs.length < sizeLine) : DPut H a (kV k) v (upd H a (.dK (putK kvs k v))) := .inl ⟨kvs, k, e, rfl, hl, rfl⟩
section
variable {X : Cx} {pins : List (Addr × Obj)} {σ : St} {H : Hp} {s : Shared} {a : Addr} {y v : V} {u r : Value} {o : Option V} {A : Around} {E : Value → Shared → Prop}

theorem Inv.big (I : Inv X pins σ H s) : sysModules < s.heap.objs.size := by
  have h : mainGlobals < s.heap.objs.size := (I.mod.glob.keeps I.bk).lt
  exact Nat.lt_trans (by decide) h

/-- y in d -/
theorem d_in {Q : Value → Shared → Prop} (hu : A.units + 1 < cLine) (I : Inv X pins σ H s) (g : DGet H a y o) (ry : RelV y u) (h : ∀ s', Inv X pins σ H s' → Q (.bool o.isSome) s') :
    wpAny (model X.prog X.w) A (compareOp .In u (.ref a)) Q E s := by
  rcases g with ⟨kvs, k, e, ey, l⟩ | ⟨kvs, k, b, e, ey, eb, l⟩
  · subst ey
    obtain ⟨z, hd, vs, rel, dd⟩ := dk_rd I.hok e
    refine wpAny_in_of (kV_is ry) hd dd.mapOf ?_
    rw [← (rel.val k).isSome_eq, ← l]
    exact h _ (I.tok _)
  · subst ey
    cases (show u = Value.ref b from ry)
    obtain ⟨z, hd, xs, rel, dd⟩ := dt_rd I.hok e
    refine wpAny_in_heap (tupleKind_room_in1 hu) (key_of I.hok eb) hd dd ?_
    have q := (rel.val k).isSome_eq
    rw [Option.isSome_map] at q
    rw [← q, ← l]
    exact h _ (I.tok _)
/-- a dict's object is replaced -/
theorem d_write {h' : Heap} {t' : Nat} {ob : HO} (I : Inv X pins σ H s) (mu : Mut (H a)) (hs : Heap.SameBut a s.heap h') (he : ∃ q, h'.get? a = some q) (new : ObjOk X.prog X.w (upd H a ob) h' a ob) :
    Inv X pins σ (upd H a ob) { s with heap := h', toks := t' } :=
  I.write (x := a) (e := a) mu (.inl rfl) (fun b q hb z => (hs.2 b hb).trans z) he new
theorem dk_new {P : Program} {w : World} {H' : Hp} {h' : Heap} {kvs : List (Key × V)} {vs : List (Key × Value)} (z : kvs.length ≤ sizeLine) (hd : (a == sysModules) = false) (rel : KV kvs vs) (dd : h'.DictOf (mixKind P w) a vs) :
    ObjOk P w H' h' a (.dK kvs) := ⟨z, hd, vs, rel, dd⟩
/-- d[y] = v -/
theorem d_setItem {H' : Hp} {Q : Unit → Shared → Prop} (hu : A.units + 1 < cLine) (I : Inv X pins σ H s) (g : DPut H a y v H') (ry : RelV y u) (rv : RelV v r) (h : ∀ s', Inv X pins σ H' s' → Q () s') :
    wpAny (model X.prog X.w) A (setItem (.ref a) u r) Q E s := by
  rcases g with ⟨kvs, k, e, ey, l, eH⟩ | ⟨kvs, k, b, e, ey, eb, l, eH⟩
  · subst ey eH
    obtain ⟨z, hd, vs, rel, dd⟩ := dk_of I.hok e
    have hz : vs.length ≤ sizeLine := by rw [← rel.length]; exact z
    have hl : (putK kvs k v).length ≤ sizeLine := by have := length_putK kvs k v; omega
    refine wpAny_setItem_pairs (hsz := hz) (kV_is ry) dd fun h' dd' hs => h _ ?_
    have he : ∃ q, h'.get? a = some q := let ⟨q, _, _, hq, _⟩ := dd'; ⟨q, hq⟩
    exact d_write I (by rw [e]; exact True.intro) hs he (dk_new hl hd (rel.put k rv) dd')
  · subst ey eH
    cases (show u = Value.ref b from ry)
    obtain ⟨z, hd, xs, rel, dd⟩ := dt_of I.hok e
    have hz : xs.length ≤ sizeLine := by rw [← Paired.length rel]; exact z
    have hl : (putK kvs k v).length ≤ sizeLine := by have := length_putK kvs k v; omega
    refine wpAny_setItem_heap (hsz := hz) (tupleKind_room_in1 hu) (key_of I.hok eb) dd fun h' dd' hs => h _ ?_
    obtain ⟨q, es, ep, hq, h2, h3, h4, _, h5⟩ := dd'
    refine d_write I (by rw [e]; exact True.intro) hs ⟨q, hq⟩ ⟨hl, hd, _, (rel.put k eb rv).keeps fun c ys ec => ?_, q, es, ep, hq, h2, h3, h4, h5⟩
    rw [upd_ne (ne_of ec e (fun z => nomatch z))]
    exact ec
end

section
variable {X : Cx} {pins : List (Addr × Obj)} {σ : St} {H : Hp} {s : Shared} {a : Addr} {kvs : List (Key × V)} {k : Key} {u : Value} {A : Around} {E : Value → Shared → Prop}
end


/-! ### readings and rules -/
/-- the element of a subscription, not a slice -/
def NoSl (i : Expr) : Prop := ∀ ov iv, subscripted i false ov iv = operate [ov, iv] (getItem ov iv)
/-- d[y] -/
def tDGet (td ty : TE) : TE := fun σ H Q => td σ H fun x H1 => ty σ H1 fun y H2 => ∃ a v, x = .ref a ∧ DGet H2 a y (some v) ∧ Q v H2
/-- y in d, y not in d -/
def tDIn (ty td : TE) : TE := fun σ H Q => ty σ H fun y H1 => td σ H1 fun x H2 => ∃ a o, x = .ref a ∧ DGet H2 a y o ∧ Q (.bl o.isSome) H2
def tDNotIn (ty td : TE) : TE := fun σ H Q => ty σ H fun y H1 => td σ H1 fun x H2 => ∃ a o, x = .ref a ∧ DGet H2 a y o ∧ Q (.bl (!o.isSome)) H2
/-- d[y] = v -/
def sDPut (td ty tv : TE) : TS := fun D σ H => tv σ H fun v H1 => td σ H1 fun x H2 => ty σ H2 fun y H3 => ∃ a H4, x = .ref a ∧ DPut H3 a y v H4 ∧ D.nx σ H4
/-- d[y] op= v -/
def sDAug (td ty tv : TE) (rd : V → V → Hp → VK → Prop) : TS := fun D σ H => td σ H fun x H1 => ty σ H1 fun y H2 => ∃ a v, x = .ref a ∧ DGet H2 a y (some v) ∧
  tv σ H2 fun y2 H3 => rd v y2 H3 fun z H4 => ∃ H5, DPut H4 a y z H5 ∧ D.nx σ H5
/-- del d[y] -/
def sDDel (td ty : TE) : TS := fun D σ H => td σ H fun x H1 => ty σ H1 fun y H2 => ∃ a kvs k, x = .ref a ∧ H2 a = some (.dK kvs) ∧ y = kV k ∧ (valV kvs k).isSome = true ∧ D.nx σ (upd H2 a (.dK (dropK kvs k)))

section
variable {X : Cx} {o i e value : Expr} {pos pos' tpos : Pos} {td ty tv : TE}
theorem pc_din (hu : X.A.units + 1 < cLine) (hi : PE X i ty) (ho : PE X o td) : PC X .In i o (tDIn ty td) := by
  intro pins s σ H Q I h
  refine thn (hi pins s σ H _ I h) fun iv s1 ⟨y, H1, I1, ry, q1⟩ => thn (ho pins s1 σ H1 _ I1 q1) fun u s2 ⟨x, H2, I2, rx, a, ov, ex, g, q2⟩ => ?_
  subst ex
  obtain rfl : u = Value.ref a := rx
  exact d_in hu I2 g ry fun s3 I3 => ⟨.bl ov.isSome, H2, I3, rfl, q2⟩
theorem ps_dput (hu : X.A.units + 1 < cLine) (ho : PE X o td) (hi : PE X i ty) (hv : PE X value tv) (hs : swapsWith value (some (.Subscript o i pos')) pos.line X.env = pure false) :
    PS X (.Assign [.Subscript o i pos'] value pos) (sDPut td ty tv) := by
  intro pins s σ H D I h
  refine wpAny_Assign_Subscript (thn (hv pins s σ H _ I h) fun r s1 ⟨v, H1, I1, rv, q1⟩ => thn (ho pins s1 σ H1 _ I1 q1) fun u s2 ⟨x, H2, I2, rx, q2⟩ => thn (hi pins s2 σ H2 _ I2 q2) fun iv s3 ⟨y, H3, I3, ry, a, H4, ex, g, q3⟩ => ?_) hs
  subst ex
  obtain rfl : u = Value.ref a := rx
  exact d_setItem hu I3 g ry rv fun s4 I4 => ⟨σ, H4, I4, q3⟩
end


/-! ### displays -/
theorem dk_empty {P : Program} {w : World} {H : Hp} (h : Heap) (hb : sysModules < h.objs.size) : ObjOk P w H (h.push { cls := .type "dict", data := .dict #[] }) h.objs.size (.dK []) :=
  ⟨Nat.zero_le _, beq_eq_false_iff_ne.mpr (Ne.symm (Nat.ne_of_lt hb)), [], .nil, Heap.DictOf.new h⟩
/-- {}, to be a dict of the kind that is wanted -/
def tDNewK : TE := fun _ H Q => ∀ p, H p = none → Q (.ref p) (upd H p (.dK []))
def tDNewT : TE := fun _ H Q => ∀ p, H p = none → Q (.ref p) (upd H p (.dT []))
section
variable {X : Cx} {pos : Pos}
theorem pe_dnewK : PE X (.Dict [] [] pos) tDNewK := fun pins s σ H Q I h =>
  wpAny_Dict_empty ⟨.ref s.heap.objs.size, _, I.laid (a := s.heap.objs.size) (o := .dK []) (t' := s.toks) (fun _ _ q => Heap.get?_push_of_some _ q) (Nat.le_refl _) (dk_empty s.heap I.big), rfl, h _ (I.hok.fresh (Nat.le_refl _))⟩
end

/-- the pairs of a display, from the left -/
def tPairs : List (TE × TE) → St → Hp → (List (V × V) → Hp → Prop) → Prop
  | [], _, H, Q => Q [] H
  | (tk, tv) :: r, σ, H, Q => tk σ H fun x H1 => tv σ H1 fun y H2 => tPairs r σ H2 fun ps H3 => Q ((x, y) :: ps) H3
abbrev VV : List (V × V) → List (Value × Value) → Prop := Paired fun p q => RelV p.1 q.1 ∧ RelV p.2 q.2
def PPs (X : Cx) (pos : Pos) (keys : List (Option Expr)) (values : List Expr) (trs : List (TE × TE)) : Prop :=
  ∀ (pins : List (Addr × Obj)) (s : Shared) (σ : St) (H : Hp) (Q : List (V × V) → Hp → Prop), Inv X pins σ H s → tPairs trs σ H Q →
    wpAny (model X.prog X.w) X.A (evalPairs (pairTrees keys values X.env pos)) (fun vs s' => ∃ ps H', Inv X pins σ H' s' ∧ VV ps vs ∧ Q ps H') X.xe s
def mergeK (kvs more : List (Key × V)) : List (Key × V) := more.foldl (fun acc kv => putK acc kv.1 kv.2) kvs
/-- {k: v, ..} with keys ints and texts; the new dict stands empty while the pairs are made -/
def tDisp (trs : List (TE × TE)) : TE := fun σ H Q => ∀ p, H p = none → tPairs trs σ (upd H p (.dK [])) fun ps H2 => H2 p = some (.dK []) ∧ ∃ kvs : List (Key × V), ps = kvs.map (fun kv => (kV kv.1, kv.2)) ∧ kvs.length ≤ 15 ∧ Q (.ref p) (upd H2 p (.dK (mergeK [] kvs)))
/-! ### methods -/
/-- a method call o.m(e) of a built-in, with one argument: what must be seen of the text -/
structure M1 (X : Cx) (o : Expr) (m : Str) (apos : Pos) (e : Expr) (cpos : Pos) : Prop where
  base : attributeBase o m X.env (eval o X.env) = eval o X.env
  few : ((backTo cpos (starEach [e] X.env)).all (fun x => !x.1) && (backToKw cpos (keywordEach [] X.env)).all (fun x => x.1.isSome)
    && decide (([e] : List Expr).length + ([] : List Keyword).length + (if ([] : List Keyword).isEmpty then 0 else 1) < 30)) = true
  line : (apos.endLine == cpos.line) = true
  trees : backTo cpos (starEach [e] X.env) = [(false, eval e X.env)]
structure M2 (X : Cx) (o : Expr) (m : Str) (apos : Pos) (e f : Expr) (cpos : Pos) : Prop where
  base : attributeBase o m X.env (eval o X.env) = eval o X.env
  few : ((backTo cpos (starEach [e, f] X.env)).all (fun x => !x.1) && (backToKw cpos (keywordEach [] X.env)).all (fun x => x.1.isSome)
    && decide (([e, f] : List Expr).length + ([] : List Keyword).length + (if ([] : List Keyword).isEmpty then 0 else 1) < 30)) = true
  line : (apos.endLine == cpos.line) = true
  trees : backTo cpos (starEach [e, f] X.env) = [(false, eval e X.env), (false, eval f X.env)]

/-- a is a dict, whatever its keys -/
def IsD (H : Hp) (a : Addr) : Prop := (∃ kvs, Rd H a (.dK kvs)) ∨ ∃ kvs, Rd H a (.dT kvs)
section
variable {X : Cx} {pins : List (Addr × Obj)} {σ : St} {H : Hp} {s : Shared} {a : Addr} {y d : V} {u r : Value} {o : Option V} {A : Around} {E : Value → Shared → Prop}
end

def tDGet1 (td ty : TE) : TE := fun σ H Q => td σ H fun x H1 => ∃ a, x = .ref a ∧ IsD H1 a ∧ ty σ H1 fun y H2 => ∃ o, DGet H2 a y o ∧ Q (o.getD .non) H2
def tDGet2 (td ty tx : TE) : TE := fun σ H Q => td σ H fun x H1 => ∃ a, x = .ref a ∧ IsD H1 a ∧ ty σ H1 fun y H2 => tx σ H2 fun z H3 => ∃ o, DGet H3 a y o ∧ Q (o.getD z) H3
/-- d.pop(k): there; d.pop(k, x): there or not -/
def tDPop1 (td ty : TE) : TE := fun σ H Q => td σ H fun x H1 => ∃ a, x = .ref a ∧ IsD H1 a ∧ ty σ H1 fun y H2 => ∃ kvs k v, H2 a = some (.dK kvs) ∧ y = kV k ∧ valV kvs k = some v ∧ Q v (upd H2 a (.dK (dropK kvs k)))
def tDPop2 (td ty tx : TE) : TE := fun σ H Q => td σ H fun x H1 => ∃ a, x = .ref a ∧ IsD H1 a ∧ ty σ H1 fun y H2 => tx σ H2 fun z H3 => ∃ kvs k, H3 a = some (.dK kvs) ∧ y = kV k ∧
  (∀ v, valV kvs k = some v → Q v (upd H3 a (.dK (dropK kvs k)))) ∧ (valV kvs k = none → Q z H3)
section
variable {X : Cx} {o e f : Expr} {apos cpos : Pos} {td ty tx : TE}
end

/-! ### dict(d): a copy -/
section
variable {X : Cx} {pins : List (Addr × Obj)} {σ : St} {H : Hp} {s : Shared} {a : Addr} {kvs : List (Key × V)} {A : Around} {E : Value → Shared → Prop}
end


section
variable {X : Cx} {pins : List (Addr × Obj)} {σ : St} {H : Hp} {s : Shared} {a : Addr} {y : V} {u : Value} {A : Around} {E : Value → Shared → Prop}
end
end L2

namespace L2
open PySem PySem.Spec PyProof.Rows
/-! ### sorted -/
section
variable {X : Cx}
def rSortS (K : PySem.W.Frag) : List V → Hp → VK → Prop := fun xs H Q => ∃ a, ∃ ss : List Str, xs = [.ref a] ∧ SqL K H a (ss.map V.str) ∧ ss.length < 64 ∧ ∀ (p : Addr) (ss' : List Str), ss'.Perm ss → sortedS ss' = true → H p = none → Q (.ref p) (upd H p (.lst (ss'.map V.str)))
def rSortI (K : PySem.W.Frag) : List V → Hp → VK → Prop := fun xs H Q => ∃ a, ∃ ns : List Int, xs = [.ref a] ∧ SqL K H a (ns.map V.int) ∧ ns.length < 64 ∧ ∀ (p : Addr) (ns' : List Int), ns'.Perm ns → ns'.Pairwise (· ≤ ·) → H p = none → Q (.ref p) (upd H p (.lst (ns'.map V.int)))
def rSortDS : List V → Hp → VK → Prop := fun xs H Q => ∃ a kvs, ∃ ss : List Str, xs = [.ref a] ∧ H a = some (.dK kvs) ∧ kvs.map (·.1) = ss.map Sum.inr ∧ kvs.length < 64 ∧ ∀ (p : Addr) (ss' : List Str), ss'.Perm ss → sortedS ss' = true → H p = none → Q (.ref p) (upd H p (.lst (ss'.map V.str)))
def rSortDI : List V → Hp → VK → Prop := fun xs H Q => ∃ a kvs, ∃ ns : List Int, xs = [.ref a] ∧ H a = some (.dK kvs) ∧ kvs.map (·.1) = ns.map Sum.inl ∧ kvs.length < 64 ∧ ∀ (p : Addr) (ns' : List Int), ns'.Perm ns → ns'.Pairwise (· ≤ ·) → H p = none → Q (.ref p) (upd H p (.lst (ns'.map V.int)))
end
end L2

namespace L2
open PySem PySem.Spec PyProof.Rows
variable {X : Cx}
/-! ### xs[::-1] of a list -/
def tRev (K : PySem.W.Frag) (te : TE) (tk : TO) : TE := fun σ H Q => te σ H fun x H1 => tk σ H1 fun st H2 => st = some (-1) ∧ ∃ a xs, x = .ref a ∧ SqL K H2 a xs ∧ ∀ p, H2 p = none → Q (.ref p) (upd H2 p (.lst xs.reverse))
/-! ### list(range(a, b)) -/
def tListRng (ta : TA) : TE := fun σ H Q => ta σ H fun vs H1 => ∃ i j : Int, vs = [.int i, .int j] ∧ (-(2 ^ 62) ≤ i ∧ i < 2 ^ 62 ∧ -(2 ^ 62) ≤ j ∧ j < 2 ^ 62) ∧ (j - i).toNat ≤ 1000 ∧ ∀ p, H1 p = none → Q (.ref p) (upd H1 p (.lst (rngV i (j - i).toNat)))
/-! ### list(d.values()) -/
def tListVals (td : TE) : TE := fun σ H Q => td σ H fun x H1 => ∃ a kvs, x = .ref a ∧ H1 a = some (.dK kvs) ∧ ∀ p, H1 p = none → Q (.ref p) (upd H1 p (.lst (kvs.map (·.2))))
end L2

namespace L2
open PySem PySem.Spec PyProof.Rows
/-- the i-th items of a tuple and of a list, in a new tuple -/
def Itz2 (K : PySem.W.Frag) (a b : Addr) : It :=
  ⟨fun i H => ∃ xs ys, SqT K H a xs ∧ SqT K H b ys ∧ i < xs.length ∧ i < ys.length,
   fun i H v H' => ∃ T, H T = none ∧ v = .ref T ∧ ∀ xs ys, SqT K H a xs → SqT K H b ys → ∃ x y, xs[i]? = some x ∧ ys[i]? = some y ∧ H' = upd H T (.tup [x, y]),
   fun i H => ∃ xs ys, SqT K H a xs ∧ SqT K H b ys ∧ (i = xs.length ∨ (i < xs.length ∧ i = ys.length))⟩
/-- a zip's objects, laid one behind another from n on -/
def ZipSt2 (n a b : Nat) (i : Nat) (h : Heap) : Prop := IsZip h (n + 4) (n + 2) (n + 3) .none ∧ IsPair h (n + 2) (.ref n) (.ref (n + 1)) ∧ (∃ x y, IsPair h (n + 3) x y) ∧ h.IsTupleIter n a i ∧ h.IsTupleIter (n + 1) b i
abbrev yo1 (h : Heap) (a : Addr) : Heap := h.push { cls := .type "tuple_iterator", data := .fields #[.ref a, .int 0 0] }
abbrev yo2 (h : Heap) (a b : Addr) : Heap := (yo1 h a).push { cls := .type "tuple_iterator", data := .fields #[.ref b, .int 0 0] }
abbrev yo3 (h : Heap) (a b : Addr) : Heap := (yo2 h a b).push { cls := .type "tuple", data := .seq #[.ref h.objs.size, .ref (yo1 h a).objs.size] }
abbrev yo4 (h : Heap) (a b : Addr) : Heap := (yo3 h a b).push { cls := .type "tuple", data := .seq #[.none, .none] }
abbrev yo5 (h : Heap) (a b : Addr) : Heap := (yo4 h a b).push { cls := .type "zip", data := .fields #[.none, .bool false, .bool false, .ref (yo2 h a b).objs.size, .ref (yo3 h a b).objs.size] }
def iZip2 (K : PySem.W.Frag) (ta : TA) : TI := fun σ H R => ta σ H fun vs H1 => ∃ a b, vs = [.ref a, .ref b] ∧ (∃ xs, SqT K H1 a xs) ∧ (∃ ys, SqT K H1 b ys) ∧ R (Itz2 K a b) H1
end L2

namespace L2
open PySem PySem.Spec PyProof.Rows
variable {X : Cx}
/-! ### list(d): the keys of a dict, texts -/
def rListD : List V → Hp → VK → Prop := fun xs H Q => ∃ a kvs, ∃ ss : List Str, xs = [.ref a] ∧ H a = some (.dK kvs) ∧ kvs.map (·.1) = ss.map Sum.inr ∧ ∀ p, H p = none → Q (.ref p) (upd H p (.lst (ss.map V.str)))
/-! ### list(range(a, b, c)) -/
def tListRng3 (ta : TA) : TE := fun σ H Q => ta σ H fun vs H1 => ∃ i j c : Int, vs = [.int i, .int j, .int c] ∧ (-(2 ^ 20) ≤ i ∧ i < 2 ^ 20 ∧ -(2 ^ 20) ≤ j ∧ j < 2 ^ 20 ∧ 1 ≤ c ∧ c < 2 ^ 20) ∧ (j - i) / c ≤ 900 ∧
  ∀ p (ms : List Int), (∀ x ∈ ms, i ≤ x ∧ x < j) → (ms.length : Int) ≤ max 0 ((j - i - 1) / c + 1) → H1 p = none → Q (.ref p) (upd H1 p (.lst (ms.map V.int)))
end L2

namespace L2
open PySem PySem.Spec PyProof.Rows
variable {X : Cx}
/-! ### a dict walked: it is held still from then on -/
/-- the keys of a dict that is held still -/
def Itd (d : Addr) (ob : Obj) (kvs : List (Key × V)) : It :=
  ⟨fun i H => H d = some (.frz ob (.dK kvs)) ∧ i < kvs.length, fun i H v H' => H' = H ∧ ∃ kv, kvs[i]? = some kv ∧ v = kV kv.1, fun i H => H d = some (.frz ob (.dK kvs)) ∧ kvs.length ≤ i⟩
def iDict (tl : TE) : TI := fun σ H R => tl σ H fun x H1 => ∃ d kvs, x = .ref d ∧ H1 d = some (.dK kvs) ∧ ∀ ob, R (Itd d ob kvs) (upd H1 d (.frz ob (.dK kvs)))
end L2

namespace L2
open PySem PySem.Spec PyProof.Rows PySem.W
/-! ### try, with the names kept -/
/-- an exception of a callee that is called while the names are σ -/
def PassesAt (CX : CXT) (X : Cx) (σ : St) (E : XK) : Prop := ∀ (pins : List (Addr × Obj)) (H : Hp) (s : Shared) (e : Value) (s' : Shared), Inv X pins σ H s → CX X.stack H s E e s' → X.xe e s'
section
variable {X : Cx}
theorem run_fnS {CX : CXT} {k : Nat} {f : Addr} {fd : FuncData} {ps : List Str} {sp : Sp} {E : XK} {pins : List (Addr × Obj)} {σ : St} {H : Hp} {s : Shared} {Q : VK} {us : List Value} {vs : List V} (F : FnOk X.prog X.w X.K X.mg X.base CX k f fd ps sp) (hr : Room k X.A) (hb : Binds X.K fd ps []) (hx : PassesAt CX X σ E)
    (I : Inv X pins σ H s) (r : Vals vs us) (h : sp (vs ++ []) H Q E) : wpAny (model X.prog X.w) X.A (call (.ref f) us) (EP X pins σ Q) X.xe s := by
  have r2 : Vals (vs ++ []) (us ++ []) := r.append .nil
  have hl : (us ++ []).length = ps.length := by rw [← r2.length]; exact F.len _ _ _ _ h
  refine wpAny_call (codeAny_mono (F.run X.A X.stack s H ⟨us, []⟩ (us ++ []) (vs ++ []) Q E hr I.env0 (hb s us I.kIn hl) r2 h) fun r s' hq => ?_)
  cases r with
  | error e => exact hx pins H s e s' I hq
  | ok fl =>
    cases fl with
    | ret u => exact I.after hq
    | next => exact False.elim hq
    | brk => exact False.elim hq
    | cont => exact False.elim hq
theorem pe_calS {CX : CXT} {k : Nat} {x : Str} {ps : List Str} {sp : Sp} {E : XK} {e : Expr} {es : List Expr} {t : TA} {p pos : Pos} {σ : St} (C : Cal X.prog X.w X.K X.mg X.base CX k x ps sp) (hr : Room k X.A) (hg : Gl X x) (hx : PassesAt CX X σ E)
    (ha : PA X (e :: es) t) (hdb : (x == ("__debug__" : Str)) = false := by decide) (he : starEach (e :: es) X.env = (false, eval e X.env) :: starEach es X.env := by rfl) (hpl : (backTo pos (starEach es X.env)).any (·.1) = false := by rfl) :
    PE X (.Call (.Name x p) (e :: es) [] pos) (fun σ' H Q => σ' = σ ∧ tCall sp [] E t σ' H Q) := by
  obtain ⟨f, fd, hm, hk, hb, F⟩ := C.ex
  intro pins s σ' H Q I h
  obtain ⟨es', h⟩ := h
  subst es'
  refine wpAny_Call_Name_kw (ld_glob I hg hm ?_ hdb)
  refine PySem.W.callWith_K (h₀ := X.base) I.ok.mod.kin hk (thn (ha pos pins s σ' H _ I h) fun us s1 ⟨vs, H1, I1, r, q⟩ => ⟨I1.kIn, ?_⟩) he hpl
  exact run_fnS F hr hb hx I1 r q
/-- as tTry, of a body that changes no name: the others stay -/
def tTryS (K : Frag) (i j : Nat) (Dc : Addr) (tb : St → XK → TS) : TS := fun D σ H => tb σ (fun cls dd H' => ∃ C, cls = .ref C ∧ ExK K C ∧ subIn K (.ref C) (.ref Dc) = some true ∧ ∀ a, H' a = none → D.nx (((σ.set i (some (.ref a))).set j (some (.ref a))).set i none) (upd H' a (excD a C dd))) D σ H
theorem ps_tryS {body : List Stmt} {tb : St → XK → TS} {d n y : Str} {dp np py apos hpos pos : Pos} {i j : Nat} {Dc : Addr} (O : OwnF X) (hg : Gl X d) (hm : X.mg d = some (.ref Dc)) (F : CtK X.K Dc) (hN : X.N.Nodup) (hi : X.N[i]? = some n)
    (hki : X.env.scope.names.lookup n = some .local) (hj : X.N[j]? = some y) (hkj : X.env.scope.names.lookup y = some .local) (hij : i ≠ j)
    (hb : ∀ (pins : List (Addr × Obj)) (E' : Value → Shared → Prop) (σ : St) (Ec : XK), PassesAt (CXg X.prog X.w) (X.trying pins E') σ Ec → PSs (X.trying pins E') body (tb σ Ec))
    (hdb : (d == ("__debug__" : Str)) = false := by decide) (hnb : (n == ("__debug__" : Str)) = false := by decide) (hnc : (n == ("__classdict__" : Str)) = false := by decide)
    (hs : swapsWith (.Name n np) (some (.Name y py)) apos.line X.env = pure false := by rfl) :
    PS X (.Try body [.ExceptHandler (some (.Name d dp)) (some n) [.Assign [.Name y py] (.Name n np) apos] hpos] [] [] pos) (tTryS X.K i j Dc tb) := by
  intro pins s σ H D I h
  refine wpAny_Try_except (wpAny_mono (hb pins _ σ _ ?hp [] s σ H D (I.trying _) h) (fun f s1 z => ?_) fun _ _ z => z)
  case hp =>
    intro pl Hc sc e s' I0 hx
    have I1 : Inv X pins σ Hc sc := I0.tried
    obtain ⟨ea, C, dd, H', rfl, Fl, C', e1, FK, hsub, hk⟩ := hx
    cases e1
    obtain ⟨B, hok, fl, bk, th⟩ := Fl.fl
    have hfr : X.A.frames = some (X.env :: X.outer) := by rw [← O.stk]; exact I1.ok.frames
    have fl' : FlyD B (X.env :: X.outer) ea (.ref C) dd .none s'.heap := by rw [← O.stk]; exact fl
    have hBe : B.get? ea = none := fl.no
    refine noteD hfr O.fr fl' fun h4 held4 up4 => ?_
    refine flightD held4 fun h5 fl5 up5 => ?_
    have mk : ∀ h6 : Heap, B.StaysIn h6 → s'.heap.UpToSlots h6 → Inv X pins σ H' { s' with heap := h6 } := fun h6 st up =>
      I1.call' (s' := { s' with heap := h6 }) (ch := []) Fl.os (un_here I1 Fl.un bk th st up) (hok.kept st) Fl.bare (by simp)
    have I5 := mk h5 fl5.st (up4.trans up5)
    obtain ⟨ob, _, hob, hobc, _, _⟩ := fl5.at
    refine wpAny_handleBy_cons (codeAny_handlers_test (ld_glob (I5.within (.ref ea)) hg hm ?_ hdb)) (by intro q; cases q)
    refine exc_matches I5.kIn ⟨hob, hobc⟩ F hsub ?_
    refine codeAny_handlers_suite_as ?_
    refine flightD fl5 fun h6 fl6 up6 => ?_
    have I6 := mk h6 fl6.st ((up4.trans up5).trans up6)
    obtain ⟨ob6, ws, hob6, hobc6, hobdd, hobd6⟩ := fl6.at
    -- the error stood nowhere ahead of the call
    have nfr : ea ∉ frs X.stack := fun z => by
      obtain ⟨_, o', ho', hnf⟩ := I6.stack.mem z
      rw [hob6] at ho'
      cases ho'
      exact hnf ws hobd6
    have nsc : sc.heap.get? ea = none := by
      cases q : sc.heap.get? ea with
      | none => rfl
      | some o =>
        obtain ⟨o', e'⟩ := th ea o q nfr
        rw [hBe] at e'
        cases e'
    have nH : H' ea = none := by
      cases q : H' ea with
      | none => rfl
      | some o =>
        exfalso
        have lt := hok.lt q
        obtain ⟨o', e'⟩ : ∃ o', B.get? ea = some o' := by
          exact objThere (hok ea o q)
        rw [hBe] at e'
        cases e'
    have n0 : X.s₀.heap.get? ea = none := by
      cases q : X.s₀.heap.get? ea with
      | none => rfl
      | some o =>
        obtain ⟨o', e'⟩ := I1.base.there ea o q (by rw [O.ex]; simp)
        rw [nsc] at e'
        cases e'
    have nL : ea ≠ X.env.locals := fun z => by
      obtain ⟨m, ⟨oL, _, _, hoL, _⟩, _⟩ := I1.loc
      rw [← z, nsc] at hoL
      cases hoL
    have I7 : Inv X pins σ (upd H' ea (excD ea C dd)) { s' with heap := h6 } := I6.track nH n0 nL
      (fun x c q z => by obtain ⟨v, o, ho, _⟩ := I1.cell x c q; rw [z, nsc] at ho; cases ho)
      (fun p q z => by have := (I1.pin p q).1; rw [z, nsc] at this; cases this)
      ⟨⟨ob6, ⟨hob6, hobc6⟩, hobdd, _, hobd6⟩, ⟨ob6, hob6⟩, fun h1 h2 ⟨o, ho, hd⟩ k => ⟨o, ⟨k o ho.at_, ho.cls⟩, hd⟩⟩
    have J := I7.within (.ref ea)
    refine store_ok (X := X.within (.ref ea)) J hN hi (.inl hki) (show RelV (.ref ea) (.ref ea) from rfl) (fun s8 I8 => ?_) (.inr hki)
    have hiσ : i < σ.length := by rw [I1.len]; exact (List.getElem?_eq_some_iff.mp hi).1
    have z := pss_one (ps_set (X := X.within (.ref ea)) (pos := apos) (pos' := py) (i := j) hN hj (.inl hkj) (pe_var (X := X.within (.ref ea)) (pos := np) hi (.inl hki) hnb hnc) hs (.inr hkj)) pins s8 (σ.set i (some (.ref ea))) (upd H' ea (excD ea C dd))
      { nx := fun σ9 H9 => σ9 = (σ.set i (some (.ref ea))).set j (some (.ref ea)) ∧ H9 = upd H' ea (excD ea C dd), rt := fun _ _ => False } I8 ⟨_, List.getElem?_set_self hiσ, rfl, rfl⟩
    refine wpAny_mono z (fun f s9 hf => ?_) (fun _ _ q => q.elim)
    cases f with
    | next =>
      obtain ⟨σ9, H9, I9, rfl, rfl⟩ := hf
      refine name_gone (I9.without I1.ok) hN hi hki fun s10 I10 => ?_
      exact ⟨_, _, I10, hk ea nH⟩
    | brk => obtain ⟨_, _, _, q⟩ := hf; exact q.elim
    | cont => obtain ⟨_, _, _, q⟩ := hf; exact q.elim
    | ret u => obtain ⟨_, _, _, _, _, q⟩ := hf; exact q.elim
  · have z' := SP.tried z
    cases f with
    | next => exact wpAny_execs_nil z'
    | brk => exact z'
    | cont => exact z'
    | ret u => exact z'
end
end L2
namespace L2
open PySem PySem.Spec PyProof.Rows
variable {X : Cx}
/-! ### a dict that is held still, read -/
def rSortDSR : List V → Hp → VK → Prop := fun xs H Q => ∃ a kvs, ∃ ss : List Str, xs = [.ref a] ∧ Rd H a (.dK kvs) ∧ kvs.map (·.1) = ss.map Sum.inr ∧ kvs.length < 64 ∧ ∀ (p : Addr) (ss' : List Str), ss'.Perm ss → sortedS ss' = true → H p = none → Q (.ref p) (upd H p (.lst (ss'.map V.str)))
def tListValsR (td : TE) : TE := fun σ H Q => td σ H fun x H1 => ∃ a kvs, x = .ref a ∧ Rd H1 a (.dK kvs) ∧ ∀ p, H1 p = none → Q (.ref p) (upd H1 p (.lst (kvs.map (·.2))))
end L2

namespace L2
open PySem PySem.Spec PyProof.Rows
/-! ### heaps that grow, in which dicts may come to be held still -/
def Fz (H H' : Hp) : Prop := ∀ b o, H b = some o → H' b = some o ∨ ∃ ob kvs, o = .dK kvs ∧ H' b = some (.frz ob (.dK kvs))
/-- d is held still, all else is as it was -/
def Hld (d : Addr) (ob : Obj) (kvs : List (Key × V)) (H H' : Hp) : Prop := H' d = some (.frz ob (.dK kvs)) ∧ (∀ b, b ≠ d → H' b = H b) ∧ (H d = some (.dK kvs) ∨ H d = some (.frz ob (.dK kvs)))
section
variable {X : Cx}
/-- a dict walked that may be held still already -/
def iDictR (tl : TE) : TI := fun σ H R => tl σ H fun x H1 => ∃ d kvs, x = .ref d ∧ Rd H1 d (.dK kvs) ∧ ∀ ob H2, Hld d ob kvs H1 H2 → R (Itd d ob kvs) H2
/-! ### dict(d), isinstance(d, dict) -/
def rDictD : List V → Hp → VK → Prop := fun xs H Q => ∃ a kvs, xs = [.ref a] ∧ Rd H a (.dK kvs) ∧ ∀ p, H p = none → Q (.ref p) (upd H p (.dK kvs))
/-! ### == and != of dicts that tell the same -/
/-- each value of the one is told by the other -/
def DDeq (K : PySem.W.Frag) (H : Hp) (ka kb : List (Key × V)) : Prop := ka.length = kb.length ∧ ∀ kv ∈ ka, ∃ v' d, valV kb kv.1 = some v' ∧ Dv K H 30 kv.2 d ∧ Dv K H 30 v' d
def rNeDD (K : PySem.W.Frag) : R2 := fun x y H Q => ∃ a b ka kb, x = .ref a ∧ y = .ref b ∧ Rd H a (.dK ka) ∧ Rd H b (.dK kb) ∧ DDeq K H ka kb ∧ Q (.bl false) H
def rEqDD (K : PySem.W.Frag) : R2 := fun x y H Q => ∃ a b ka kb, x = .ref a ∧ y = .ref b ∧ Rd H a (.dK ka) ∧ Rd H b (.dK kb) ∧ DDeq K H ka kb ∧ Q (.bl true) H
end
end L2

namespace L2
open PySem PySem.Spec PyProof.Rows
/-! ### != of two lists of dicts that tell the same, at one program -/
/-- the two are equal, at this program -/
def EqIn (P : Program) (w : World) (A : Around) (s : Shared) (y x : Value) : Prop := ∀ (E : Value → Shared → Prop) (Q : Bool → Shared → Prop), Q true s → wpAny (model P w) A (eqBool y x) Q E s
section
open AutoSeq1 MeetsSeq MeetsSeq2 MeetsSeq3 SeqAt
variable {P : Program} {w : World}
end
section
variable {X : Cx}
def rNeLD (K : PySem.W.Frag) : R2 := fun x y H Q => ∃ a b xs ys, x = .ref a ∧ y = .ref b ∧ SqL K H a xs ∧ SqL K H b ys ∧ xs.length = ys.length ∧
  (∀ (j : Nat) x y, xs[j]? = some x → ys[j]? = some y → ∃ da db ka kb, x = .ref da ∧ y = .ref db ∧ Rd H da (.dK ka) ∧ Rd H db (.dK kb) ∧ DDeq K H ka kb) ∧ Q (.bl false) H
end
end L2

namespace HT
open PySem PyProof.Rows
/-- t < u of tuples of texts -/
def lexLtS : List Str → List Str → Bool
  | [], [] => false
  | [], _ :: _ => true
  | _ :: _, [] => false
  | x :: xs, y :: ys => if x = y then lexLtS xs ys else decide (x.cps.toList < y.cps.toList)
section
open PySem.SeqAt
open PySem.AutoSeq1 (wpAny_loadPart')
open PySem.MeetsSeq PySem.MeetsSeq2 PySem.MeetsSeq3

end

section
variable {prog : Program} {w : World} {A : Around} {E : Value → Shared → Prop} {s : Shared}

end
end HT
namespace L2
open PySem PySem.Spec PyProof.Rows
section
variable {X : Cx}
def rLtTS (K : PySem.W.Frag) : R2 := fun x y H Q => ∃ a b ns ms, x = .ref a ∧ y = .ref b ∧ SqT K H a (ns.map V.str) ∧ SqT K H b (ms.map V.str) ∧ Q (.bl (HT.lexLtS ns ms)) H
end
end L2

namespace L2
open PySem PySem.Spec PyProof.Rows
/-! ### for i, x in enumerate(xs), xs a list -/
/-- the i-th item of a list and i, in a new tuple -/
def Ite (K : PySem.W.Frag) (b : Addr) : It :=
  ⟨fun i H => ∃ ys, SqL K H b ys ∧ i < ys.length,
   fun i H v H' => ∃ T, H T = none ∧ v = .ref T ∧ ∀ ys, SqL K H b ys → ∃ y, ys[i]? = some y ∧ H' = upd H T (.tup [.int i, y]),
   fun i H => ∃ ys, SqL K H b ys ∧ i = ys.length⟩
/-- an enumerate's objects, laid one behind another from n on -/
def EnuSt (n b : Nat) (i : Nat) (h : Heap) : Prop := (∃ old, IsEnum h (n + 1) n (i : Int) old) ∧ h.IsListIter n b i
theorem turn_enum {P : Program} {w : World} {K : PySem.W.Frag} {es : List Expr} {k1 : Nat} {p1 : Pos} {n b : Nat} (hb : b < n) : Turn P w K (.Tuple es k1 p1) (Ite K b) [n + 1, n] (n + 1) (EnuSt n b) where
  mem := by simp
  obj := fun i h st c hc => by
    obtain ⟨⟨old, c1⟩, ⟨o5, d5, _, f5⟩⟩ := st
    have hc' : c = n + 1 ∨ c = n := by simpa using hc
    rcases hc' with e | e
    · subst e; exact ⟨_, c1, fun v z => by cases z⟩
    · subst e; exact ⟨_, d5, fun v z => by rw [f5] at z; cases z⟩
  keep := fun i h h' st k => by
    obtain ⟨⟨old, c1⟩, c5⟩ := st
    exact ⟨⟨old, k _ (by simp) _ c1⟩, c5.at fun o e => k _ (by simp) o e⟩
  item := by
    intro X hP hw hK hc i pins s σ H E I hf st hg
    subst hP hw hK
    obtain ⟨ys, hy, l2⟩ := hg
    obtain ⟨its', r2, ty, _⟩ := I.list hy
    have e2 := r2.length
    obtain ⟨⟨old, c1⟩, c5⟩ := st
    obtain ⟨vy, hvy⟩ : ∃ v, ys[i]? = some v := ⟨_, List.getElem?_eq_getElem l2⟩
    obtain ⟨uy, huy, ry⟩ := r2.get hvy
    refine wpAny_pyNext_enum_item (x := uy) c1 c5 (isList_of ty) (by rw [← Array.getElem?_toList, List.toList_toArray]; exact huy) (by show (_ : Nat) ≠ _; omega) fun g cz s2 cT sz kp => ⟨.ref s.heap.objs.size, rfl, ?_⟩
    refine wpAny_letOwnedTupleGo_enum (s := { s with heap := g, toks := s.toks + 1 }) cz fun g' cz' sb => ?_
    have hfr : H s.heap.objs.size = none := I.hok.fresh (Nat.le_refl _)
    have I0 : Inv X pins σ (upd H s.heap.objs.size (.tup [.int i, vy])) { s with heap := s.heap.push { cls := .type "tuple", data := .seq #[.int i s.toks, uy] }, toks := s.toks + 1 } :=
      I.laid (fun c u q => Heap.get?_push_of_some _ q) (Nat.le_refl _) ⟨by show 2 ≤ sizeLine; decide, [.int i s.toks, uy], .cons ⟨_, rfl⟩ (.cons ry .nil), ⟨_, Heap.get?_push_size s.heap rfl, rfl, _, rfl⟩⟩
    have lz : n + 1 < s.heap.objs.size := Heap.lt_size c1
    have fpn : ∀ c ∈ [n + 1, n], c ≠ s.heap.objs.size := fun c hc' => by
      have hc'' : c = n + 1 ∨ c = n := by simpa using hc'
      rcases hc'' with e | e <;> (subst e; exact Nat.ne_of_lt (by omega))
    have hf0 : ∀ c ∈ [n + 1, n], FpOk X pins (upd H s.heap.objs.size (.tup [.int i, vy])) c := fun c hc' => ⟨by rw [upd_ne (fpn c hc')]; exact (hf c hc').1, (hf c hc').2⟩
    have I1 : Inv X pins σ (upd H s.heap.objs.size (.tup [.int i, vy])) { s with heap := g', toks := s.toks + 1 } := by
      refine Inv.turnedL (s := { s with heap := s.heap.push { cls := .type "tuple", data := .seq #[.int i s.toks, uy] }, toks := s.toks + 1 }) (h' := g') (t' := s.toks + 1) (ch := [n + 1, n]) I0 (fun c o hc' e => ?_) hf0
      replace e : (s.heap.push { cls := .type "tuple", data := .seq #[.int i s.toks, uy] }).get? c = some o := e
      have hn : ∀ d ∈ [n + 1, n], c ≠ d := fun d hd z => hc' (by rw [z]; exact hd)
      refine sb.extBut _ _ (hn _ (by simp)) ?_
      by_cases ec : c = s.heap.objs.size
      · rw [ec] at e ⊢
        rw [Heap.get?_push_size s.heap rfl] at e
        cases e
        exact cT
      · rw [Heap.get?_push_ne _ _ _ ec] at e
        exact kp c o (hn _ (by simp)) (hn _ (by simp)) e
    refine ⟨.ref s.heap.objs.size, _, I1, rfl, ⟨_, hfr, rfl, fun ys' hy' => ⟨vy, by rw [I.list_inj hy' hy]; exact hvy, rfl⟩⟩, ?_, fun c hc' => (hf0 c hc').1⟩
    exact ⟨⟨uy, cz'⟩, s2.extBut sb.extBut (Nat.ne_of_lt (Nat.lt_succ_self n))⟩
  done := by
    intro X hP hw hK hc i pins s σ H E I hf st hg
    subst hP hw hK
    obtain ⟨ys, hy, l⟩ := hg
    obtain ⟨its', r2, ty, _⟩ := I.list hy
    have e2 := r2.length
    obtain ⟨⟨old, c1⟩, c5⟩ := st
    have hh : X.A.handled = none := I.ok.hd hc
    refine wpAny_pyNext_enum_end hh c1 c5 (isList_of ty) (by rw [← Array.getElem?_toList, List.toList_toArray]; exact List.getElem?_eq_none (by omega)) fun g kp => ⟨rfl, I.turnedL (t' := s.toks) (ch := [n + 1, n]) (fun c o hc' e => ?_) hf⟩
    exact kp c o (fun z => hc' (by rw [z]; simp)) e
  self := fun _ _ _ _ _ st h => let ⟨⟨_, c1⟩, _⟩ := st; wpAny_pyIter_enum c1 h
def iEnu (K : PySem.W.Frag) (ta : TA) : TI := fun σ H R => ta σ H fun vs H1 => ∃ b, vs = [.ref b] ∧ (∃ ys, SqL K H1 b ys) ∧ R (Ite K b) H1
theorem bt_enumerate : bootBuiltins "enumerate" = some (.type "enumerate") := by decide +kernel
theorem pi_enum {X : Cx} {es : List Expr} {k1 : Nat} {p1 : Pos} {e1 : Expr} {ta : TA} {p pos : Pos} (hg : Gl X "enumerate") (hm : X.mg "enumerate" = none) (ha : PA X [e1] ta) (hs : starEach [e1] X.env = [(false, eval e1 X.env)] := by rfl) :
    PI X (.Tuple es k1 p1) (.Call (.Name "enumerate" p) [e1] [] pos) (iEnu X.K ta) := by
  intro pins s σ H R I h
  refine Call_ (ld_blt I hg hm bt_enumerate (PyProof.Rows.callWith_type1 (thn (ha pos pins s σ H _ I h) fun us s1 ⟨vs, H1, I1, r1, q1⟩ => ?_) hs rfl))
  obtain ⟨b, rfl, ⟨ys, hy⟩, q⟩ := q1
  cases r1 with
  | cons r rr =>
    cases rr
    cases r
    obtain ⟨its', _, ty, _⟩ := I1.list hy
    have lb : b < s1.heap.objs.size := by obtain ⟨o, e, _⟩ := isList_of ty; exact Heap.lt_size e
    refine call_enumerate_list (isList_of ty) fun g c1 c5 _ kp => wpAny_pyIter_enum c1 ?_
    have I2 : Inv X pins σ H1 { s1 with heap := g } := I1.kept (t' := s1.toks) kp
    refine ⟨s1.heap.objs.size + 1, _, _, _, H1, rfl, I2, turn_enum lb, ⟨⟨_, c1⟩, c5⟩, fun c hc => ?_, q⟩
    refine I1.fpOk ?_ (I1.hok.fresh ?_)
    all_goals
      have hc' : c = s1.heap.objs.size + 1 ∨ c = s1.heap.objs.size := by simpa using hc
      rcases hc' with e | e <;> (subst e; omega)
theorem for_enum {K : PySem.W.Frag} {b : Addr} {ys : List V} {g : TG} {tb : TS} {D : Ends} {σ : St} {H : Hp} (Pv : Nat → St → Hp → Prop) (h0 : Pv 0 σ H) (hl : ∀ i σ H, i ≤ ys.length → Pv i σ H → SqL K H b ys)
    (hs : ∀ i y T σ H, ys[i]? = some y → H T = none → Pv i σ H → g (.ref T) σ (upd H T (.tup [.int (i : Nat), y])) fun σ2 H2 => tb { D with nx := Pv (i + 1), ct := Pv (i + 1), bk := D.nx } σ2 H2) (hd : ∀ σ H, Pv ys.length σ H → D.nx σ H) :
    ∃ W : Nat → Nat → St → Hp → Prop, (∃ m, W 0 m σ H) ∧ ∀ i m σ H, W i m σ H →
      ((Ite K b).stop i H ∧ D.nx σ H) ∨ ((Ite K b).go i H ∧ ∃ N : St → Hp → Prop, (∀ σ' H', N σ' H' → ∃ m', m' < m ∧ W (i + 1) m' σ' H') ∧ ∀ v H', (Ite K b).yld i H v H' → g v σ H' fun σ2 H2 => tb { D with nx := N, ct := N, bk := D.nx } σ2 H2) := by
  refine ⟨fun i m σ H => m = ys.length - i ∧ i ≤ ys.length ∧ Pv i σ H, ⟨ys.length, by simp, Nat.zero_le _, h0⟩, ?_⟩
  rintro i m σ H ⟨rfl, hi, p⟩
  have q2 := hl i σ H hi p
  by_cases hlt : i < ys.length
  · refine .inr ⟨⟨ys, q2, hlt⟩, Pv (i + 1), fun σ' H' p' => ⟨ys.length - (i + 1), by omega, rfl, hlt, p'⟩, fun v H' y => ?_⟩
    obtain ⟨T, hT, rfl, y⟩ := y
    obtain ⟨y', e2, rfl⟩ := y ys q2
    exact hs i y' T σ H e2 hT p
  · have e : i = ys.length := by omega
    subst e
    exact .inl ⟨⟨ys, q2, rfl⟩, hd σ H p⟩
end L2

namespace L2
open PySem PySem.Spec PyProof.Rows
/-! ### a op1 b op2 c op3 d -/
section
variable {X : Cx} {a b c d : Expr} {ta tb tc td : TE} {pos : Pos}
def tChain3 (r r' r'' : R2) (ta tb tc td : TE) : TE := fun σ H Q => ta σ H fun x H1 => tb σ H1 fun y H2 => r x y H2 fun z H3 => ∃ k, z = .bl k ∧
  (if k = true then tc σ H3 fun w' H4 => r' y w' H4 fun z' H5 => ∃ k', z' = .bl k' ∧ (if k' = true then td σ H5 fun w'' H6 => r'' w' w'' H6 Q else Q (.bl false) H5) else Q (.bl false) H3)
theorem pe_chain3 {op op' op'' : CmpOp} {r r' r'' : R2} (ho : OpR X (compareOp op) r) (ho' : OpR X (compareOp op') r') (ho'' : OpR X (compareOp op'') r'') (ha : PE X a ta) (hb : PE X b tb) (hc : PE X c tc) (hd : PE X d td)
    (hm : lastMarks [op, op', op''] [b, c, d] = false := by with_unfolding_all rfl) : PE X (.Compare a [op, op', op''] [b, c, d] pos) (tChain3 r r' r'' ta tb tc td) := by
  intro pins s σ H Q I h
  refine Compare_chain (thn (ha pins s σ H _ I h) fun v s1 ⟨x, H1, I1, r1, q1⟩ => chain_link (thn (hb pins s1 σ H1 _ I1 q1) fun u s2 ⟨y, H2, I2, r2, q2⟩ =>
    thn (ho pins s2 σ H2 x y v u _ I2 r1 r2 q2) fun _ s3 ⟨z, H3, I3, r3, k, e, q3⟩ => ?_)) hm
  subst e
  cases r3
  refine wpAny_truthy_bool ?_
  cases k with
  | false => exact ite_ff ⟨.bl false, H3, I3, rfl, q3⟩
  | true =>
    refine ite_tt (chain_link (thn (hc pins s3 σ H3 _ I3 q3) fun u' s4 ⟨y', H4, I4, r4, q4⟩ => thn (ho' pins s4 σ H4 y y' u u' _ I4 r2 r4 q4) fun _ s5 ⟨z', H5, I5, r5, k', e', q5⟩ => ?_))
    subst e'
    cases r5
    refine wpAny_truthy_bool ?_
    cases k' with
    | false => exact ite_ff ⟨.bl false, H5, I5, rfl, q5⟩
    | true => exact ite_tt (chain_last (thn (hd pins s5 σ H5 _ I5 q5) fun w' s6 ⟨z2, H6, I6, r6, q6⟩ => ho'' pins s6 σ H6 y' z2 u' w' Q I6 r4 r6 q6))
end
end L2

namespace L2
open PySem PySem.Spec PyProof.Rows
/-! ### the statements of a def under names: what follows stays small -/
section
variable {D : Ends} {σ : L2.St} {H : Hp}
/-- the names' values told anew -/
theorem st {u : TS} (τ : L2.St) (e : σ = τ) (h : u D τ H) : u D σ H := e ▸ h
end
end L2

namespace L2
open PySem PySem.Spec PyProof.Rows PySem.W
section
variable {X : Cx}
end
end L2
namespace TM
open PySem PySem.Spec PyProof.Rows PySem.W
/-- the letter j places on, round the 26 -/
def rd (c j : Nat) : Nat := 97 + (c - 97 + j) % 26
abbrev LET : Str := "abcdefghijklmnopqrstuvwxyz"
theorem at_let {j : Nat} (h : j < 26) : (cps LET)[j]? = some (97 + j) := by
  have all : ∀ k : Fin 26, (cps LET)[k.val]? = some (97 + k.val) := by decide +kernel
  exact all ⟨j, h⟩
end TM

namespace GM
/-- t over b, in lowest terms, is N over M -/
structure Fr (M t b N : Int) : Prop where
  am : Amt t b
  e : t * M = N * b
end GM

namespace K81
open PySem PySem.Spec PyProof.Rows L2 GM TM
def top (i : Nat) : Stmt := PySem.Challenge.pw_phialhouse_k81_orders_looked_at.main.body.getD i (.Pass ⟨0, 0, 0, 0⟩)
abbrev cNoOrder : Stmt := top 18
abbrev sIsWh : Stmt := top 21
abbrev sIsWare : Stmt := top 25
abbrev sLook : Stmt := top 29
abbrev sIsOrd : Stmt := top 30
abbrev sCell : Stmt := top 32
abbrev sWhole : Stmt := top 33
abbrev sMixed : Stmt := top 34
abbrev sOrders : Stmt := top 35
abbrev sNames : Stmt := top 36
abbrev sTurns : Stmt := top 37
abbrev sOdd : Stmt := top 38
abbrev sRows : Stmt := top 39
abbrev sGood : Stmt := top 40
abbrev sFault : Stmt := top 41
abbrev sRefused : Stmt := top 42
abbrev sWord : Stmt := top 43
abbrev sOrdBy : Stmt := top 44
abbrev sTurnsBy : Stmt := top 45
abbrev sLaw : Stmt := top 46
abbrev sInit : Stmt := inClass cNoOrder 0
structure Txt (mg : Str → Option Value) : Prop where
  isi : mg "isinstance" = none
  int' : mg "int" = none
  bool' : mg "bool" = none
  tup' : mg "tuple" = none
  str' : mg "str" = none
  len : mg "len" = none
  range : mg "range" = none
  min' : mg "min" = none
  abs' : mg "abs" = none
  list' : mg "list" = none
  all' : mg "all" = none
  enu : mg "enumerate" = none
  val : mg "ValueError" = none
def spCell (K : PySem.W.Frag) : Sp := fun vs H Q _ => ∃ (a : Addr) (ns : List Int) (k : Int), vs = [.ref a, .int k] ∧ SqL K H a (ns.map V.int) ∧ 0 ≤ k ∧ ∀ c : Int, Q (.int c) H
structure Wr (x : Str) : Prop where
  l1 : 1 ≤ x.length
  l8 : x.length ≤ 8
  lt : ∀ c ∈ cps x, 97 ≤ c ∧ c ≤ 122
instance (x : Str) : Decidable (Wr x) := decidable_of_iff ((1 ≤ x.length ∧ x.length ≤ 8) ∧ ∀ c ∈ cps x, 97 ≤ c ∧ c ≤ 122) ⟨fun h => ⟨h.1.1, h.1.2, h.2⟩, fun h => ⟨⟨h.l1, h.l8⟩, h.lt⟩⟩
instance (x : Str) : Decidable (Wr x) := decidable_of_iff ((1 ≤ x.length ∧ x.length ≤ 8) ∧ ∀ c ∈ cps x, 97 ≤ c ∧ c ≤ 122) ⟨fun h => ⟨h.1.1, h.1.2, h.2⟩, fun h => ⟨⟨h.l1, h.l8⟩, h.lt⟩⟩
def spIsWare (K : PySem.W.Frag) : Sp := fun vs H Q _ => ∃ v, vs = [v] ∧ ((IsiD K H v "str" false ∧ Q (.bl false) H) ∨ ∃ x : Str, v = .str x ∧ x.length ≤ 1000 ∧ (Wr x → ∀ H', Same H H' → Q (.bl true) H') ∧ (¬ Wr x → ∀ H', Same H H' → Q (.bl false) H'))
section
variable {P : Program} {w : World} {K : PySem.W.Frag} {mg : Str → Option Value} {base : Heap}
theorem b6 {n : Nat} {x : Int} (h : Bt n x) (hn : n ≤ 1000000 := by decide) : Bt 1000000 x := h.mono hn
theorem bt_lt (n : Nat) {x c : Int} (h0 : 0 ≤ x) (h : x < c) (hc : c ≤ ((2 ^ n : Nat) : Int) := by decide +kernel) : Bt n x := by
  show x.natAbs < 2 ^ n
  omega
theorem emod_in (x : Int) {m : Int} (h : 0 < m) : 0 ≤ x % m ∧ x % m < m := ⟨Int.emod_nonneg x (by omega), Int.emod_lt_of_pos x h⟩
theorem bt_int : bootBuiltins "int" = some (.type "int") := by decide +kernel
theorem bt_bool : bootBuiltins "bool" = some (.type "bool") := by decide +kernel
theorem bt_tuple : bootBuiltins "tuple" = some (.type "tuple") := by decide +kernel
theorem bt_str : bootBuiltins "str" = some (.type "str") := by decide +kernel
theorem bl {c : Int} (h0 : 0 ≤ c := by decide) (h : c < 18446744073709551616 := by decide) : Bt 1000000 c := b6 (bt_lt 64 h0 h)
theorem scCell : FnScope ["_law_script", "_law_k"] ["_law_script", "_law_k"] (defScope sCell) := ⟨rfl, rfl, rfl, by decide +kernel, rfl, by decide +kernel, by decide +kernel⟩
theorem ok_cell {f : Addr} {fd : FuncData} (F : Fun K "_law_cell_at" "_law_cell_at" sCell f fd) (T : Txt mg) : FnOk P w K mg base CX0 1 f fd ["_law_script", "_law_k"] (spCell K) := by
  refine F.ok scCell (fun vs H Q E h => ?_) (fun cdv A outer s H vs Q E hr h => ?_)
  · obtain ⟨_, _, _, rfl, _⟩ := h
    rfl
  · obtain ⟨a, ns, j, rfl, hS, h0, k⟩ := h
    refine ⟨_, (pss_cons (ps_if (pt_cmpR op_lt (pv 1) (pe_callB call_len_seq rfl T.len PySem.boot_len (pa_cons (pv 0) pa_nil)) (nomark _))
        (pss_one (ps_ret (pe_ix ix_list (pv 0) (pv 1) (fun _ _ => rfl))))
        pss_nil)
      (pss_one (ps_ret pe_int))), ?_⟩
    refine ⟨_, rfl, _, rfl, a, _, rfl, .inl hS, _, _, rfl, rfl, _, rfl, ite2 (fun hc => ?_) (fun _ => k _)⟩
    have hc' : j < ((ns.map V.int).length : Int) := of_decide_eq_true hc
    rw [List.length_map] at hc'
    obtain ⟨i, rfl⟩ := Int.eq_ofNat_of_zero_le h0
    obtain ⟨c, hc⟩ : ∃ c, ns[i]? = some c := ⟨_, List.getElem?_eq_getElem (show i < ns.length by omega)⟩
    exact ⟨_, rfl, _, rfl, a, _, (i : Int), .int c, rfl, rfl, hS, atI_nat (by rw [List.getElem?_map, hc]; rfl), k c⟩
theorem bt_abs : bootBuiltins "abs" = some (.builtin "abs") := by decide +kernel
theorem lenC (x : Str) : x.length = (cps x).length := by simp [Str.length, cps]
theorem lenA (x y : Str) : (x ++ y).length = x.length + y.length := by rw [lenC, cps_append', List.length_append, ← lenC, ← lenC]
theorem in_strs {x : Str} {ws : List Str} : inV (.str x) (ws.map V.str) = true ↔ x ∈ ws := by
  unfold inV
  rw [List.any_map, List.any_eq_true]
  constructor
  · rintro ⟨y, hy, e⟩
    have : y = x := by simpa [eqV] using e
    exact this ▸ hy
  · intro h
    exact ⟨x, h, by simp [eqV]⟩
theorem flat_strs (ws : List Str) : (ws.map V.str).all flatV = true := by
  rw [List.all_map, List.all_eq_true]
  intro x _
  rfl
theorem clOk_plain {X : Cx} {scope : Scope} (h : ∀ y ∈ scope.names, y.2 = .local ∨ y.2 = .globalImplicit) : ClOk X scope [] := by
  refine ⟨closureFor_none fun x hx z => ?_, fun x c e => by simp at e, fun x e => ?_⟩
  · rcases h x hx with q | q <;> rw [q] at z <;> cases z
  · exfalso
    have e' : ∃ k, (k = NameKind.cell ∨ k = NameKind.free) ∧ (relabel scope X.env).names.lookup x = some k := by
      rcases e with e | e
      · exact ⟨_, .inl rfl, e⟩
      · exact ⟨_, .inr rfl, e⟩
    obtain ⟨k, hk, e⟩ := e'
    have hm := PySem.mem_of_lookup e
    obtain ⟨y, hy, hy2⟩ := List.mem_map.mp hm
    have hl := h y hy
    obtain ⟨n, kk⟩ := y
    simp only at hl
    rcases hl with hl | hl <;> subst hl <;> simp at hy2 <;> rcases hk with rfl | rfl <;> exact absurd hy2.2 (by decide)
theorem list_eq {α : Type} {ys l : List α} (hl : ys.length = l.length) (h : ∀ (i : Nat) x y, l[i]? = some x → ys[i]? = some y → y = x) : ys = l := by
  refine List.ext_getElem? fun i => ?_
  by_cases hi : i < l.length
  · have e1 := List.getElem?_eq_getElem hi
    have e2 : ys[i]? = some (ys[i]'(by omega)) := List.getElem?_eq_getElem (by omega)
    rw [e1, e2, h i _ _ e1 e2]
  · rw [List.getElem?_eq_none (by omega), List.getElem?_eq_none (by omega)]
theorem nd1 : (["sign"] : List Str).Nodup := by decide +kernel
theorem let_mem (c : Nat) : (!(Builtin.Str.occurrences LET ⟨#[c]⟩ 0 LET.length 1).isEmpty) = decide (97 ≤ c ∧ c ≤ 122) := by
  rw [StrLaws.found_one]
  have e : LET.cps.toList = (List.range 26).map (97 + ·) := by decide +kernel
  rw [e]
  refine decide_eq_decide.mpr ⟨fun h => ?_, fun h => ?_⟩
  · obtain ⟨j, hj, rfl⟩ := List.mem_map.mp h
    have := List.mem_range.mp hj
    omega
  · exact List.mem_map.mpr ⟨c - 97, List.mem_range.mpr (by omega), by omega⟩
theorem scIsWare : FnScope ["thing"] ["thing"] (defScope sIsWare) := ⟨rfl, rfl, rfl, by decide +kernel, rfl, by decide +kernel, by decide +kernel⟩
theorem ok_isware {f : Addr} {fd : FuncData} {tk tk' : Tok} (F : Fun K "is_ware" "is_ware" sIsWare f fd) (T : Txt mg) (mM : mg "MOST_LETTERS" = some (.int 8 tk)) (mL : mg "LETTERS" = some (.str LET tk')) : FnOk P w K mg base CX0 1 f fd ["thing"] (spIsWare K) := by
  refine F.ok scIsWare (fun vs H Q E h => ?_) (fun cdv A outer s H vs Q E hr h => ?_)
  · obtain ⟨_, rfl, _⟩ := h
    rfl
  · obtain ⟨v, rfl, h⟩ := h
    refine ⟨_, (pss_cons (ps_if (pt_not (pt_val (pe_callB call_isiZ rfl T.isi boot_isinstance (pa_cons (pv 0) (pa_cons (pe_bltn (v := .ty "str") rfl T.str' bt_str rfl) pa_nil)))))
        (pss_one (ps_ret pe_bl)) pss_nil)
      (pss_one (ps_ret (pe_and (pe_chain op_le op_le pe_int (pe_callB call_len_str rfl T.len PySem.boot_len (pa_cons (pv 0) pa_nil)) (pe_glob (v := .int 8) rfl mM ⟨_, rfl⟩)) (pe_one (pe_callB (call_allB rfl) rfl T.all' boot_all (pa_cons (pe_comp (N' := ["sign"]) (cl := []) (fun _ => [none]) rfl rfl (by decide +kernel) (by decide +kernel) (clOk_plain (by decide +kernel)) (fun _ _ => blkN_none)
            (pi_str (pv 0)) (fun _ _ _ _ _ => pg_name (i := 0) nd1 rfl (Or.inl rfl)) (fun _ _ _ _ _ => pifs_nil) (fun _ _ _ _ _ => pe_cmpR op_in_str (pv 0) (pe_glob (v := .str LET) rfl mL ⟨_, rfl⟩) rfl)) pa_nil))))))), ?_⟩
    rcases h with ⟨hi, hb⟩ | ⟨x, rfl, hl, kT, kF⟩
    · exact ⟨_, rfl, v, "str", false, rfl, hi, _, rfl, iteT hb⟩
    · have hz := sz1000 hl
      have le := lenC x
      refine ⟨_, rfl, _, "str", true, rfl, .inl .str_str, _, rfl, iteF ?_⟩
      refine ⟨_, rfl, x, rfl, hz, _, _, rfl, rfl, _, rfl, ite2 (fun h1 => ?_) (fun h1 => ?_)⟩
      · have h1' : (1 : Int) ≤ (x.length : Int) := of_decide_eq_true h1
        refine ⟨_, _, rfl, rfl, _, rfl, ?_⟩
        by_cases h2 : (x.length : Int) ≤ 8
        · rw [decide_eq_true h2]
          refine iteT ⟨_, rfl, x, rfl, fun D hD => ?_⟩
          refine comp_str (fun i ys H' => ys = ((cps x).take i).map (fun c => V.bl (decide (97 ≤ c ∧ c ≤ 122))) ∧ Same H H' ∧ H' D = some (.lst ys)) ⟨by simp, Same.upd hD, upd_same⟩ ?_ ?_ ?_
          · rintro i ys H' hi ⟨rfl, _, hD'⟩
            refine ⟨hD', ?_⟩
            rw [List.length_map, List.length_take]
            exact small1000 (by omega)
          · rintro i c ys H' hc ⟨rfl, sm, hD'⟩
            refine ⟨(Keep.refl _).set rfl, ?_⟩
            unfold tNoIf
            dsimp only
            rw [if_pos rfl]
            refine ⟨_, rfl, _, _, rfl, rfl, hD', Nx.mk (List.getElem?_eq_some_iff.mp hc).1 ⟨?_, fun b o hb => ?_, upd_same⟩⟩
            · rw [let_mem, List.take_add_one, hc, List.map_append]
              rfl
            · have ne : b ≠ D := fun z => by rw [z, hD] at hb; cases hb
              rw [upd_ne ne]
              exact sm b o hb
          · rintro ys H' ⟨rfl, sm, hD'⟩
            rw [List.take_of_length_le (Nat.le_refl _)] at hD'
            refine ⟨D, (cps x).map (fun c => decide (97 ≤ c ∧ c ≤ 122)), rfl, SqL.of (by rw [List.map_map]; exact hD'), ?_⟩
            by_cases a : ∀ c ∈ cps x, 97 ≤ c ∧ c ≤ 122
            · have e : ((cps x).map (fun c => decide (97 ≤ c ∧ c ≤ 122))).all id = true := by
                rw [List.all_map, List.all_eq_true]
                exact fun c hc => decide_eq_true (a c hc)
              rw [e]
              exact kT ⟨by omega, by omega, a⟩ _ sm
            · have e : ((cps x).map (fun c => decide (97 ≤ c ∧ c ≤ 122))).all id = false := by
                rw [Bool.eq_false_iff, Ne, List.all_map, List.all_eq_true]
                exact fun h => a fun c hc => of_decide_eq_true (h c hc)
              rw [e]
              exact kF (fun z => a z.lt) _ sm
        · rw [decide_eq_false h2]
          exact iteF (kF (fun z => h2 (by have := z.l8; omega)) _ (Same.refl _))
      · have h1' : ¬ (1 : Int) ≤ (x.length : Int) := fun z => h1 (decide_eq_true z)
        exact ⟨_, rfl, iteF (kF (fun z => h1' (by have := z.l1; omega)) _ (Same.refl _))⟩
theorem b9 {c : Int} (h0 : 0 ≤ c := by decide) (h : c < 18446744073709551616 := by decide) : Bt 9000 c := (bt_lt 64 h0 h).mono (by decide)
theorem if_key {A : Prop} {u : TS} {D : Ends} {σ : L2.St} {H : Hp} {b : Bool} (S : L2.St → Hp → Prop) (h1 : (∀ σ' H', S σ' H' → u D σ' H') → b = true → A) (h2 : ¬ b = true → S σ H) (h : ∀ σ' H', S σ' H' → u D σ' H') : if b = true then A else tNext { D with nx := u D } σ H := by
  by_cases e : b = true
  · rw [if_pos e]
    exact h1 h e
  · rw [if_neg e]
    exact h σ H (h2 e)
theorem same_own {H H' : Hp} {p : Addr} {o : HO} (s : Same H H') (n : H p = none) : Same H (upd H' p o) := fun b u e => by
  rw [upd_ne (fun z => by rw [z, n] at e; cases e)]
  exact s _ _ e
theorem same_none {H H' : Hp} {p : Addr} (s : Same H H') (n : H' p = none) : H p = none := by
  cases e : H p with
  | none => rfl
  | some o =>
    have := s _ _ e
    rw [n] at this
    cases this
end
end K81

namespace K81
open PySem PySem.Spec PyProof.Rows L2 GM TM
/-- what may stand at a number's place: is it a whole number -/
inductive Nv : V → Bool → Prop where
  | int {n} : Nv (.int n) true
  | bl {b} : Nv (.bl b) false
  | non : Nv .non false
  | str {x} : Nv (.str x) false
/-- rows that fail ahead of their numbers -/
inductive Bad (H : Hp) : V → Prop where
  | int {n} : Bad H (.int n)
  | non : Bad H .non
  | str {x} : Bad H (.str x)
  | lst {a xs} : H a = some (.lst xs) → Bad H (.ref a)
  | len {a xs} : H a = some (.tup xs) → xs.length ≠ 4 → Bad H (.ref a)
  | nai {a n x1 x2 x3} : H a = some (.tup [.int n, x1, x2, x3]) → Bad H (.ref a)
  | nal {a l xs x1 x2 x3} : H a = some (.tup [.ref l, x1, x2, x3]) → H l = some (.lst xs) → Bad H (.ref a)
  | war {a x x1 x2 x3} : H a = some (.tup [.str x, x1, x2, x3]) → x.length ≤ 20 → ¬ Wr x → Bad H (.ref a)
theorem Bad.keep {H H' : Hp} {v : V} (h : Bad H v) (s : Same H H') : Bad H' v := by
  cases h with
  | int => exact .int
  | non => exact .non
  | str => exact .str
  | lst h => exact .lst (s _ _ h)
  | len h n => exact .len (s _ _ h) n
  | nai h => exact .nai (s _ _ h)
  | nal h h' => exact .nal (s _ _ h) (s _ _ h')
  | war h n m => exact .war (s _ _ h) n m
def InB (d f l m : Int) : Prop := 0 ≤ f ∧ f ≤ l ∧ l < d ∧ 1 ≤ m ∧ m ≤ 50
instance (d f l m : Int) : Decidable (InB d f l m) := by unfold InB; infer_instance
def Fin5 (d : Int) (x : Str) (x1 x2 x3 : V) (b : Bool) (c : Option Str) : Prop := (b = false → c = none) ∧ (b = true → ∃ f l m : Int, x1 = .int f ∧ x2 = .int l ∧ x3 = .int m ∧ c = if InB d f l m then some x else none)
/-- the rows, and the name that a good one tells -/
inductive RowC (H : Hp) (d : Int) : V → Option Str → Prop where
  | bad {v} : Bad H v → RowC H d v none
  | four {a x x1 x2 x3 b1 b2 b3 c} : H a = some (.tup [.str x, x1, x2, x3]) → Wr x → Nv x1 b1 → Nv x2 b2 → Nv x3 b3 → Fin5 d x x1 x2 x3 (b1 && b2 && b3) c → RowC H d (.ref a) c
theorem RowC.keep {H H' : Hp} {d : Int} {v : V} {c : Option Str} (h : RowC H d v c) (s : Same H H') : RowC H' d v c := by
  cases h with
  | bad h => exact .bad (h.keep s)
  | four h w a b c e => exact .four (s _ _ h) w a b c e
theorem RowC.ints {H : Hp} {d : Int} {a : Addr} {x : Str} {f l m : Int} (h : H a = some (.tup [.str x, .int f, .int l, .int m])) (w : Wr x) : RowC H d (.ref a) (if InB d f l m then some x else none) :=
  .four h w .int .int .int ⟨fun z => (nomatch z), fun _ => ⟨f, l, m, rfl, rfl, rfl, rfl⟩⟩
theorem RowC.num {H : Hp} {d : Int} {a : Addr} {x : Str} {x1 x2 x3 : V} {b1 b2 b3 : Bool} (h : H a = some (.tup [.str x, x1, x2, x3])) (w : Wr x) (n1 : Nv x1 b1) (n2 : Nv x2 b2) (n3 : Nv x3 b3) (e : (b1 && b2 && b3) = false) : RowC H d (.ref a) none :=
  .four h w n1 n2 n3 ⟨fun _ => rfl, fun z => by rw [e] at z; cases z⟩
def spWh : Sp := fun vs H Q _ => ∃ v b, vs = [v] ∧ Nv v b ∧ Q (.bl b) H
def spMixed : Sp := fun vs H Q _ => ∃ c k : Int, vs = [.int c, .int k] ∧ 0 ≤ k ∧ k ≤ 1000 ∧ ∀ n : Int, 0 ≤ n → n < 2147483587 → Q (.int n) H
def spOrd : Sp := fun vs H Q _ => ∃ v d c, vs = [v, .int d] ∧ RowC H d v c ∧ ∀ H', Same H H' → Q (.bl c.isSome) H'
theorem str_ys (x : Str) (H1 : Hp) : Ys (Its x) ((cps x).map fun c => V.str ⟨#[c]⟩) H1 where
  go := fun i H _ hi => by
    rw [List.length_map] at hi
    exact ⟨_, by rw [← Array.getElem?_toList]; exact List.getElem?_eq_getElem (show i < x.cps.toList.length from hi)⟩
  yld := fun i H v H' _ hi y => by
    obtain ⟨rfl, c, hc, rfl⟩ := y
    refine ⟨rfl, ?_⟩
    rw [List.getElem?_map]
    have : (cps x)[i]? = some c := by rw [← hc, ← Array.getElem?_toList]
    rw [this]
    rfl
  stop := fun i H _ hi => by
    rw [List.length_map] at hi
    show x.cps[i]? = none
    rw [← Array.getElem?_toList]
    exact List.getElem?_eq_none hi
section
variable {P : Program} {w : World} {K : PySem.W.Frag} {mg : Str → Option Value} {base : Heap}
theorem bls_eq {ys : List V} {bs : List Bool} (hl : ys.length = bs.length) (h : ∀ (i : Nat) y b, ys[i]? = some y → bs[i]? = some b → y = .bl b) : ys = bs.map V.bl := by
  refine list_eq (by rw [List.length_map]; exact hl) fun i x y hx hy => ?_
  rw [List.getElem?_map] at hx
  cases e : bs[i]? with
  | none => rw [e] at hx; cases hx
  | some b =>
    rw [e] at hx
    cases hx
    exact h i y b hy e
theorem scIsWh : FnScope ["thing"] ["thing"] (defScope sIsWh) := ⟨rfl, rfl, rfl, by decide +kernel, rfl, by decide +kernel, by decide +kernel⟩
theorem ok_iswh {f : Addr} {fd : FuncData} (F : Fun K "is_whole_number" "is_whole_number" sIsWh f fd) (T : Txt mg) : FnOk P w K mg base CX0 1 f fd ["thing"] spWh := by
  refine F.ok scIsWh (fun vs H Q E h => ?_) (fun cdv A outer s H vs Q E hr h => ?_)
  · obtain ⟨_, _, rfl, _⟩ := h
    rfl
  · obtain ⟨v, β, rfl, h, k⟩ := h
    refine ⟨_, pss_one (ps_ret (pe_and (pe_callB call_isi rfl T.isi boot_isinstance (pa_cons (pv 0) (pa_cons (pe_bltn (v := .ty "int") rfl T.int' bt_int rfl) pa_nil)))
      (pe_one (pe_not (pe_callB call_isi rfl T.isi boot_isinstance (pa_cons (pv 0) (pa_cons (pe_bltn (v := .ty "bool") rfl T.bool' bt_bool rfl) pa_nil))))))), ?_⟩
    cases h with
    | int => exact ⟨_, rfl, _, "int", true, rfl, .int_int, _, rfl, iteT ⟨_, rfl, _, "bool", false, rfl, .int_bool, _, rfl, k⟩⟩
    | bl => exact ⟨_, rfl, _, "int", true, rfl, .bl_int, _, rfl, iteT ⟨_, rfl, _, "bool", true, rfl, .bl_bool, _, rfl, k⟩⟩
    | non => exact ⟨_, rfl, _, "int", false, rfl, .non_int, _, rfl, iteF k⟩
    | str => exact ⟨_, rfl, _, "int", false, rfl, .str_int, _, rfl, iteF k⟩
theorem scWhole : FnScope ["_law_found"] ["_law_found"] (defScope sWhole) := ⟨rfl, rfl, rfl, by decide +kernel, rfl, by decide +kernel, by decide +kernel⟩
theorem ok_whole {f : Addr} {fd : FuncData} (F : Fun K "_law_whole" "_law_whole" sWhole f fd) (T : Txt mg) : FnOk P w K mg base CX0 1 f fd ["_law_found"] spWh := by
  refine F.ok scWhole (fun vs H Q E h => ?_) (fun cdv A outer s H vs Q E hr h => ?_)
  · obtain ⟨_, _, rfl, _⟩ := h
    rfl
  · obtain ⟨v, β, rfl, h, k⟩ := h
    refine ⟨_, pss_one (ps_ret (pe_and (pe_callB call_isi rfl T.isi boot_isinstance (pa_cons (pv 0) (pa_cons (pe_bltn (v := .ty "int") rfl T.int' bt_int rfl) pa_nil)))
      (pe_one (pe_not (pe_callB call_isi rfl T.isi boot_isinstance (pa_cons (pv 0) (pa_cons (pe_bltn (v := .ty "bool") rfl T.bool' bt_bool rfl) pa_nil))))))), ?_⟩
    cases h with
    | int => exact ⟨_, rfl, _, "int", true, rfl, .int_int, _, rfl, iteT ⟨_, rfl, _, "bool", false, rfl, .int_bool, _, rfl, k⟩⟩
    | bl => exact ⟨_, rfl, _, "int", true, rfl, .bl_int, _, rfl, iteT ⟨_, rfl, _, "bool", true, rfl, .bl_bool, _, rfl, k⟩⟩
    | non => exact ⟨_, rfl, _, "int", false, rfl, .non_int, _, rfl, iteF k⟩
    | str => exact ⟨_, rfl, _, "int", false, rfl, .str_int, _, rfl, iteF k⟩
theorem scMixed : FnScope ["_law_cell", "_law_k"] ["_law_cell", "_law_k"] (defScope sMixed) := ⟨rfl, rfl, rfl, by decide +kernel, rfl, by decide +kernel, by decide +kernel⟩
theorem ok_mixed {f : Addr} {fd : FuncData} (F : Fun K "_law_mixed" "_law_mixed" sMixed f fd) : FnOk P w K mg base CX0 1 f fd ["_law_cell", "_law_k"] spMixed := by
  refine F.ok scMixed (fun vs H Q E h => ?_) (fun cdv A outer s H vs Q E hr h => ?_)
  · obtain ⟨_, _, rfl, _⟩ := h
    rfl
  · obtain ⟨c, k, rfl, k0, k1, q⟩ := h
    refine ⟨_, pss_one (ps_ret (pe_op op_mod (pe_op op_mulB (pe_op op_add (pe_op op_mod (pv 0) pe_int) pe_int) (pe_op op_add pe_int (pe_op op_mulB (pe_op op_mulB pe_int (pv 1)) (pv 1)))) pe_int)), ?_⟩
    have c1 := emod_in c (m := 2147483647) (by decide)
    have bk1 : Bt 32 k := bt_lt 32 (c := 1001) k0 (by omega)
    have b2 : Bt 34 (2 * k) := (bt_lt 2 (x := 2) (c := 3) (by decide) (by decide)).mul bk1
    have b3 : Bt 66 (c % 2147483647 + 13) := bt_lt 66 (c := 2147483647 + 13) (by omega) (by omega)
    have b4 : Bt 67 (69621 + 2 * k * k) := (bt_lt 66 (x := 69621) (c := 69622) (by decide) (by decide)).add (b2.mul bk1)
    refine ⟨_, rfl, _, _, rfl, rfl, (by show (0 : Int) < 2147483647; decide), _, _, rfl, rfl, _, rfl, _, _, rfl, rfl, ⟨bl, b6 bk1⟩, _, rfl, _, _, rfl, rfl, ⟨b6 b2, b6 bk1⟩, _, _, rfl, rfl, _, _, rfl, rfl, ⟨b6 b3, b6 b4⟩, _, _, rfl, rfl, (by show (0 : Int) < 2147483587; decide), ?_⟩
    have e := emod_in ((c % 2147483647 + 13) * (69621 + 2 * k * k)) (m := 2147483587) (by decide)
    exact q _ e.1 e.2
theorem ndNum : (["number"] : List Str).Nodup := by decide +kernel
theorem scIsOrd : FnScope ["thing", "days"] ["thing", "days"] (defScope sIsOrd) := ⟨rfl, rfl, rfl, by decide +kernel, rfl, by decide +kernel, by decide +kernel⟩
theorem ne4 {n : Nat} (h : n ≠ 4) : (!decide (V.int (n : Int) = V.int 4)) = true := by
  have e : decide (V.int (n : Int) = V.int 4) = false := decide_eq_false fun z => h (by have := V.int.inj z; omega)
  rw [e]
  rfl
/-- the last row of both: the numbers in their bounds -/
theorem fin5 {f l m d : Int} {A : Bool → Prop} (hk : A (decide (InB d f l m))) : (¬ 0 ≤ f → A false) ∧ (0 ≤ f → ¬ f ≤ l → A false) ∧ (0 ≤ f → f ≤ l → ¬ l < d → A false) ∧ (0 ≤ f → f ≤ l → l < d → ¬ 1 ≤ m → A false) ∧ (0 ≤ f → f ≤ l → l < d → 1 ≤ m → A (decide (m ≤ 50))) := by
  refine ⟨fun h => ?_, fun _ h => ?_, fun _ _ h => ?_, fun _ _ _ h => ?_, fun h1 h2 h3 h4 => ?_⟩
  · rwa [decide_eq_false fun z : InB d f l m => h z.1] at hk
  · rwa [decide_eq_false fun z : InB d f l m => h z.2.1] at hk
  · rwa [decide_eq_false fun z : InB d f l m => h z.2.2.1] at hk
  · rwa [decide_eq_false fun z : InB d f l m => h z.2.2.2.1] at hk
  · have e : decide (InB d f l m) = decide (m ≤ 50) := decide_eq_decide.mpr ⟨fun z => z.2.2.2.2, fun z => ⟨h1, h2, h3, h4, z⟩⟩
    rwa [e] at hk
theorem some_if {p : Prop} [Decidable p] {x : Str} : (if p then some x else none).isSome = decide p := by
  by_cases h : p
  · rw [if_pos h, decide_eq_true h]; rfl
  · rw [if_neg h, decide_eq_false h]; rfl
theorem all3 (b1 b2 b3 : Bool) : [b1, b2, b3].all id = (b1 && b2 && b3) := by cases b1 <;> cases b2 <;> cases b3 <;> rfl
theorem ok_isord {f : Addr} {fd : FuncData} {tk : Tok} (F : Fun K "is_order" "is_order" sIsOrd f fd) (T : Txt mg) (mT : mg "MOST_TURNS" = some (.int 50 tk)) (cW : Cal P w K mg base CX0 1 "is_ware" ["thing"] (spIsWare K)) (cN : Cal P w K mg base CX0 1 "is_whole_number" ["thing"] spWh) : FnOk P w K mg base CX0 2 f fd ["thing", "days"] spOrd := by
  refine F.ok scIsOrd (fun vs H Q E h => ?_) (fun cdv A outer s H vs Q E hr h => ?_)
  · obtain ⟨_, _, _, rfl, _⟩ := h
    rfl
  · obtain ⟨v, d, c, rfl, h, k⟩ := h
    refine ⟨_, (pss_cons (ps_if (PW.pt (pw_or (pt_not (pt_val (pe_callB call_isi rfl T.isi boot_isinstance (pa_cons (pv 0) (pa_cons (pe_bltn (v := .ty "tuple") rfl T.tup' bt_tuple rfl) pa_nil))))) (pw_or (pt_cmpR op_ne (pe_callB call_len_seq rfl T.len PySem.boot_len (pa_cons (pv 0) pa_nil)) pe_int (nomark _)) (pw_or1 (pt_not (pt_val (pe_cal cW hr rfl pass0 (pa_cons (pit 0 0) pa_nil))))))))
        (pss_one (ps_ret pe_bl))
        pss_nil)
      (pss_cons (ps_if (pt_not (pt_val (pe_callB (call_allB rfl) rfl T.all' boot_all (pa_cons (pe_comp (N' := ["number"]) (cl := []) (fun _ => [none]) rfl rfl (by decide +kernel) (by decide +kernel) (clOk_plain (by decide +kernel)) (fun _ _ => blkN_none)
            (pi_tup (pe_slice sl_tup (pv 0) (po_some pe_int) po_none)) (fun _ _ _ _ _ => pg_name (i := 0) ndNum rfl (Or.inl rfl)) (fun _ _ _ _ _ => pifs_nil)
            (fun _ _ _ _ _ => pe_cal cN hr rfl pass0 (pa_cons (pv 0) pa_nil))) pa_nil))))
        (pss_one (ps_ret pe_bl))
        pss_nil)
      (pss_one (ps_ret (pe_and (pe_chain3 op_le op_le op_lt pe_int (pit 0 1) (pit 0 2) (pv 1)) (pe_one (pe_chain op_le op_le pe_int (pit 0 3) (pe_glob (v := .int 50) rfl mT ⟨_, rfl⟩)))))))), ?_⟩
    have kr := k _ (Same.refl _)
    cases h with
    | bad h =>
      cases h with
      | int => exact ⟨_, rfl, _, "tuple", false, rfl, .int_tuple, _, rfl, iteT kr⟩
      | non => exact ⟨_, rfl, _, "tuple", false, rfl, .non_tuple, _, rfl, iteT kr⟩
      | str => exact ⟨_, rfl, _, "tuple", false, rfl, .str_tuple, _, rfl, iteT kr⟩
      | lst h => exact ⟨_, rfl, _, "tuple", false, rfl, .lst_tuple (SqL.of h), _, rfl, iteT kr⟩
      | @len a xs h n => exact ⟨_, rfl, _, "tuple", true, rfl, .tup_tuple (SqT.of h), _, rfl, iteF ⟨_, rfl, a, _, rfl, .inr (SqT.of h), rfl, _, rfl, ite2 (fun _ => kr) (fun hc => absurd (ne4 n) hc)⟩⟩
      | @nai a n x1 x2 x3 h => exact ⟨_, rfl, _, "tuple", true, rfl, .tup_tuple (SqT.of h), _, rfl, iteF ⟨_, rfl, a, _, rfl, .inr (SqT.of h), rfl, _, rfl, iteF ⟨a, _, _, rfl, SqT.of h, rfl, _, rfl, .inl ⟨.inl .int_str, _, rfl, iteT kr⟩⟩⟩⟩
      | @nal a l xs x1 x2 x3 h h' => exact ⟨_, rfl, _, "tuple", true, rfl, .tup_tuple (SqT.of h), _, rfl, iteF ⟨_, rfl, a, _, rfl, .inr (SqT.of h), rfl, _, rfl, iteF ⟨a, _, _, rfl, SqT.of h, rfl, _, rfl, .inl ⟨.inl (.lst_str (SqL.of h')), _, rfl, iteT kr⟩⟩⟩⟩
      | @war a x x1 x2 x3 h n m => exact ⟨_, rfl, _, "tuple", true, rfl, .tup_tuple (SqT.of h), _, rfl, iteF ⟨_, rfl, a, _, rfl, .inr (SqT.of h), rfl, _, rfl, iteF ⟨a, _, _, rfl, SqT.of h, rfl, _, rfl, .inr ⟨x, rfl, by omega, fun z => absurd z m, fun _ H' s' => ⟨_, rfl, iteT (k _ s')⟩⟩⟩⟩⟩
    | @four a x x1 x2 x3 b1 b2 b3 c h w n1 n2 n3 fn =>
      refine ⟨_, rfl, _, "tuple", true, rfl, .tup_tuple (SqT.of h), _, rfl, iteF ⟨_, rfl, a, _, rfl, .inr (SqT.of h), rfl, _, rfl, iteF ⟨a, _, _, rfl, SqT.of h, rfl, _, rfl, .inr ⟨x, rfl, by have := w.l8; omega, fun _ H1 s1 => ⟨_, rfl, iteF ?_⟩, fun z => absurd w z⟩⟩⟩⟩
      have h1 := s1 _ _ h
      refine ⟨_, rfl, _, rfl, a, _, rfl, SqT.of h1, (fun z => by have := z.1; exact absurd this (by show (1 : Nat) ≠ 0; decide)), fun p hp => ⟨p, rfl, ⟨_, SqT.of upd_same⟩, fun D hD => ?_⟩⟩
      have u1 := Same.upd (o := .tup [x1, x2, x3]) hp
      refine comp_rel (xs := [x1, x2, x3]) (Ys.tup (SqT.of upd_same)) (fun i _ y _ => ∀ b, [b1, b2, b3][i]? = some b → y = .bl b) (fun _ _ _ _ _ h _ => h) hD (by show 3 ≤ 1000; decide) (fun i y H2 R hy sm hR => ?_) (fun ys H2 sm hD' yl hy => ?_)
      · obtain ⟨b, g1, g2⟩ : ∃ b, [b1, b2, b3][i]? = some b ∧ Nv y b := by
          match i, hy with
          | 0, hy => cases hy; exact ⟨b1, rfl, n1⟩
          | 1, hy => cases hy; exact ⟨b2, rfl, n2⟩
          | 2, hy => cases hy; exact ⟨b3, rfl, n3⟩
        exact ⟨(Keep.refl _).set rfl, _, rfl, y, b, rfl, g2, hR _ _ (Same.refl _) fun b' e' => by rw [g1] at e'; cases e'; rfl⟩
      · have e := bls_eq (bs := [b1, b2, b3]) yl fun i y b hy' hb' => by
          obtain ⟨x', hx'⟩ : ∃ x', [x1, x2, x3][i]? = some x' := ⟨_, List.getElem?_eq_getElem (by have := (List.getElem?_eq_some_iff.mp hb').1; exact this)⟩
          exact hy i x' y hx' hy' b hb'
        subst e
        have h2 := sm _ _ (u1 _ _ h1)
        have s2 := (s1.trans u1).trans sm
        refine ⟨D, [b1, b2, b3], rfl, SqL.of hD', _, rfl, ?_⟩
        rw [all3]
        refine ite2 (fun hc => ?_) (fun hc => ?_)
        · have z : (b1 && b2 && b3) = false := by cases h : (b1 && b2 && b3) <;> simp_all
          rw [fn.1 z] at k
          exact k _ s2
        · have z : (b1 && b2 && b3) = true := by cases h : (b1 && b2 && b3) <;> simp_all
          obtain ⟨f, l, m, rfl, rfl, rfl, ec⟩ := fn.2 z
          have kk := k _ s2
          rw [ec, some_if] at kk
          obtain ⟨g1, g2, g3, g4, g5⟩ := fin5 (A := fun b => Q (.bl b) H2) kk
          refine ⟨a, _, _, rfl, SqT.of h2, rfl, _, _, rfl, rfl, _, rfl, ite2 (fun q1 => ?_) (fun q1 => ⟨_, rfl, iteF (g1 fun z => q1 (decide_eq_true z))⟩)⟩
          have q1 := of_decide_eq_true q1
          refine ⟨a, _, _, rfl, SqT.of h2, rfl, _, _, rfl, rfl, _, rfl, ite2 (fun q2 => ?_) (fun q2 => ⟨_, rfl, iteF (g2 q1 fun z => q2 (decide_eq_true z))⟩)⟩
          have q2 := of_decide_eq_true q2
          refine ⟨_, rfl, _, _, rfl, rfl, _, rfl, ite2 (fun q3 => ?_) (fun q3 => g3 q1 q2 fun z => q3 (decide_eq_true z))⟩
          have q3 := of_decide_eq_true q3
          refine ⟨a, _, _, rfl, SqT.of h2, rfl, _, _, rfl, rfl, _, rfl, ite2 (fun q4 => ?_) (fun q4 => g4 q1 q2 q3 fun z => q4 (decide_eq_true z))⟩
          exact ⟨_, _, rfl, rfl, g5 q1 q2 q3 (of_decide_eq_true q4)⟩
theorem ndSign : (["_law_sign"] : List Str).Nodup := by decide +kernel
theorem scGood : FnScope ["_law_row", "_law_days"] ["_law_row", "_law_days"] (defScope sGood) := ⟨rfl, rfl, rfl, by decide +kernel, rfl, by decide +kernel, by decide +kernel⟩
theorem wr_filt {x : Str} (hl : x.length ≤ 8) (h1 : 1 ≤ x.length) : ((cps x).filter fun c => !decide (97 ≤ c ∧ c ≤ 122)) = [] ↔ Wr x := by
  rw [List.filter_eq_nil_iff]
  constructor
  · intro h
    exact ⟨h1, hl, fun c hc => by have := h c hc; simpa using this⟩
  · intro h c hc
    have := h.lt c hc
    simp [this]
theorem RowC.inv {H : Hp} {d : Int} {v : V} {c : Option Str} (h : RowC H d v c) : (c = none ∧ Bad H v ∧ ∀ a x x1 x2 x3, v = .ref a → H a = some (.tup [.str x, x1, x2, x3]) → False) ∨ ∃ a x x1 x2 x3, v = .ref a ∧ H a = some (.tup [.str x, x1, x2, x3]) ∧ x.length ≤ 20 ∧ ((¬ Wr x ∧ c = none) ∨ (Wr x ∧ ∃ b1 b2 b3, Nv x1 b1 ∧ Nv x2 b2 ∧ Nv x3 b3 ∧ Fin5 d x x1 x2 x3 (b1 && b2 && b3) c)) := by
  cases h with
  | @four a x x1 x2 x3 b1 b2 b3 c h w n1 n2 n3 fn => exact .inr ⟨a, x, x1, x2, x3, rfl, h, by have := w.l8; omega, .inr ⟨w, b1, b2, b3, n1, n2, n3, fn⟩⟩
  | bad h =>
    cases h with
    | @war a x x1 x2 x3 h n m => exact .inr ⟨a, x, x1, x2, x3, rfl, h, n, .inl ⟨m, rfl⟩⟩
    | int => exact .inl ⟨rfl, .int, fun _ _ _ _ _ z => nomatch z⟩
    | non => exact .inl ⟨rfl, .non, fun _ _ _ _ _ z => nomatch z⟩
    | str => exact .inl ⟨rfl, .str, fun _ _ _ _ _ z => nomatch z⟩
    | lst h => exact .inl ⟨rfl, .lst h, fun _ _ _ _ _ z e => by cases z; rw [h] at e; cases e⟩
    | len h n => exact .inl ⟨rfl, .len h n, fun _ _ _ _ _ z e => by cases z; rw [h] at e; cases e; exact n rfl⟩
    | nai h => exact .inl ⟨rfl, .nai h, fun _ _ _ _ _ z e => by cases z; rw [h] at e; cases e⟩
    | nal h h' => exact .inl ⟨rfl, .nal h h', fun _ _ _ _ _ z e => by cases z; rw [h] at e; cases e⟩
def pL : V → Bool
  | .str y => (!(!(Builtin.Str.occurrences LET y 0 LET.length 1).isEmpty))
  | _ => false
theorem pL_len (x : Str) : (((cps x).map fun c => V.str ⟨#[c]⟩).filter pL).length = ((cps x).filter fun c => !decide (97 ≤ c ∧ c ≤ 122)).length := by
  rw [List.filter_map, List.length_map]
  congr 1
  refine List.filter_congr fun c _ => ?_
  show (!(!(Builtin.Str.occurrences LET ⟨#[c]⟩ 0 LET.length 1).isEmpty)) = _
  rw [let_mem]
theorem ok_good {f : Addr} {fd : FuncData} (F : Fun K "_law_good" "_law_good" sGood f fd) (T : Txt mg) (cN : Cal P w K mg base CX0 1 "_law_whole" ["_law_found"] spWh) : FnOk P w K mg base CX0 2 f fd ["_law_row", "_law_days"] spOrd := by
  refine F.ok scGood (fun vs H Q E h => ?_) (fun cdv A outer s H vs Q E hr h => ?_)
  · obtain ⟨_, _, _, rfl, _⟩ := h
    rfl
  · obtain ⟨v, d, c, rfl, h, k⟩ := h
    refine ⟨_, (pss_cons (ps_if (PW.pt (pw_or (pt_not (pt_val (pe_callB call_isi rfl T.isi boot_isinstance (pa_cons (pv 0) (pa_cons (pe_bltn (v := .ty "tuple") rfl T.tup' bt_tuple rfl) pa_nil))))) (pw_or (pt_cmpR op_ne (pe_callB call_len_seq rfl T.len PySem.boot_len (pa_cons (pv 0) pa_nil)) pe_int (nomark _)) (pw_or1 (pt_not (pt_val (pe_callB call_isi rfl T.isi boot_isinstance (pa_cons (pit 0 0) (pa_cons (pe_bltn (v := .ty "str") rfl T.str' bt_str rfl) pa_nil)))))))))
        (pss_one (ps_ret pe_bl))
        pss_nil)
      (pss_cons (ps_if (PW.pt (pw_or (pt_not (pt_chain op_le op_le pe_int (pe_callB call_len_str rfl T.len PySem.boot_len (pa_cons (pit 0 0) pa_nil)) pe_int)) (pw_or1 (pt_cmpR (op_neL hr.units) (pe_comp (N' := ["_law_sign"]) (cl := []) (fun _ => [none]) rfl rfl (by decide +kernel) (by decide +kernel) (clOk_plain (by decide +kernel)) (fun _ _ => blkN_none)
            (pi_str (pit 0 0)) (fun _ _ _ _ _ => pg_name (i := 0) ndSign rfl (Or.inl rfl)) (fun _ _ _ _ _ => pifs_one (pt_cmpR op_notin_str (pv 0) pe_str rfl)) (fun _ _ _ _ _ => pv 0)) (pe_lst pa_nil) (nomark _)))))
        (pss_one (ps_ret pe_bl))
        pss_nil)
      (pss_cons (ps_if (PW.pt (pw_or (pt_not (pt_val (pe_cal cN hr rfl pass0 (pa_cons (pit 0 1) pa_nil)))) (pw_or (pt_not (pt_val (pe_cal cN hr rfl pass0 (pa_cons (pit 0 2) pa_nil)))) (pw_or1 (pt_not (pt_val (pe_cal cN hr rfl pass0 (pa_cons (pit 0 3) pa_nil))))))))
        (pss_one (ps_ret pe_bl))
        pss_nil)
      (pss_one (ps_ret (pe_and (pe_chain3 op_le op_le op_lt pe_int (pit 0 1) (pit 0 2) (pv 1)) (pe_one (pe_chain op_le op_le pe_int (pit 0 3) pe_int)))))))), ?_⟩
    have kr := k _ (Same.refl _)
    rcases h.inv with ⟨rfl, hb, no⟩ | ⟨a, x, x1, x2, x3, rfl, h, xl, hw⟩
    · clear h
      cases hb with
      | int => exact ⟨_, rfl, _, "tuple", false, rfl, .int_tuple, _, rfl, iteT kr⟩
      | non => exact ⟨_, rfl, _, "tuple", false, rfl, .non_tuple, _, rfl, iteT kr⟩
      | str => exact ⟨_, rfl, _, "tuple", false, rfl, .str_tuple, _, rfl, iteT kr⟩
      | lst h => exact ⟨_, rfl, _, "tuple", false, rfl, .lst_tuple (SqL.of h), _, rfl, iteT kr⟩
      | @len a xs h n => exact ⟨_, rfl, _, "tuple", true, rfl, .tup_tuple (SqT.of h), _, rfl, iteF ⟨_, rfl, a, _, rfl, .inr (SqT.of h), rfl, _, rfl, ite2 (fun _ => kr) (fun hc => absurd (ne4 n) hc)⟩⟩
      | @nai a n x1 x2 x3 h => exact ⟨_, rfl, _, "tuple", true, rfl, .tup_tuple (SqT.of h), _, rfl, iteF ⟨_, rfl, a, _, rfl, .inr (SqT.of h), rfl, _, rfl, iteF ⟨a, _, _, rfl, SqT.of h, rfl, _, "str", false, rfl, .int_str, _, rfl, iteT kr⟩⟩⟩
      | @nal a l xs x1 x2 x3 h h' => exact ⟨_, rfl, _, "tuple", true, rfl, .tup_tuple (SqT.of h), _, rfl, iteF ⟨_, rfl, a, _, rfl, .inr (SqT.of h), rfl, _, rfl, iteF ⟨a, _, _, rfl, SqT.of h, rfl, _, "str", false, rfl, .lst_str (SqL.of h'), _, rfl, iteT kr⟩⟩⟩
      | war h _ _ => exact (no _ _ _ _ _ rfl h).elim
    · have kn : ¬ Wr x → ∀ H', Same H H' → Q (.bl false) H' := fun z H' s' => by
        rcases hw with ⟨_, e⟩ | ⟨e, _⟩
        · rw [e] at k
          exact k _ s'
        · exact absurd e z
      refine ⟨_, rfl, _, "tuple", true, rfl, .tup_tuple (SqT.of h), _, rfl, iteF ⟨_, rfl, a, _, rfl, .inr (SqT.of h), rfl, _, rfl, iteF ⟨a, _, _, rfl, SqT.of h, rfl, _, "str", true, rfl, .str_str, _, rfl, iteF ?_⟩⟩⟩
      refine ⟨a, _, _, rfl, SqT.of h, rfl, x, rfl, sz1000 (by omega), _, _, rfl, rfl, _, rfl, ite2 (fun h1 => ?_) (fun h1 => ⟨_, rfl, iteT (kn (fun z => h1 (decide_eq_true (by have := z.l1; omega))) _ (Same.refl _))⟩)⟩
      have h1' : (1 : Int) ≤ (x.length : Int) := of_decide_eq_true h1
      refine ⟨_, _, rfl, rfl, _, rfl, ?_⟩
      by_cases h8 : (x.length : Int) ≤ 8
      · rw [decide_eq_true h8]
        refine iteF ⟨a, _, _, rfl, SqT.of h, rfl, x, rfl, fun D hD => ?_⟩
        refine comp_filt (str_ys x H) pL (fun x y _ => y = x) (fun _ _ _ _ h _ => h) hD (by rw [List.length_map, ← lenC]; omega) (fun i v H' R1 R2 hx sm r1 r2 => ?_) (fun ys H2 sm hD' yl hy => ?_)
        · rw [List.getElem?_map] at hx
          obtain ⟨c, hc, rfl⟩ := Option.map_eq_some_iff.mp hx
          exact ⟨(Keep.refl _).set rfl, _, rfl, _, _, rfl, rfl, _, rfl, ite2 (fun hb => ⟨_, rfl, r1 hb _ _ (Same.refl _) rfl⟩) (fun hb => r2 (Bool.eq_false_iff.mpr hb) _ (Same.refl _))⟩
        · rw [pL_len] at yl
          refine ⟨(by show 0 ≤ sizeLine; decide), fun e he => ?_⟩
          have u1 := Same.upd (o := .lst []) he
          have s2 := sm.trans u1
          refine ⟨D, e, ys, [], fun _ => true, rfl, rfl, SqL.of (u1 _ _ hD'), SqL.of upd_same, fun j x y _ h2 => by simp at h2, _, rfl, ?_⟩
          rcases hw with ⟨nw, _⟩ | ⟨wr, b1, b2, b3, n1, n2, n3, fn⟩
          · have yn : ys.length ≠ 0 := fun z => nw ((wr_filt (by omega) (by omega)).mp (List.length_eq_zero_iff.mp (yl.symm.trans z)))
            refine ite2 (fun _ => kn nw _ s2) (fun hc => absurd ?_ hc)
            simp [yn]
          · have yn : ys.length = 0 := by rw [yl, (wr_filt (by omega) (by omega)).mpr wr]; rfl
            refine ite2 (fun hc => ?_) (fun _ => ?_)
            · exfalso
              simp [yn] at hc
            have h2 := s2 _ _ h
            have kb : (b1 && b2 && b3) = false → Q (.bl false) (upd H2 e (.lst [])) := fun z => by
              have := fn.1 z
              rw [this] at k
              exact k _ s2
            refine ⟨a, _, _, rfl, SqT.of h2, rfl, x1, b1, rfl, n1, _, rfl, ?_⟩
            cases b1 with
            | false => exact iteT (kb rfl)
            | true =>
              refine iteF ⟨a, _, _, rfl, SqT.of h2, rfl, x2, b2, rfl, n2, _, rfl, ?_⟩
              cases b2 with
              | false => exact iteT (kb rfl)
              | true =>
                refine iteF ⟨a, _, _, rfl, SqT.of h2, rfl, x3, b3, rfl, n3, _, rfl, ?_⟩
                cases b3 with
                | false => exact iteT (kb rfl)
                | true =>
                  refine iteF ?_
                  obtain ⟨f, l, m, rfl, rfl, rfl, ec⟩ := fn.2 rfl
                  have kk := k _ s2
                  rw [ec, some_if] at kk
                  obtain ⟨g1, g2, g3, g4, g5⟩ := fin5 (A := fun b => Q (.bl b) (upd H2 e (.lst []))) kk
                  refine ⟨a, _, _, rfl, SqT.of h2, rfl, _, _, rfl, rfl, _, rfl, ite2 (fun q1 => ?_) (fun q1 => ⟨_, rfl, iteF (g1 fun z => q1 (decide_eq_true z))⟩)⟩
                  have q1 := of_decide_eq_true q1
                  refine ⟨a, _, _, rfl, SqT.of h2, rfl, _, _, rfl, rfl, _, rfl, ite2 (fun q2 => ?_) (fun q2 => ⟨_, rfl, iteF (g2 q1 fun z => q2 (decide_eq_true z))⟩)⟩
                  have q2 := of_decide_eq_true q2
                  refine ⟨_, rfl, _, _, rfl, rfl, _, rfl, ite2 (fun q3 => ?_) (fun q3 => g3 q1 q2 fun z => q3 (decide_eq_true z))⟩
                  have q3 := of_decide_eq_true q3
                  refine ⟨a, _, _, rfl, SqT.of h2, rfl, _, _, rfl, rfl, _, rfl, ite2 (fun q4 => ?_) (fun q4 => g4 q1 q2 q3 fun z => q4 (decide_eq_true z))⟩
                  exact ⟨_, _, rfl, rfl, g5 q1 q2 q3 (of_decide_eq_true q4)⟩
      · rw [decide_eq_false h8]
        exact iteT (kn (fun z => h8 (by have := z.l8; omega)) _ (Same.refl _))
end
end K81

namespace K81
open PySem PySem.Spec PyProof.Rows L2 GM TM
abbrev Lw (x : Str) : Prop := ∀ c ∈ cps x, 97 ≤ c ∧ c ≤ 122
theorem lw_one {c : Nat} (h : 97 ≤ c ∧ c ≤ 122) : Lw ⟨#[c]⟩ := fun d hd => by
  have : d = c := by simpa [cps] using hd
  rw [this]
  exact h
theorem lw_app {x y : Str} (hx : Lw x) (hy : Lw y) : Lw (x ++ y) := fun c hc => by
  rw [cps_append'] at hc
  rcases List.mem_append.mp hc with h | h
  · exact hx c h
  · exact hy c h
theorem at_LET {e : Int} (h0 : 0 ≤ e) (h : e < 26) : ∃ c, atI LET.cps.toList e = some c ∧ 97 ≤ c ∧ c ≤ 122 := by
  obtain ⟨n, rfl⟩ := Int.eq_ofNat_of_zero_le h0
  exact ⟨97 + n, atI_nat (at_let (by omega)), by omega, by omega⟩
/-- orders -/
def OrdL (H : Hp) (d : Int) (us : List V) : Prop := ∀ v ∈ us, ∃ q x f l m, v = .ref q ∧ H q = some (.tup [.str x, .int f, .int l, .int m]) ∧ Wr x ∧ InB d f l m
theorem OrdL.nil {H : Hp} {d : Int} : OrdL H d [] := fun v h => nomatch h
theorem OrdL.keep {H H' : Hp} {d : Int} {us : List V} (h : OrdL H d us) (s : Tk H H') : OrdL H' d us := fun v hv => by
  obtain ⟨q, x, f, l, m, e, hq, r⟩ := h v hv
  exact ⟨q, x, f, l, m, e, s _ _ hq, r⟩
theorem OrdL.add {H : Hp} {d : Int} {us : List V} {q : Addr} {x : Str} {f l m : Int} (h : OrdL H d us) (hq : H q = some (.tup [.str x, .int f, .int l, .int m])) (w : Wr x) (b : InB d f l m) : OrdL H d (us ++ [.ref q]) := fun v hv => by
  rcases List.mem_append.mp hv with z | z
  · exact h v z
  · rw [List.mem_singleton.mp z]
    exact ⟨q, x, f, l, m, rfl, hq, w, b⟩
def spWord : Sp := fun vs H Q _ => ∃ n : Int, vs = [.int n] ∧ 0 ≤ n ∧ ∀ (x : Str) (n' : Int) p H', 0 ≤ n' → Wr x → Same H H' → H' p = some (.tup [.str x, .int n']) → Q (.ref p) H'
def spNames : Sp := fun vs H Q _ => ∃ s : Int, vs = [.int s, .int 44] ∧ 0 ≤ s ∧ s < 2147483647 ∧ ∀ p (ws : List Str) H', ws.length = 44 → (∀ x ∈ ws, Wr x) → Same H H' → H p = none → H' p = some (.lst (ws.map V.str)) → Q (.ref p) H'
def spTurns : Sp := fun vs H Q _ => ∃ s d : Int, vs = [.int s, .int d] ∧ 0 ≤ s ∧ s < 2147483647 ∧ 1 ≤ d ∧ d ≤ 60 ∧ ∀ p (ns : List Int) H', (ns.length : Int) = d → Same H H' → H p = none → H' p = some (.lst (ns.map V.int)) → Q (.ref p) H'
def spTurnsBy : Sp := fun vs H Q _ => ∃ c d : Int, vs = [.int c, .int d] ∧ 1 ≤ d ∧ d ≤ 60 ∧ ∀ p (ns : List Int) H', (ns.length : Int) = d → Same H H' → H p = none → H' p = some (.lst (ns.map V.int)) → Q (.ref p) H'
def spOrders (K : PySem.W.Frag) : Sp := fun vs H Q _ => ∃ (a : Addr) (ns : List Int) (b : Addr) (ws : List Str) (d : Int), vs = [.ref a, .ref b, .int d] ∧ SqL K H a (ns.map V.int) ∧ SqL K H b (ws.map V.str) ∧ ws.length = 44 ∧ (∀ x ∈ ws, Wr x) ∧ 1 ≤ d ∧ d ≤ 60 ∧ ∀ p us H', us.length ≤ 44 → OrdL H' d us → Same H H' → H p = none → H' p = some (.lst us) → Q (.ref p) H'
def spOrdBy (K : PySem.W.Frag) : Sp := fun vs H Q _ => ∃ (a : Addr) (ns : List Int) (d : Int), vs = [.ref a, .int d] ∧ SqL K H a (ns.map V.int) ∧ ns.length ≤ 44 ∧ 1 ≤ d ∧ d ≤ 60 ∧ ∀ p us H', us.length ≤ 44 → OrdL H' d us → Same H H' → H p = none → H' p = some (.lst us) → Q (.ref p) H'
theorem pick4s {e : Int} {a b c d : Str} (h0 : 0 ≤ e) (h : e < 4) (ha : Wr a) (hb : Wr b) (hc : Wr c) (hd : Wr d) : ∃ x, atI [V.str a, V.str b, V.str c, V.str d] e = some (.str x) ∧ Wr x := by
  obtain ⟨n, rfl⟩ := Int.eq_ofNat_of_zero_le h0
  have : n = 0 ∨ n = 1 ∨ n = 2 ∨ n = 3 := by omega
  rcases this with rfl | rfl | rfl | rfl
  · exact ⟨a, rfl, ha⟩
  · exact ⟨b, rfl, hb⟩
  · exact ⟨c, rfl, hc⟩
  · exact ⟨d, rfl, hd⟩
theorem pick4i {e : Int} (h0 : 0 ≤ e) (h : e < 4) : ∃ m : Int, atI [V.int 3, V.int 3, V.int 8, V.int 51] e = some (.int m) ∧ 1 ≤ m ∧ m ≤ 51 := by
  obtain ⟨n, rfl⟩ := Int.eq_ofNat_of_zero_le h0
  have : n = 0 ∨ n = 1 ∨ n = 2 ∨ n = 3 := by omega
  rcases this with rfl | rfl | rfl | rfl
  · exact ⟨3, rfl, by decide, by decide⟩
  · exact ⟨3, rfl, by decide, by decide⟩
  · exact ⟨8, rfl, by decide, by decide⟩
  · exact ⟨51, rfl, by decide, by decide⟩
theorem pick3a {e : Int} (h0 : 0 ≤ e) (h : e < 3) : ∃ m : Int, atI [V.int 2, V.int 4, V.int 60] e = some (.int m) ∧ 1 ≤ m ∧ m ≤ 60 := by
  obtain ⟨n, rfl⟩ := Int.eq_ofNat_of_zero_le h0
  have : n = 0 ∨ n = 1 ∨ n = 2 := by omega
  rcases this with rfl | rfl | rfl
  · exact ⟨2, rfl, by decide, by decide⟩
  · exact ⟨4, rfl, by decide, by decide⟩
  · exact ⟨60, rfl, by decide, by decide⟩
theorem pick3b {e : Int} (h0 : 0 ≤ e) (h : e < 3) : ∃ m : Int, atI [V.int 2, V.int 6, V.int 50] e = some (.int m) ∧ 1 ≤ m ∧ m ≤ 50 := by
  obtain ⟨n, rfl⟩ := Int.eq_ofNat_of_zero_le h0
  have : n = 0 ∨ n = 1 ∨ n = 2 := by omega
  rcases this with rfl | rfl | rfl
  · exact ⟨2, rfl, by decide, by decide⟩
  · exact ⟨6, rfl, by decide, by decide⟩
  · exact ⟨50, rfl, by decide, by decide⟩
theorem ints_of {ys : List V} (h : ∀ y ∈ ys, ∃ n : Int, y = .int n) : ∃ ns : List Int, ys = ns.map V.int := by
  induction ys with
  | nil => exact ⟨[], rfl⟩
  | cons y r ih =>
    obtain ⟨n, rfl⟩ := h y (List.mem_cons_self ..)
    obtain ⟨ns, e⟩ := ih fun z hz => h z (List.mem_cons_of_mem _ hz)
    exact ⟨n :: ns, by rw [e]; rfl⟩
section
variable {P : Program} {w : World} {K : PySem.W.Frag} {mg : Str → Option Value} {base : Heap}
theorem scWord : FnScope ["_law_left", "_law_word", "_law_many", "_law_k"] ["_law_left"] (defScope sWord) := ⟨rfl, rfl, rfl, by decide +kernel, rfl, by decide +kernel, by decide +kernel⟩
theorem ok_word {f : Addr} {fd : FuncData} (F : Fun K "_law_word_by" "_law_word_by" sWord f fd) (T : Txt mg) : FnOk P w K mg base CX0 1 f fd ["_law_left"] spWord := by
  refine F.ok scWord (fun vs H Q E h => ?_) (fun cdv A outer s H vs Q E hr h => ?_)
  · obtain ⟨_, rfl, _⟩ := h
    rfl
  · obtain ⟨n, rfl, n0, k⟩ := h
    refine ⟨_, (pss_cons (ps_set (i := 1) scWord.nd rfl (Or.inl rfl) pe_str)
      (pss_cons (ps_set (i := 2) scWord.nd rfl (Or.inl rfl) (pe_op op_add pe_int (pe_op op_mod (pv 0) pe_int)))
      (pss_cons (ps_set (i := 0) scWord.nd rfl (Or.inl rfl) (pe_op op_fdivB (pv 0) pe_int))
      (pss_cons (ps_for PassesOwn.never rfl (pi_range1 rfl T.range (pa_cons (pv 2) pa_nil)) (pg_name (i := 3) scWord.nd rfl (Or.inl rfl))
        (pss_cons (ps_set (i := 1) scWord.nd rfl (Or.inl rfl) (pe_op op_add_str (pv 1) (pe_ix ix_str pe_str (pe_op op_mod (pv 0) pe_int) (fun _ _ => rfl))))
        (pss_one (ps_set (i := 0) scWord.nd rfl (Or.inl rfl) (pe_op op_fdivB (pv 0) pe_int)))))
      (pss_one (ps_ret (pe_tup (pa_cons (pv 1) (pa_cons (pv 0) pa_nil))))))))), ?_⟩
    have zL : LET.length ≤ sizeLine := by decide +kernel
    have e8 := emod_in n (m := 8) (by decide)
    refine ⟨_, rfl, _, _, rfl, rfl, (by show (0 : Int) < 8; decide), _, _, rfl, rfl, ?_⟩
    refine ⟨_, rfl, _, _, rfl, rfl, ⟨by decide, b9⟩, ?_⟩
    refine ⟨_, rfl, _, rfl, by omega, by omega, ?_⟩
    refine for_range (fun i σ H' => ∃ (x : Str) (l : Int) (v3 : Option V), σ = [some (.int l), some (.str x), some (.int (1 + n % 8)), v3] ∧ x.length = i ∧ Lw x ∧ 0 ≤ l ∧ H' = H) ⟨"", n / 8, none, rfl, rfl, (by decide +kernel), Int.ediv_nonneg n0 (by decide), rfl⟩ ?_ ?_
    · rintro i σ H' hi ⟨x, l, v3, rfl, xl, lw, l0, rfl⟩
      have e := emod_in l (m := 26) (by decide)
      obtain ⟨c, hc, hc'⟩ := at_LET e.1 e.2
      refine ⟨_, rfl, _, rfl, _, _, rfl, rfl, (by show (0 : Int) < 26; decide), LET, _, c, rfl, rfl, zL, hc, _, _, rfl, rfl, sz1000 (by show x.length + 1 ≤ 1000; omega), ?_⟩
      refine ⟨_, rfl, _, _, rfl, rfl, ⟨by decide, b9⟩, ?_⟩
      refine ⟨_, _, _, rfl, ?_, lw_app lw (lw_one hc'), Int.ediv_nonneg l0 (by decide), rfl⟩
      rw [lenA, xl]
      rfl
    · rintro σ H' ⟨x, l, v3, rfl, xl, lw, l0, rfl⟩
      exact ⟨_, rfl, _, rfl, (show 2 ≤ sizeLine by decide +kernel), fun p hp => k x l p _ l0 ⟨by omega, by omega, lw⟩ (Same.upd hp) upd_same⟩
theorem scNames : FnScope ["_law_seed", "_law_many", "_law_letters", "_law_found", "_law_k", "_law_sign", "_law_short"] ["_law_seed", "_law_many"] (defScope sNames) := ⟨rfl, rfl, rfl, by decide +kernel, rfl, by decide +kernel, by decide +kernel⟩
theorem ok_names {f : Addr} {fd : FuncData} (F : Fun K "_law_names" "_law_names" sNames f fd) (T : Txt mg) : FnOk P w K mg base CX0 1 f fd ["_law_seed", "_law_many"] spNames := by
  refine F.ok scNames (fun vs H Q E h => ?_) (fun cdv A outer s H vs Q E hr h => ?_)
  · obtain ⟨_, rfl, _⟩ := h
    rfl
  · obtain ⟨s0, rfl, s00, sl, k⟩ := h
    refine ⟨_, (pss_cons (ps_set (i := 2) scNames.nd rfl (Or.inl rfl) pe_str)
      (pss_cons (ps_set (i := 3) scNames.nd rfl (Or.inl rfl) (pe_lst pa_nil))
      (pss_cons (ps_for PassesOwn.never rfl (pi_range1 rfl T.range (pa_cons (pv 1) pa_nil)) (pg_name (i := 4) scNames.nd rfl (Or.inl rfl))
        (pss_cons (ps_set (i := 5) scNames.nd rfl (Or.inl rfl) (pe_op op_add_str (pe_ix ix_str (pv 2) (pe_op op_mod (pe_op op_add (pv 0) (pe_op op_mulB pe_int (pv 4))) pe_int) (fun _ _ => rfl)) (pe_ix ix_str (pv 2) (pe_op op_mod (pe_op op_add (pe_op op_fdivB (pv 0) pe_int) (pe_op op_fdivB (pv 4) pe_int)) pe_int) (fun _ _ => rfl))))
        (pss_cons (ps_set (i := 6) scNames.nd rfl (Or.inl rfl) (pv 5))
        (pss_cons (ps_if (pt_cmpR op_lt (pv 4) pe_int (nomark _))
          (pss_one (ps_set (i := 6) scNames.nd rfl (Or.inl rfl) (pe_ix ix_str (pv 5) pe_int (fun _ _ => rfl))))
          pss_nil)
        (pss_one (ps_expr (pe_bm PySem.F.plainAttrs_list PySem.F.slot_list_append PySem.F.type_list_append mt_append (pv 3) (pa_cons (pe_ix ix_list (pe_lst (pa_cons (pv 6) (pa_cons (pe_op op_add_str pe_str (pv 5)) (pa_cons (pe_op op_add_str pe_str (pv 5)) (pa_cons (pv 5) pa_nil))))) (pe_op op_mod (pe_op op_fdivB (pv 0) pe_int) pe_int) (fun _ _ => rfl)) pa_nil))))))))
      (pss_one (ps_ret (pv 3)))))), ?_⟩
    have zL : LET.length ≤ sizeLine := by decide +kernel
    refine ⟨(by show 0 ≤ sizeLine; decide), fun d hd => ?_⟩
    refine ⟨_, rfl, _, rfl, by decide, by decide, ?_⟩
    refine for_range (fun i σ H' => ∃ (ws : List Str) (v4 v5 v6 : Option V), σ = [some (.int s0), some (.int 44), some (.str LET), some (.ref d), v4, v5, v6] ∧ Same H H' ∧ H' d = some (.lst (ws.map V.str)) ∧ ws.length = i ∧ ∀ x ∈ ws, Wr x)
      ⟨[], none, none, none, rfl, Same.upd hd, upd_same, rfl, fun x h => nomatch h⟩ ?_ ?_
    · rintro i σ H2 hi ⟨ws, v4, v5, v6, rfl, s2, hd2, wl, ww⟩
      have i44 : i < 44 := by omega
      have bi : Bt 64 ((0 : Int) + i) := bt_lt 64 (c := 100) (by omega) (by omega)
      have e1 := emod_in (s0 + 7 * ((0 : Int) + i)) (m := 26) (by decide)
      have e2 := emod_in (s0 / 26 + ((0 : Int) + i) / 26) (m := 26) (by decide)
      obtain ⟨c1, hc1, b1⟩ := at_LET e1.1 e1.2
      obtain ⟨c2, hc2, b2⟩ := at_LET e2.1 e2.2
      refine ⟨_, rfl, _, rfl, _, rfl, _, _, rfl, rfl, ⟨bl, b6 bi⟩, _, _, rfl, rfl, _, _, rfl, rfl, (by show (0 : Int) < 26; decide), LET, _, c1, rfl, rfl, zL, hc1, ?_⟩
      refine ⟨_, rfl, _, rfl, _, _, rfl, rfl, ⟨by decide, b9⟩, _, rfl, _, _, rfl, rfl, ⟨by decide, b9⟩, _, _, rfl, rfl, _, _, rfl, rfl, (by show (0 : Int) < 26; decide), LET, _, c2, rfl, rfl, zL, hc2, _, _, rfl, rfl, sz1000 (by show 2 ≤ 1000; decide), ?_⟩
      have lsg : ((⟨#[c1]⟩ : Str) ++ ⟨#[c2]⟩).length = 2 := by rw [lenA]; rfl
      have wsg : Lw ((⟨#[c1]⟩ : Str) ++ ⟨#[c2]⟩) := lw_app (lw_one b1) (lw_one b2)
      generalize hsg : (⟨#[c1]⟩ : Str) ++ ⟨#[c2]⟩ = sg at lsg wsg ⊢
      refine ⟨_, rfl, _, rfl, _, _, rfl, rfl, _, rfl, ?_⟩
      refine if_key (fun σ' H' => ∃ sh : Str, Wr sh ∧ H' = H2 ∧ σ' = [some (.int s0), some (.int 44), some (.str LET), some (.ref d), some (.int ((0 : Int) + i)), some (.str sg), some (.str sh)]) (fun key _ => ?_) (fun _ => ⟨sg, ⟨by omega, by omega, wsg⟩, rfl, rfl⟩) ?_
      · refine ⟨_, rfl, sg, 0, c1, rfl, rfl, sz1000 (by omega), ?_, key _ _ ⟨⟨#[c1]⟩, ⟨(by show 1 ≤ 1; decide), (by show 1 ≤ 8; decide), lw_one b1⟩, rfl, rfl⟩⟩
        rw [← hsg]
        rfl
      · rintro _ _ ⟨sh, wsh, rfl, rfl⟩
        have e4 := emod_in (s0 / 676) (m := 4) (by decide)
        have wd : Wr (("day" : Str) ++ sg) := ⟨by rw [lenA, lsg]; decide, by rw [lenA, lsg]; decide, lw_app (by decide +kernel) wsg⟩
        have wt : Wr (("twelve" : Str) ++ sg) := ⟨by rw [lenA, lsg]; decide, by rw [lenA, lsg]; decide, lw_app (by decide +kernel) wsg⟩
        obtain ⟨x, hx, wx⟩ := pick4s e4.1 e4.2 wsh wd wt (⟨by omega, by omega, wsg⟩ : Wr sg)
        have zd : (("day" : Str) ++ sg).length ≤ sizeLine := sz1000 (by have := wd.l8; omega)
        have zt : (("twelve" : Str) ++ sg).length ≤ sizeLine := sz1000 (by have := wt.l8; omega)
        refine ⟨_, rfl, .inl ⟨rfl, _, SqL.of hd2⟩, _, rfl, _, rfl, _, _, rfl, rfl, ?_, _, rfl, _, _, rfl, rfl, ?_, _, rfl, (by show 4 ≤ sizeLine; decide), fun z hz => ?_⟩
        · rw [lenA] at zd; exact zd
        · rw [lenA] at zt; exact zt
        have u1 := Same.upd (o := .lst [.str sh, .str (("day" : Str) ++ sg), .str (("twelve" : Str) ++ sg), .str sg]) hz
        refine ⟨_, rfl, _, _, rfl, rfl, ⟨by decide, b9⟩, _, _, rfl, rfl, (by show (0 : Int) < 4; decide), z, _, _, _, rfl, rfl, SqL.of upd_same, hx, d, _, _, rfl, rfl, u1 _ _ hd2, small1000 (by rw [List.length_map]; omega), ?_⟩
        refine ⟨ws ++ [x], _, _, _, rfl, same_own (s2.trans u1) hd, by rw [List.map_append]; exact upd_same, by rw [List.length_append, wl]; rfl, fun y hy => ?_⟩
        rcases List.mem_append.mp hy with h | h
        · exact ww y h
        · rw [List.mem_singleton.mp h]
          exact wx
    · rintro σ H2 ⟨ws, v4, v5, v6, rfl, s2, hd2, wl, ww⟩
      exact ⟨_, rfl, k d ws _ wl ww s2 hd hd2⟩
end
end K81

namespace K81
open PySem PySem.Spec PyProof.Rows L2 GM TM
section
variable {P : Program} {w : World} {K : PySem.W.Frag} {mg : Str → Option Value} {base : Heap}
theorem scTurnsBy : FnScope ["_law_cell", "_law_days", "_law_left", "_law_found", "_law_k"] ["_law_cell", "_law_days"] (defScope sTurnsBy) := ⟨rfl, rfl, rfl, by decide +kernel, rfl, by decide +kernel, by decide +kernel⟩
theorem ok_turnsby {f : Addr} {fd : FuncData} (F : Fun K "_law_turns_by" "_law_turns_by" sTurnsBy f fd) (T : Txt mg) : FnOk P w K mg base CX0 1 f fd ["_law_cell", "_law_days"] spTurnsBy := by
  refine F.ok scTurnsBy (fun vs H Q E h => ?_) (fun cdv A outer s H vs Q E hr h => ?_)
  · obtain ⟨_, _, rfl, _⟩ := h
    rfl
  · obtain ⟨c, d, rfl, d1, d60, k⟩ := h
    refine ⟨_, (pss_cons (ps_set (i := 2) scTurnsBy.nd rfl (Or.inl rfl) (pe_callB call_abs rfl T.abs' bt_abs (pa_cons (pv 0) pa_nil)))
      (pss_cons (ps_set (i := 3) scTurnsBy.nd rfl (Or.inl rfl) (pe_lst pa_nil))
      (pss_cons (ps_for PassesOwn.never rfl (pi_range1 rfl T.range (pa_cons (pv 1) pa_nil)) (pg_name (i := 4) scTurnsBy.nd rfl (Or.inl rfl))
        (pss_cons (ps_expr (pe_bm PySem.F.plainAttrs_list PySem.F.slot_list_append PySem.F.type_list_append mt_append (pv 3) (pa_cons (pe_op op_mod (pv 2) pe_int) pa_nil)))
        (pss_one (ps_set (i := 2) scTurnsBy.nd rfl (Or.inl rfl) (pe_op op_fdivB (pv 2) pe_int)))))
      (pss_one (ps_ret (pv 3)))))), ?_⟩
    refine ⟨_, rfl, c, rfl, ?_⟩
    refine ⟨(by show 0 ≤ sizeLine; decide), fun l hl => ?_⟩
    refine ⟨_, rfl, _, rfl, by omega, by omega, ?_⟩
    refine for_range (fun i σ H' => ∃ (ns : List Int) (n : Int) (v4 : Option V), σ = [some (.int c), some (.int d), some (.int n), some (.ref l), v4] ∧ Same H H' ∧ H' l = some (.lst (ns.map V.int)) ∧ ns.length = i)
      ⟨[], _, none, rfl, Same.upd hl, upd_same, rfl⟩ ?_ ?_
    · rintro i σ H2 hi ⟨ns, n, v4, rfl, s2, hl2, nl⟩
      refine ⟨_, rfl, .inl ⟨rfl, _, SqL.of hl2⟩, _, rfl, _, _, rfl, rfl, (by show (0 : Int) < 51; decide), l, _, _, rfl, rfl, hl2, small1000 (by rw [List.length_map]; omega), ?_⟩
      refine ⟨_, rfl, _, _, rfl, rfl, ⟨by decide, b9⟩, ?_⟩
      exact ⟨ns ++ [n % 51], _, _, rfl, same_own s2 hl, by rw [List.map_append]; exact upd_same, by rw [List.length_append, nl]; rfl⟩
    · rintro σ H2 ⟨ns, n, v4, rfl, s2, hl2, nl⟩
      exact ⟨_, rfl, k l ns _ (by omega) s2 hl hl2⟩
theorem ndT : (["_law_k", "_law_seed", "_law_most"] : List Str).Nodup := by decide +kernel
theorem scTurns : FnScope ["_law_seed", "_law_days", "_law_most"] ["_law_seed", "_law_days"] (defScope sTurns) := ⟨rfl, rfl, rfl, by decide +kernel, rfl, by decide +kernel, by decide +kernel⟩
theorem ok_turns {f : Addr} {fd : FuncData} (F : Fun K "_law_turns" "_law_turns" sTurns f fd) (T : Txt mg) : FnOk P w K mg base CX0 1 f fd ["_law_seed", "_law_days"] spTurns := by
  refine F.ok scTurns (fun vs H Q E h => ?_) (fun cdv A outer s H vs Q E hr h => ?_)
  · obtain ⟨_, _, rfl, _⟩ := h
    rfl
  · obtain ⟨s0, d, rfl, s00, sl, d1, d60, k⟩ := h
    refine ⟨_, (pss_cons (ps_set (i := 2) scTurns.nd rfl (Or.inr rfl) (pe_ix ix_list (pe_lst (pa_cons pe_int (pa_cons pe_int (pa_cons pe_int (pa_cons pe_int pa_nil))))) (pe_op op_mod (pv 0) pe_int) (fun _ _ => rfl)))
      (pss_one (ps_ret (pe_compC (N' := ["_law_k", "_law_seed", "_law_most"]) (fun σ => [none, some 0, some 2].map fun t => t.bind fun j => (σ[j]?).join) rfl rfl (by decide +kernel) (by decide +kernel)
          (hk_of (sc := defScope sTurns) rfl (by decide +kernel)) (fun _ _ _ => blkN_by (sc := defScope sTurns) (N := ["_law_seed", "_law_days", "_law_most"]) [none, some 0, some 2] rfl rfl rfl rfl (by decide +kernel))
          (pi_range1 rfl T.range (pa_cons (pv 1) pa_nil)) (fun _ _ _ _ _ _ => pg_name (i := 0) ndT rfl (Or.inl rfl)) (fun _ _ _ _ _ _ => pifs_nil)
          (fun _ _ _ _ _ _ => pe_op op_mod (pe_op op_mod (pe_op op_mulB (pv 1) (pe_op op_add (pe_op op_mulB pe_int (pv 0)) pe_int)) pe_int) (pv 2)))))), ?_⟩
    have e4 := emod_in s0 (m := 4) (by decide)
    obtain ⟨m, hm, m1, m51⟩ := pick4i e4.1 e4.2
    refine ⟨(by show 4 ≤ sizeLine; decide), fun z hz => ⟨_, rfl, _, _, rfl, rfl, (by show (0 : Int) < 4; decide), z, _, _, _, rfl, rfl, SqL.of upd_same, hm, ?_⟩⟩
    have s1 := Same.upd (o := .lst [.int 3, .int 3, .int 8, .int 51]) hz
    refine ⟨_, rfl, _, rfl, by omega, by omega, fun D hD => ?_⟩
    refine comp_rel (Ys.rng (lo := 0)) (fun _ _ y _ => ∃ n : Int, y = .int n) (fun _ _ _ _ _ h _ => h) hD (by rw [rngV_len]; omega) (fun i x H5 R hx sm hR => ?_) (fun ys H5 sm hD5 yl hy => ?_)
    · obtain ⟨hi', rfl⟩ := rngV_get hx
      have bi : Bt 64 ((0 : Int) + i) := bt_lt 64 (c := 100) (by omega) (by omega)
      have bs : Bt 64 s0 := bt_lt 64 (c := 2147483647) s00 sl
      have b2 : Bt 64 (2 * ((0 : Int) + i) + 3) := bt_lt 64 (c := 1000) (by omega) (by omega)
      exact ⟨(Keep.refl _).set rfl, _, rfl, _, rfl, _, _, rfl, rfl, ⟨bl, b6 bi⟩, _, _, rfl, rfl, _, _, rfl, rfl, ⟨b6 bs, b6 b2⟩, _, _, rfl, rfl, (by show (0 : Int) < 1000003; decide), _, rfl, _, _, rfl, rfl, (by show 0 < m; omega), hR _ _ (Same.refl _) ⟨_, rfl⟩⟩
    · obtain ⟨ns, e⟩ := ints_of (ys := ys) fun y hy' => by
        obtain ⟨i, hi⟩ := List.mem_iff_getElem?.mp hy'
        obtain ⟨x, hx⟩ : ∃ x, (rngV 0 d.toNat)[i]? = some x := ⟨_, List.getElem?_eq_getElem (by have := (List.getElem?_eq_some_iff.mp hi).1; omega)⟩
        exact hy i x y hx hi
      subst e
      rw [rngV_len, List.length_map] at yl
      exact k D ns _ (by omega) (s1.trans sm) (same_none s1 hD) hD5
theorem scOrders : FnScope ["_law_cells", "_law_names_here", "_law_days", "_law_found", "_law_k", "_law_cell", "_law_first", "_law_last"] ["_law_cells", "_law_names_here", "_law_days"] (defScope sOrders) := ⟨rfl, rfl, rfl, by decide +kernel, rfl, by decide +kernel, by decide +kernel⟩
theorem ok_orders {f : Addr} {fd : FuncData} (F : Fun K "_law_orders" "_law_orders" sOrders f fd) (T : Txt mg) (cM : Cal P w K mg base CX0 1 "_law_mixed" ["_law_cell", "_law_k"] spMixed) : FnOk P w K mg base CX0 2 f fd ["_law_cells", "_law_names_here", "_law_days"] (spOrders K) := by
  refine F.ok scOrders (fun vs H Q E h => ?_) (fun cdv A outer s H vs Q E hr h => ?_)
  · obtain ⟨_, _, _, _, _, rfl, _⟩ := h
    rfl
  · obtain ⟨a, ns, b, ws, d, rfl, ha, hb, wl, ww, d1, d60, k⟩ := h
    refine ⟨_, (pss_cons (ps_set (i := 3) scOrders.nd rfl (Or.inl rfl) (pe_lst pa_nil))
      (pss_cons (ps_for PassesOwn.never rfl (pi_range1 rfl T.range (pa_cons (pe_callB (call_min2 rfl) rfl T.min' boot_min (pa_cons (pe_callB call_len_seq rfl T.len PySem.boot_len (pa_cons (pv 0) pa_nil)) (pa_cons (pe_callB call_len_seq rfl T.len PySem.boot_len (pa_cons (pv 1) pa_nil)) pa_nil))) pa_nil)) (pg_name (i := 4) scOrders.nd rfl (Or.inl rfl))
        (pss_cons (ps_set (i := 5) scOrders.nd rfl (Or.inl rfl) (pe_cal cM hr rfl pass0 (pa_cons (pe_ix ix_list (pv 0) (pv 4) (fun _ _ => rfl)) (pa_cons (pe_op op_add (pv 4) pe_int) pa_nil))))
        (pss_cons (ps_set (i := 6) scOrders.nd rfl (Or.inl rfl) (pe_op op_mod (pv 5) (pv 2)))
        (pss_cons (ps_set (i := 7) scOrders.nd rfl (Or.inl rfl) (pe_callB (call_min2 rfl) rfl T.min' boot_min (pa_cons (pe_op op_sub (pv 2) pe_int) (pa_cons (pe_op op_add (pv 6) (pe_op op_mod (pe_op op_fdivB (pv 5) pe_int) (pe_ix ix_list (pe_lst (pa_cons pe_int (pa_cons pe_int (pa_cons pe_int pa_nil)))) (pe_op op_mod (pe_op op_fdivB (pv 5) pe_int) pe_int) (fun _ _ => rfl)))) pa_nil))))
        (pss_one (ps_expr (pe_bm PySem.F.plainAttrs_list PySem.F.slot_list_append PySem.F.type_list_append mt_append (pv 3) (pa_cons (pe_tup (pa_cons (pe_ix ix_list (pv 1) (pv 4) (fun _ _ => rfl)) (pa_cons (pv 6) (pa_cons (pv 7) (pa_cons (pe_op op_add pe_int (pe_op op_mod (pe_op op_fdivB (pv 5) pe_int) (pe_ix ix_list (pe_lst (pa_cons pe_int (pa_cons pe_int (pa_cons pe_int pa_nil)))) (pe_op op_mod (pe_op op_fdivB (pv 5) pe_int) pe_int) (fun _ _ => rfl)))) pa_nil))))) pa_nil))))))))
      (pss_one (ps_ret (pv 3))))), ?_⟩
    refine ⟨(by show 0 ≤ sizeLine; decide), fun l hl => ?_⟩
    have s0 := Same.upd (o := .lst []) hl
    refine ⟨_, rfl, a, _, rfl, .inl (s0.seq ha), _, rfl, b, _, rfl, .inl (s0.seq hb), _, _, rfl, _, rfl, ?_⟩
    rw [List.length_map, List.length_map, wl]
    generalize hj : (if ((44 : Nat) : Int) < (ns.length : Int) then ((44 : Nat) : Int) else (ns.length : Int)) = j
    have j44 : 0 ≤ j ∧ j ≤ 44 ∧ j ≤ ns.length := by
      rw [← hj]
      split <;> omega
    refine ⟨by omega, by omega, ?_⟩
    refine for_range (fun i σ H' => ∃ (us : List V) (v4 v5 v6 v7 : Option V), σ = [some (.ref a), some (.ref b), some (.int d), some (.ref l), v4, v5, v6, v7] ∧ Same H H' ∧ H' l = some (.lst us) ∧ us.length = i ∧ OrdL H' d us)
      ⟨[], none, none, none, none, rfl, s0, upd_same, rfl, OrdL.nil⟩ ?_ ?_
    · rintro i σ H2 hi ⟨us, v4, v5, v6, v7, rfl, s2, hl2, ul, ol⟩
      have i44 : i < 44 := by omega
      obtain ⟨c, hc⟩ : ∃ c, ns[i]? = some c := ⟨_, List.getElem?_eq_getElem (by omega)⟩
      obtain ⟨x, hx⟩ : ∃ x, ws[i]? = some x := ⟨_, List.getElem?_eq_getElem (by omega)⟩
      have wx := ww x (List.mem_of_getElem? hx)
      have ac : atI (ns.map V.int) ((0 : Int) + i) = some (.int c) := by rw [show ((0 : Int) + i) = ((i : Nat) : Int) by omega]; exact atI_nat (by rw [List.getElem?_map, hc]; rfl)
      have ax : atI (ws.map V.str) ((0 : Int) + i) = some (.str x) := by rw [show ((0 : Int) + i) = ((i : Nat) : Int) by omega]; exact atI_nat (by rw [List.getElem?_map, hx]; rfl)
      refine ⟨_, rfl, _, rfl, a, _, _, _, rfl, rfl, s2.seq ha, ac, _, rfl, _, _, rfl, rfl, c, _, rfl, by omega, by omega, fun n n0 nl => ?_⟩
      have ed := emod_in n (m := d) (by omega)
      have e3 := emod_in (n / 7) (m := 3) (by decide)
      have e11 := emod_in (n / 11) (m := 3) (by decide)
      obtain ⟨m3, hm3, m31, m32⟩ := pick3a e3.1 e3.2
      obtain ⟨m5, hm5, m51, m52⟩ := pick3b e11.1 e11.2
      have ea := emod_in (n / 60) (m := m3) (by omega)
      have eb := emod_in (n / 3600) (m := m5) (by omega)
      refine ⟨_, rfl, _, rfl, _, _, rfl, rfl, (by show 0 < d; omega), ?_⟩
      refine ⟨_, rfl, _, _, rfl, rfl, _, rfl, _, rfl, _, _, rfl, rfl, ⟨by decide, b9⟩, (by show 3 ≤ sizeLine; decide), fun z1 h1 => ?_⟩
      have t1 := Same.upd (o := .lst [.int 2, .int 4, .int 60]) h1
      refine ⟨_, rfl, _, _, rfl, rfl, ⟨by decide, b9⟩, _, _, rfl, rfl, (by show (0 : Int) < 3; decide), z1, _, _, _, rfl, rfl, SqL.of upd_same, hm3, _, _, rfl, rfl, (by show 0 < m3; omega), _, _, rfl, rfl, _, _, rfl, ?_⟩
      generalize hla : (if n % d + n / 60 % m3 < d - 1 then n % d + n / 60 % m3 else d - 1) = la
      have lb : n % d ≤ la ∧ la < d := by
        rw [← hla]
        split <;> omega
      have hl3 := t1 _ _ hl2
      refine ⟨_, rfl, .inl ⟨rfl, _, SqL.of hl3⟩, _, rfl, _, rfl, b, _, _, _, rfl, rfl, (s2.trans t1).seq hb, ax, _, rfl, _, rfl, _, rfl, _, _, rfl, rfl, ⟨by decide, b9⟩, (by show 3 ≤ sizeLine; decide), fun z2 h2 => ?_⟩
      have t2 := Same.upd (o := .lst [.int 2, .int 6, .int 50]) h2
      refine ⟨_, rfl, _, _, rfl, rfl, ⟨by decide, b9⟩, _, _, rfl, rfl, (by show (0 : Int) < 3; decide), z2, _, _, _, rfl, rfl, SqL.of upd_same, hm5, _, _, rfl, rfl, (by show 0 < m5; omega), _, _, rfl, rfl, (by show 4 ≤ sizeLine; decide), fun q hq => ?_⟩
      have t3 := Same.upd (o := .tup [.str x, .int (n % d), .int la, .int (1 + n / 3600 % m5)]) hq
      have tt := (t1.trans t2).trans t3
      have hl4 := t3 _ _ (t2 _ _ hl3)
      have ql : q ≠ l := fun e => by rw [e, t2 _ _ hl3] at hq; cases hq
      refine ⟨l, us, _, rfl, rfl, hl4, small1000 (by omega), ?_⟩
      exact ⟨us ++ [.ref q], _, _, _, _, rfl, same_own (s2.trans tt) hl, upd_same, by rw [List.length_append, ul]; rfl, ((ol.keep tt.tk).keep (Tk.lst hl4)).add (by rw [upd_ne ql]; exact upd_same) wx ⟨ed.1, lb.1, lb.2, by omega, by omega⟩⟩
    · rintro σ H2 ⟨us, v4, v5, v6, v7, rfl, s2, hl2, ul, ol⟩
      exact ⟨_, rfl, k l us _ (by omega) ol s2 hl hl2⟩
end
end K81

namespace K81
open PySem PySem.Spec PyProof.Rows L2 GM TM
def RwL (H : Hp) (d : Int) (xs : List V) : Prop := ∀ v ∈ xs, ∃ c, RowC H d v c
theorem RwL.keep {H H' : Hp} {d : Int} {xs : List V} (h : RwL H d xs) (s : Same H H') : RwL H' d xs := fun v hv => by
  obtain ⟨c, hc⟩ := h v hv
  exact ⟨c, hc.keep s⟩
theorem RwL.nil {H : Hp} {d : Int} : RwL H d [] := fun v h => nomatch h
theorem RwL.cons {H : Hp} {d : Int} {v : V} {xs : List V} (h : ∃ c, RowC H d v c) (k : RwL H d xs) : RwL H d (v :: xs) := fun u hu => by
  rcases List.mem_cons.mp hu with rfl | z
  · exact h
  · exact k u z
theorem RwL.app {H : Hp} {d : Int} {xs ys : List V} (h : RwL H d xs) (k : RwL H d ys) : RwL H d (xs ++ ys) := fun u hu => by
  rcases List.mem_append.mp hu with z | z
  · exact h u z
  · exact k u z
theorem row4 {H : Hp} {d : Int} {a : Addr} {x : Str} {f l m : Int} (h : H a = some (.tup [.str x, .int f, .int l, .int m])) (xl : x.length ≤ 20) : ∃ c, RowC H d (.ref a) c := by
  by_cases w : Wr x
  · exact ⟨_, RowC.ints h w⟩
  · exact ⟨_, .bad (.war h xl w)⟩
def spOdd : Sp := fun vs H Q _ => ∃ q x f l m d c, vs = [.ref q, .int d, .int c] ∧ H q = some (.tup [.str x, .int f, .int l, .int m]) ∧ Wr x ∧ ∀ v c' H', Same H H' → RowC H' d v c' → Q v H'
section
variable {P : Program} {w : World} {K : PySem.W.Frag} {mg : Str → Option Value} {base : Heap}
theorem scOdd : FnScope ["_law_order", "_law_days", "_law_cell", "_law_name", "_law_first", "_law_last", "_law_many", "_law_some"] ["_law_order", "_law_days", "_law_cell"] (defScope sOdd) := ⟨rfl, rfl, rfl, by decide +kernel, rfl, by decide +kernel, by decide +kernel⟩
theorem ok_odd {f : Addr} {fd : FuncData} (F : Fun K "_law_odd" "_law_odd" sOdd f fd) : FnOk P w K mg base CX0 1 f fd ["_law_order", "_law_days", "_law_cell"] spOdd := by
  refine F.ok scOdd (fun vs H Q E h => ?_) (fun cdv A outer s H vs Q E hr h => ?_)
  · obtain ⟨_, _, _, _, _, _, _, rfl, _⟩ := h
    rfl
  · obtain ⟨q, x, f, l, m, d, c, rfl, hq, wx, k⟩ := h
    refine ⟨_, (pss_cons (ps_asg (pv 0) (pg_tup rfl (pgs_cons (pg_name (i := 3) scOdd.nd rfl (Or.inl rfl)) (pgs_cons (pg_name (i := 4) scOdd.nd rfl (Or.inl rfl)) (pgs_cons (pg_name (i := 5) scOdd.nd rfl (Or.inl rfl)) (pgs_cons (pg_name (i := 6) scOdd.nd rfl (Or.inl rfl)) pgs_nil))))))
      (pss_cons (ps_set (i := 7) scOdd.nd rfl (Or.inl rfl) (pe_lst (pa_cons pe_non (pa_cons pe_int (pa_cons (pv 3) (pa_cons (pe_lst (pa_cons (pv 3) (pa_cons (pv 4) (pa_cons (pv 5) (pa_cons (pv 6) pa_nil))))) (pa_cons (pe_tup (pa_cons (pv 3) (pa_cons (pv 4) (pa_cons (pv 5) pa_nil)))) (pa_cons (pe_tup (pa_cons (pv 3) (pa_cons (pv 4) (pa_cons (pv 5) (pa_cons (pv 6) (pa_cons pe_int pa_nil)))))) pa_nil))))))))
      (pss_cons (ps_set (i := 7) scOdd.nd rfl (Or.inl rfl) (pe_op op_cat (pv 7) (pe_lst (pa_cons (pe_tup (pa_cons pe_str (pa_cons (pv 4) (pa_cons (pv 5) (pa_cons (pv 6) pa_nil))))) (pa_cons (pe_tup (pa_cons pe_str (pa_cons (pv 4) (pa_cons (pv 5) (pa_cons (pv 6) pa_nil))))) (pa_cons (pe_tup (pa_cons pe_int (pa_cons (pv 4) (pa_cons (pv 5) (pa_cons (pv 6) pa_nil))))) pa_nil))))))
      (pss_cons (ps_set (i := 7) scOdd.nd rfl (Or.inl rfl) (pe_op op_cat (pv 7) (pe_lst (pa_cons (pe_tup (pa_cons (pe_slice sl_str (pe_op op_add_str (pv 3) pe_str) po_none (po_some pe_int)) (pa_cons (pv 4) (pa_cons (pv 5) (pa_cons (pv 6) pa_nil))))) (pa_cons (pe_tup (pa_cons (pe_lst (pa_cons pe_str pa_nil)) (pa_cons (pv 4) (pa_cons (pv 5) (pa_cons (pv 6) pa_nil))))) (pa_cons (pe_tup (pa_cons (pv 3) (pa_cons (pe_un un_neg pe_int) (pa_cons (pv 5) (pa_cons (pv 6) pa_nil))))) pa_nil))))))
      (pss_cons (ps_set (i := 7) scOdd.nd rfl (Or.inl rfl) (pe_op op_cat (pv 7) (pe_lst (pa_cons (pe_tup (pa_cons (pv 3) (pa_cons (pv 4) (pa_cons (pv 1) (pa_cons (pv 6) pa_nil))))) (pa_cons (pe_tup (pa_cons (pv 3) (pa_cons pe_bl (pa_cons (pv 5) (pa_cons (pv 6) pa_nil))))) (pa_cons (pe_tup (pa_cons (pv 3) (pa_cons (pv 4) (pa_cons pe_non (pa_cons (pv 6) pa_nil))))) pa_nil))))))
      (pss_cons (ps_set (i := 7) scOdd.nd rfl (Or.inl rfl) (pe_op op_cat (pv 7) (pe_lst (pa_cons (pe_tup (pa_cons (pv 3) (pa_cons (pv 4) (pa_cons (pv 5) (pa_cons pe_int pa_nil))))) (pa_cons (pe_tup (pa_cons (pv 3) (pa_cons (pv 4) (pa_cons (pv 5) (pa_cons pe_int pa_nil))))) (pa_cons (pe_tup (pa_cons (pv 3) (pa_cons (pv 4) (pa_cons (pv 5) (pa_cons pe_bl pa_nil))))) pa_nil))))))
      (pss_cons (ps_set (i := 7) scOdd.nd rfl (Or.inl rfl) (pe_op op_cat (pv 7) (pe_lst (pa_cons (pe_tup (pa_cons (pv 3) (pa_cons (pv 4) (pa_cons (pv 5) (pa_cons pe_str pa_nil))))) (pa_cons (pe_tup (pa_cons (pv 3) (pa_cons (pe_op op_add (pv 5) pe_int) (pa_cons (pv 5) (pa_cons (pv 6) pa_nil))))) pa_nil)))))
      (pss_one (ps_ret (pe_ix ix_list (pv 7) (pe_op op_mod (pv 2) pe_int) (fun _ _ => rfl))))))))))), ?_⟩
    have x8 := wx.l8
    have z4 : 4 ≤ sizeLine := by decide
    have z3 : 3 ≤ sizeLine := by decide
    refine ⟨_, rfl, q, _, rfl, SqT.of hq, rfl, _, _, rfl, _, _, rfl, _, _, rfl, _, _, rfl, rfl, ?_⟩
    refine ⟨_, rfl, _, rfl, _, rfl, _, rfl, _, rfl, z4, fun p1 n1 => ⟨_, rfl, _, rfl, _, rfl, z3, fun p2 n2 => ⟨_, rfl, _, rfl, _, rfl, _, rfl, (by show 5 ≤ sizeLine; decide), fun p3 n3 => ⟨(by show 6 ≤ sizeLine; decide), fun y1 i1 => ?_⟩⟩⟩⟩
    have t1 := Same.upd (o := .lst [.str x, .int f, .int l, .int m]) n1
    have t2 := Same.upd (o := .tup [.str x, .int f, .int l]) n2
    have t3 := Same.upd (o := .tup [.str x, .int f, .int l, .int m, .int 1]) n3
    have t4 := Same.upd (o := .lst [.non, .int 7, .str x, .ref p1, .ref p2, .ref p3]) i1
    have s1 := ((t1.trans t2).trans t3).trans t4
    have k1 : upd (upd (upd (upd H p1 (.lst [.str x, .int f, .int l, .int m])) p2 (.tup [.str x, .int f, .int l])) p3 (.tup [.str x, .int f, .int l, .int m, .int 1])) y1 (.lst [.non, .int 7, .str x, .ref p1, .ref p2, .ref p3]) y1 = some (.lst [.non, .int 7, .str x, .ref p1, .ref p2, .ref p3]) := upd_same
    have r1 : RwL (upd (upd (upd (upd H p1 (.lst [.str x, .int f, .int l, .int m])) p2 (.tup [.str x, .int f, .int l])) p3 (.tup [.str x, .int f, .int l, .int m, .int 1])) y1 (.lst [.non, .int 7, .str x, .ref p1, .ref p2, .ref p3])) d [.non, .int 7, .str x, .ref p1, .ref p2, .ref p3] :=
      .cons ⟨_, .bad .non⟩ (.cons ⟨_, .bad .int⟩ (.cons ⟨_, .bad .str⟩ (.cons ⟨_, .bad (.lst (t4 _ _ (t3 _ _ (t2 _ _ upd_same))))⟩ (.cons ⟨_, .bad (.len (t4 _ _ (t3 _ _ upd_same)) (by show 3 ≠ 4; decide))⟩ (.cons ⟨_, .bad (.len (t4 _ _ upd_same) (by show 5 ≠ 4; decide))⟩ .nil)))))
    generalize upd (upd (upd (upd H p1 (.lst [.str x, .int f, .int l, .int m])) p2 (.tup [.str x, .int f, .int l])) p3 (.tup [.str x, .int f, .int l, .int m, .int 1])) y1 (.lst [.non, .int 7, .str x, .ref p1, .ref p2, .ref p3]) = H1 at s1 k1 r1 ⊢
    clear t1 t2 t3 t4 n1 n2 n3 i1
    generalize hx1 : [V.non, .int 7, .str x, .ref p1, .ref p2, .ref p3] = xs1 at k1 r1
    have l1 : xs1.length = 6 := by rw [← hx1]; rfl
    clear hx1 p1 p2 p3
    -- no letters, a large one, a number for a name
    refine ⟨_, rfl, _, rfl, _, rfl, _, rfl, z4, fun p1 n1 => ⟨_, rfl, _, rfl, _, rfl, z4, fun p2 n2 => ⟨_, rfl, _, rfl, _, rfl, z4, fun p3 n3 => ⟨z3, fun y2 i2 => ?_⟩⟩⟩⟩
    have t1 := Same.upd (o := .tup [.str "", .int f, .int l, .int m]) n1
    have t2 := Same.upd (o := .tup [.str "Ab", .int f, .int l, .int m]) n2
    have t3 := Same.upd (o := .tup [.int 7, .int f, .int l, .int m]) n3
    have t4 := Same.upd (o := .lst [.ref p1, .ref p2, .ref p3]) i2
    have u4 := ((t1.trans t2).trans t3).trans t4
    refine ⟨y1, y2, _, _, rfl, rfl, u4 _ _ k1, upd_same, (by rw [l1]; show 9 ≤ sizeLine; decide), fun y3 i3 => ?_⟩
    have t5 := Same.upd (o := .lst (xs1 ++ [.ref p1, .ref p2, .ref p3])) i3
    have s2 := (s1.trans u4).trans t5
    have k2 := upd_same (H := upd (upd (upd (upd H1 p1 (.tup [.str "", .int f, .int l, .int m])) p2 (.tup [.str "Ab", .int f, .int l, .int m])) p3 (.tup [.int 7, .int f, .int l, .int m])) y2 (.lst [.ref p1, .ref p2, .ref p3])) (a := y3) (o := .lst (xs1 ++ [.ref p1, .ref p2, .ref p3]))
    have r2 := ((r1.keep u4).keep t5).app (.cons (row4 (t5 _ _ (t4 _ _ (t3 _ _ (t2 _ _ upd_same)))) (by decide)) (.cons (row4 (t5 _ _ (t4 _ _ (t3 _ _ upd_same))) (by decide)) (.cons ⟨_, .bad (.nai (t5 _ _ (t4 _ _ upd_same)))⟩ .nil)))
    generalize upd (upd (upd (upd (upd H1 p1 (.tup [.str "", .int f, .int l, .int m])) p2 (.tup [.str "Ab", .int f, .int l, .int m])) p3 (.tup [.int 7, .int f, .int l, .int m])) y2 (.lst [.ref p1, .ref p2, .ref p3])) y3 (.lst (xs1 ++ [.ref p1, .ref p2, .ref p3])) = H2 at s2 k2 r2 ⊢
    generalize hx2 : xs1 ++ [V.ref p1, .ref p2, .ref p3] = xs2 at k2 r2
    have l2 : xs2.length = 9 := by rw [← hx2, List.length_append, l1]; rfl
    clear t1 t2 t3 t4 t5 u4 n1 n2 n3 i2 i3 hx2 p1 p2 p3 s1 k1 r1 l1 xs1 H1
    -- nine letters, a list for a name, a day below nought
    have hz : (x ++ ("abcdefghi" : Str)).length ≤ sizeLine := sz1000 (by rw [lenA]; show x.length + 9 ≤ 1000; omega)
    have sl9 : (Txt.slice (x ++ ("abcdefghi" : Str)) none (some 9)).length ≤ 20 := Nat.le_trans (PyProof.Txt.length_slice_le _ _ _) (by rw [lenA]; show x.length + 9 ≤ 20; omega)
    refine ⟨_, rfl, _, rfl, _, _, rfl, rfl, (by rw [lenA] at hz; exact hz), _, rfl, _, rfl, hz, _, rfl, _, rfl, _, rfl, z4, fun p1 n1 => ⟨(by show 1 ≤ sizeLine; decide), fun p0 n0 => ⟨_, rfl, _, rfl, _, rfl, z4, fun p2 n2 => ⟨_, rfl, _, rfl, _, rfl, _, rfl, z4, fun p3 n3 => ⟨z3, fun y2 i2 => ?_⟩⟩⟩⟩⟩
    have t1 := Same.upd (o := .tup [.str (Txt.slice (x ++ ("abcdefghi" : Str)) none (some 9)), .int f, .int l, .int m]) n1
    have t0 := Same.upd (o := .lst [.str "a"]) n0
    have t2 := Same.upd (o := .tup [.ref p0, .int f, .int l, .int m]) n2
    have t3 := Same.upd (o := .tup [.str x, .int (-1), .int l, .int m]) n3
    have t4 := Same.upd (o := .lst [.ref p1, .ref p2, .ref p3]) i2
    have u4 := (((t1.trans t0).trans t2).trans t3).trans t4
    refine ⟨y3, y2, _, _, rfl, rfl, u4 _ _ k2, upd_same, (by rw [l2]; show 12 ≤ sizeLine; decide), fun y4 i4 => ?_⟩
    have t5 := Same.upd (o := .lst (xs2 ++ [.ref p1, .ref p2, .ref p3])) i4
    have s3 := (s2.trans u4).trans t5
    obtain ⟨H3, e3⟩ : ∃ H3, H3 = upd (upd (upd (upd (upd (upd H2 p1 (.tup [.str (Txt.slice (x ++ ("abcdefghi" : Str)) none (some 9)), .int f, .int l, .int m])) p0 (.lst [.str "a"])) p2 (.tup [.ref p0, .int f, .int l, .int m])) p3 (.tup [.str x, .int (-1), .int l, .int m])) y2 (.lst [.ref p1, .ref p2, .ref p3])) y4 (.lst (xs2 ++ [.ref p1, .ref p2, .ref p3])) := ⟨_, rfl⟩
    have k3 : H3 y4 = some (.lst (xs2 ++ [.ref p1, .ref p2, .ref p3])) := by rw [e3]; exact upd_same
    have r3 : RwL H3 d (xs2 ++ [.ref p1, .ref p2, .ref p3]) := by
      rw [e3]
      exact ((r2.keep u4).keep t5).app (.cons (row4 (t5 _ _ (t4 _ _ (t3 _ _ (t2 _ _ (t0 _ _ upd_same))))) sl9) (.cons ⟨_, .bad (.nal (t5 _ _ (t4 _ _ (t3 _ _ upd_same))) (t5 _ _ (t4 _ _ (t3 _ _ (t2 _ _ upd_same)))))⟩ (.cons (row4 (t5 _ _ (t4 _ _ upd_same)) (by omega)) .nil)))
    rw [← e3] at s3 ⊢
    generalize hx3 : xs2 ++ [V.ref p1, .ref p2, .ref p3] = xs3 at k3 r3
    have l3 : xs3.length = 12 := by rw [← hx3, List.length_append, l2]; rfl
    clear t1 t0 t2 t3 t4 t5 u4 n1 n0 n2 n3 e3 i2 i4 hx3 p1 p0 p2 p3 s2 k2 r2 l2 xs2 H2
    -- the last day too late, a truth, none
    refine ⟨_, rfl, _, rfl, _, rfl, _, rfl, _, rfl, z4, fun p1 n1 => ⟨_, rfl, _, rfl, _, rfl, z4, fun p2 n2 => ⟨_, rfl, _, rfl, _, rfl, z4, fun p3 n3 => ⟨z3, fun y2 i2 => ?_⟩⟩⟩⟩
    have t1 := Same.upd (o := .tup [.str x, .int f, .int d, .int m]) n1
    have t2 := Same.upd (o := .tup [.str x, .bl true, .int l, .int m]) n2
    have t3 := Same.upd (o := .tup [.str x, .int f, .non, .int m]) n3
    have t4 := Same.upd (o := .lst [.ref p1, .ref p2, .ref p3]) i2
    have u4 := ((t1.trans t2).trans t3).trans t4
    refine ⟨y4, y2, _, _, rfl, rfl, u4 _ _ k3, upd_same, (by rw [l3]; show 15 ≤ sizeLine; decide), fun y5 i5 => ?_⟩
    have t5 := Same.upd (o := .lst (xs3 ++ [.ref p1, .ref p2, .ref p3])) i5
    have s4 := (s3.trans u4).trans t5
    obtain ⟨H4, e4⟩ : ∃ H4, H4 = upd (upd (upd (upd (upd H3 p1 (.tup [.str x, .int f, .int d, .int m])) p2 (.tup [.str x, .bl true, .int l, .int m])) p3 (.tup [.str x, .int f, .non, .int m])) y2 (.lst [.ref p1, .ref p2, .ref p3])) y5 (.lst (xs3 ++ [.ref p1, .ref p2, .ref p3])) := ⟨_, rfl⟩
    have k4 : H4 y5 = some (.lst (xs3 ++ [.ref p1, .ref p2, .ref p3])) := by rw [e4]; exact upd_same
    have r4 : RwL H4 d (xs3 ++ [.ref p1, .ref p2, .ref p3]) := by
      rw [e4]
      exact ((r3.keep u4).keep t5).app (.cons (row4 (t5 _ _ (t4 _ _ (t3 _ _ (t2 _ _ upd_same)))) (by omega)) (.cons ⟨_, RowC.num (t5 _ _ (t4 _ _ (t3 _ _ upd_same))) wx .bl .int .int rfl⟩ (.cons ⟨_, RowC.num (t5 _ _ (t4 _ _ upd_same)) wx .int .non .int rfl⟩ .nil)))
    rw [← e4] at s4 ⊢
    generalize hx4 : xs3 ++ [V.ref p1, .ref p2, .ref p3] = xs4 at k4 r4
    have l4 : xs4.length = 15 := by rw [← hx4, List.length_append, l3]; rfl
    clear t1 t2 t3 t4 t5 u4 n1 n2 n3 e4 i2 i5 hx4 p1 p2 p3 s3 k3 r3 l3 xs3 H3
    -- turns: none, too many, a truth
    refine ⟨_, rfl, _, rfl, _, rfl, _, rfl, z4, fun p1 n1 => ⟨_, rfl, _, rfl, _, rfl, z4, fun p2 n2 => ⟨_, rfl, _, rfl, _, rfl, z4, fun p3 n3 => ⟨z3, fun y2 i2 => ?_⟩⟩⟩⟩
    have t1 := Same.upd (o := .tup [.str x, .int f, .int l, .int 0]) n1
    have t2 := Same.upd (o := .tup [.str x, .int f, .int l, .int 51]) n2
    have t3 := Same.upd (o := .tup [.str x, .int f, .int l, .bl true]) n3
    have t4 := Same.upd (o := .lst [.ref p1, .ref p2, .ref p3]) i2
    have u4 := ((t1.trans t2).trans t3).trans t4
    refine ⟨y5, y2, _, _, rfl, rfl, u4 _ _ k4, upd_same, (by rw [l4]; show 18 ≤ sizeLine; decide), fun y6 i6 => ?_⟩
    have t5 := Same.upd (o := .lst (xs4 ++ [.ref p1, .ref p2, .ref p3])) i6
    have s5 := (s4.trans u4).trans t5
    obtain ⟨H5, e5⟩ : ∃ H5, H5 = upd (upd (upd (upd (upd H4 p1 (.tup [.str x, .int f, .int l, .int 0])) p2 (.tup [.str x, .int f, .int l, .int 51])) p3 (.tup [.str x, .int f, .int l, .bl true])) y2 (.lst [.ref p1, .ref p2, .ref p3])) y6 (.lst (xs4 ++ [.ref p1, .ref p2, .ref p3])) := ⟨_, rfl⟩
    have k5 : H5 y6 = some (.lst (xs4 ++ [.ref p1, .ref p2, .ref p3])) := by rw [e5]; exact upd_same
    have r5 : RwL H5 d (xs4 ++ [.ref p1, .ref p2, .ref p3]) := by
      rw [e5]
      exact ((r4.keep u4).keep t5).app (.cons (row4 (t5 _ _ (t4 _ _ (t3 _ _ (t2 _ _ upd_same)))) (by omega)) (.cons (row4 (t5 _ _ (t4 _ _ (t3 _ _ upd_same))) (by omega)) (.cons ⟨_, RowC.num (t5 _ _ (t4 _ _ upd_same)) wx .int .int .bl rfl⟩ .nil)))
    rw [← e5] at s5 ⊢
    generalize hx5 : xs4 ++ [V.ref p1, .ref p2, .ref p3] = xs5 at k5 r5
    have l5 : xs5.length = 18 := by rw [← hx5, List.length_append, l4]; rfl
    clear t1 t2 t3 t4 t5 u4 n1 n2 n3 e5 i2 i6 hx5 p1 p2 p3 s4 k4 r4 l4 xs4 H4
    -- turns: a text; the first day behind the last
    refine ⟨_, rfl, _, rfl, _, rfl, _, rfl, z4, fun p1 n1 => ⟨_, rfl, _, rfl, _, _, rfl, rfl, _, rfl, _, rfl, z4, fun p2 n2 => ⟨(by show 2 ≤ sizeLine; decide), fun y2 i2 => ?_⟩⟩⟩
    have t1 := Same.upd (o := .tup [.str x, .int f, .int l, .str "1"]) n1
    have t2 := Same.upd (o := .tup [.str x, .int (l + 1), .int l, .int m]) n2
    have t4 := Same.upd (o := .lst [.ref p1, .ref p2]) i2
    have u4 := (t1.trans t2).trans t4
    refine ⟨y6, y2, _, _, rfl, rfl, u4 _ _ k5, upd_same, (by rw [l5]; show 20 ≤ sizeLine; decide), fun y7 i7 => ?_⟩
    have t5 := Same.upd (o := .lst (xs5 ++ [.ref p1, .ref p2])) i7
    have s6 := (s5.trans u4).trans t5
    obtain ⟨H6, e6⟩ : ∃ H6, H6 = upd (upd (upd (upd H5 p1 (.tup [.str x, .int f, .int l, .str "1"])) p2 (.tup [.str x, .int (l + 1), .int l, .int m])) y2 (.lst [.ref p1, .ref p2])) y7 (.lst (xs5 ++ [.ref p1, .ref p2])) := ⟨_, rfl⟩
    have k6 : H6 y7 = some (.lst (xs5 ++ [.ref p1, .ref p2])) := by rw [e6]; exact upd_same
    have r6 : RwL H6 d (xs5 ++ [.ref p1, .ref p2]) := by
      rw [e6]
      exact ((r5.keep u4).keep t5).app (.cons ⟨_, RowC.num (t5 _ _ (t4 _ _ (t2 _ _ upd_same))) wx .int .int .str rfl⟩ (.cons (row4 (t5 _ _ (t4 _ _ upd_same)) (by omega)) .nil))
    rw [← e6] at s6 ⊢
    generalize hx6 : xs5 ++ [V.ref p1, .ref p2] = xs6 at k6 r6
    have l6 : xs6.length = 20 := by rw [← hx6, List.length_append, l5]; rfl
    have e20 := emod_in c (m := 20) (by decide)
    obtain ⟨n, hn⟩ := Int.eq_ofNat_of_zero_le e20.1
    obtain ⟨v, hv⟩ : ∃ v, xs6[n]? = some v := ⟨_, List.getElem?_eq_getElem (by omega)⟩
    obtain ⟨c', hc'⟩ := r6 v (List.mem_of_getElem? hv)
    exact ⟨_, rfl, _, rfl, _, _, rfl, rfl, (by show (0 : Int) < 20; decide), y7, _, _, v, rfl, rfl, SqL.of k6, (by rw [hn]; exact atI_nat hv), k v c' _ s6 hc'⟩
end
end K81

namespace K81
open PySem PySem.Spec PyProof.Rows L2 GM TM
theorem ix_tupK {X : Cx} {K : PySem.W.Frag} (h : X.K = K) : IxR X (rIxT K) := h ▸ ix_tup
theorem abs_nn (c : Int) : 0 ≤ (if c < 0 then -c else c) := by split <;> omega
/-- a test that changes nothing, whatever it tells -/
def AnyT (t : TT) (σ : L2.St) (H : Hp) : Prop := ∀ Q : Bool → Hp → Prop, (∀ b, Q b H) → t σ H Q
theorem AnyT.or {t u : TT} {σ : L2.St} {H : Hp} (h : AnyT t σ H) (k : AnyT u σ H) : AnyT (tOr t u) σ H := fun Q q => h _ fun b => by
  cases b with
  | true => exact iteT (q true)
  | false => exact iteF (k Q q)
theorem AnyT.and {t u : TT} {σ : L2.St} {H : Hp} (h : AnyT t σ H) (k : AnyT u σ H) : AnyT (tAnd t u) σ H := fun Q q => h _ fun b => by
  cases b with
  | true => exact iteT (k Q q)
  | false => exact iteF (q false)
/-- tuples stay, lists stay lists -/
def Tl (H H' : Hp) : Prop := (∀ b xs, H b = some (.tup xs) → H' b = some (.tup xs)) ∧ ∀ b xs, H b = some (.lst xs) → ∃ ys, H' b = some (.lst ys)
theorem Tl.of {H H' : Hp} (s : Same H H') : Tl H H' := ⟨fun b xs h => s _ _ h, fun b xs h => ⟨xs, s _ _ h⟩⟩
theorem Tl.lst {H : Hp} {l : Addr} {xs ys : List V} (h : H l = some (.lst xs)) : Tl H (upd H l (.lst ys)) := by
  refine ⟨fun b us hb => ?_, fun b us hb => ?_⟩
  · have n : b ≠ l := fun e => by rw [e, h] at hb; cases hb
    rw [upd_ne n]
    exact hb
  · by_cases e : b = l
    · subst e
      exact ⟨ys, upd_same⟩
    · exact ⟨us, by rw [upd_ne e]; exact hb⟩
theorem Bad.keepL {H H' : Hp} {v : V} (h : Bad H v) (s : Tl H H') : Bad H' v := by
  cases h with
  | int => exact .int
  | non => exact .non
  | str => exact .str
  | lst h => obtain ⟨ys, e⟩ := s.2 _ _ h; exact .lst e
  | len h n => exact .len (s.1 _ _ h) n
  | nai h => exact .nai (s.1 _ _ h)
  | nal h h' => obtain ⟨ys, e⟩ := s.2 _ _ h'; exact .nal (s.1 _ _ h) e
  | war h n m => exact .war (s.1 _ _ h) n m
theorem RowC.keepL {H H' : Hp} {d : Int} {v : V} {c : Option Str} (h : RowC H d v c) (s : Tl H H') : RowC H' d v c := by
  cases h with
  | bad h => exact .bad (h.keepL s)
  | four h w a b c e => exact .four (s.1 _ _ h) w a b c e
/-- the rows and what each tells -/
def RwsC (H : Hp) (d : Int) (vs : List V) (cs : List (Option Str)) : Prop := vs.length = cs.length ∧ ∀ (i : Nat) v c, vs[i]? = some v → cs[i]? = some c → RowC H d v c
theorem RwsC.nil {H : Hp} {d : Int} : RwsC H d [] [] := ⟨rfl, fun i v c h => by simp at h⟩
theorem RwsC.keepL {H H' : Hp} {d : Int} {vs : List V} {cs : List (Option Str)} (h : RwsC H d vs cs) (s : Tl H H') : RwsC H' d vs cs := ⟨h.1, fun i v c hv hc => (h.2 i v c hv hc).keepL s⟩
theorem RwsC.keep {H H' : Hp} {d : Int} {vs : List V} {cs : List (Option Str)} (h : RwsC H d vs cs) (s : Same H H') : RwsC H' d vs cs := h.keepL (.of s)
theorem RwsC.add {H : Hp} {d : Int} {vs : List V} {cs : List (Option Str)} {v : V} {c : Option Str} (h : RwsC H d vs cs) (r : RowC H d v c) : RwsC H d (vs ++ [v]) (cs ++ [c]) := by
  refine ⟨by rw [List.length_append, List.length_append, h.1]; rfl, fun j x e hx he => ?_⟩
  by_cases hj : j < vs.length
  · rw [List.getElem?_append_left hj] at hx
    rw [List.getElem?_append_left (by rw [← h.1]; exact hj)] at he
    exact h.2 j x e hx he
  · rw [List.getElem?_append_right (by omega)] at hx
    rw [List.getElem?_append_right (by rw [← h.1]; omega), ← h.1] at he
    obtain ⟨hl, _⟩ := List.getElem?_eq_some_iff.mp hx
    simp at hl
    rw [hl] at hx he
    cases hx
    cases he
    exact r
def spRows (K : PySem.W.Frag) : Sp := fun vs H Q _ => ∃ (a : Addr) (us : List V) (d s : Int), vs = [.ref a, .int d, .int s] ∧ SqL K H a us ∧ OrdL H d us ∧ us.length ≤ 44 ∧ 1 ≤ d ∧ d ≤ 60 ∧ 0 ≤ s ∧ s < 2147483647 ∧ ∀ p ws cs H', ws.length ≤ 44 → RwsC H' d ws cs → Same H H' → H p = none → H' p = some (.lst ws) → Q (.ref p) H'
section
variable {P : Program} {w : World} {K : PySem.W.Frag} {mg : Str → Option Value} {base : Heap}
theorem ndOne : (["_law_one"] : List Str).Nodup := by decide +kernel
theorem scOrdBy : FnScope ["_law_cells", "_law_days", "_law_found", "_law_cell", "_law_name", "_law_left", "_law_first", "_law_last"] ["_law_cells", "_law_days"] (defScope sOrdBy) := ⟨rfl, rfl, rfl, by decide +kernel, rfl, by decide +kernel, by decide +kernel⟩
theorem ok_ordby {f : Addr} {fd : FuncData} (F : Fun K "_law_orders_by" "_law_orders_by" sOrdBy f fd) (T : Txt mg) (cW : Cal P w K mg base CX0 1 "_law_word_by" ["_law_left"] spWord) : FnOk P w K mg base CX0 2 f fd ["_law_cells", "_law_days"] (spOrdBy K) := by
  refine F.ok scOrdBy (fun vs H Q E h => ?_) (fun cdv A outer s H vs Q E hr h => ?_)
  · obtain ⟨_, _, _, rfl, _⟩ := h
    rfl
  · obtain ⟨a, ns, d, rfl, ha, nl, d1, d60, k⟩ := h
    refine ⟨_, (pss_cons (ps_set (i := 2) scOrdBy.nd rfl (Or.inl rfl) (pe_lst pa_nil))
      (pss_cons (ps_for PassesOwn.never rfl (pi_list (pv 0)) (pg_name (i := 3) scOrdBy.nd rfl (Or.inl rfl))
        (pss_cons (ps_asg (pe_cal cW hr rfl pass0 (pa_cons (pe_callB call_abs rfl T.abs' bt_abs (pa_cons (pv 3) pa_nil)) pa_nil)) (pg_tup rfl (pgs_cons (pg_name (i := 4) scOrdBy.nd rfl (Or.inl rfl)) (pgs_cons (pg_name (i := 5) scOrdBy.nd rfl (Or.inl rfl)) pgs_nil))))
        (pss_cons (ps_set (i := 6) scOrdBy.nd rfl (Or.inl rfl) (pe_op op_mod (pv 5) (pv 1)))
        (pss_cons (ps_set (i := 5) scOrdBy.nd rfl (Or.inl rfl) (pe_op op_fdivB (pv 5) (pv 1)))
        (pss_cons (ps_set (i := 7) scOrdBy.nd rfl (Or.inl rfl) (pe_op op_add (pv 6) (pe_op op_mod (pv 5) (pe_op op_sub (pv 1) (pv 6)))))
        (pss_one (ps_if (pt_cmpR op_notIn_seq (pv 4) (pe_comp (N' := ["_law_one"]) (cl := []) (fun _ => [none]) rfl rfl (by decide +kernel) (by decide +kernel) (clOk_plain (by decide +kernel)) (fun _ _ => blkN_none)
            (pi_list (pv 2)) (fun _ _ _ _ _ => pg_name (i := 0) ndOne rfl (Or.inl rfl)) (fun _ _ _ _ _ => pifs_nil) (fun _ _ _ _ _ => pe_ix (ix_tupK (K := K) rfl) (pv 0) pe_int (fun _ _ => rfl))) (by with_unfolding_all rfl))
          (pss_one (ps_expr (pe_bm PySem.F.plainAttrs_list PySem.F.slot_list_append PySem.F.type_list_append mt_append (pv 2) (pa_cons (pe_tup (pa_cons (pv 4) (pa_cons (pv 6) (pa_cons (pv 7) (pa_cons (pe_op op_add pe_int (pe_op op_mod (pe_op op_fdivB (pv 5) (pe_op op_sub (pv 1) (pv 6))) pe_int)) pa_nil))))) pa_nil))))
          pss_nil)))))))
      (pss_one (ps_ret (pv 2))))), ?_⟩
    refine ⟨(by show 0 ≤ sizeLine; decide), fun g hg => ?_⟩
    have s0 := Same.upd (o := .lst []) hg
    refine ⟨_, rfl, a, rfl, ⟨_, s0.seq ha⟩, ?_⟩
    refine for_list (xs := ns.map V.int) (fun i σ H' => ∃ (us : List V) (v3 v4 v5 v6 v7 : Option V), σ = [some (.ref a), some (.int d), some (.ref g), v3, v4, v5, v6, v7] ∧ Same H H' ∧ H' g = some (.lst us) ∧ us.length ≤ i ∧ OrdL H' d us)
      ⟨[], none, none, none, none, none, rfl, s0, upd_same, Nat.le_refl _, OrdL.nil⟩ ?_ ?_ ?_
    · rintro i σ H' _ ⟨_, _, _, _, _, _, rfl, s', _⟩
      exact s'.seq ha
    · rintro i v σ H2 hv ⟨us, v3, v4, v5, v6, v7, rfl, s2, hg2, ul, ol⟩
      have i44 : i < 44 := by have := (List.getElem?_eq_some_iff.mp hv).1; rw [List.length_map] at this; omega
      rw [List.getElem?_map] at hv
      obtain ⟨c, hc, rfl⟩ := Option.map_eq_some_iff.mp hv
      refine ⟨_, rfl, c, rfl, _, rfl, abs_nn c, fun x n p H3 n0 wx s3 hp => ?_⟩
      refine ⟨p, _, rfl, SqT.of hp, rfl, _, _, rfl, _, _, rfl, rfl, ?_⟩
      have e1 := emod_in n (m := d) (by omega)
      have n1 : 0 ≤ n / d := Int.ediv_nonneg n0 (by omega)
      have e2 := emod_in (n / d) (m := d - n % d) (by omega)
      refine ⟨_, rfl, _, rfl, _, _, rfl, rfl, (by show 0 < d; omega), ?_⟩
      refine ⟨_, rfl, _, rfl, _, _, rfl, rfl, ⟨by show 0 < d; omega, (bt_lt 64 (c := 100) (by omega) (by omega)).mono (by decide)⟩, ?_⟩
      refine ⟨_, rfl, _, rfl, _, rfl, _, rfl, _, _, rfl, rfl, _, _, rfl, rfl, (by show 0 < d - n % d; omega), _, _, rfl, rfl, ?_⟩
      have hg3 := s3 _ _ hg2
      refine ⟨_, rfl, _, rfl, g, rfl, ⟨_, SqL.of hg3⟩, fun D hD => ?_⟩
      refine comp_rel (Ys.list (SqL.of hg3)) (fun _ _ y _ => ∃ x : Str, y = .str x) (fun _ _ _ _ _ h _ => h) hD (by omega) (fun j y H4 R hy sm hR => ?_) (fun ys H4 sm hD4 yl hy => ?_)
      · obtain ⟨q, x', f', l', m', rfl, hq, _⟩ := (ol.keep s3.tk) y (List.mem_of_getElem? hy)
        exact ⟨(Keep.refl _).set rfl, _, rfl, q, _, _, _, rfl, rfl, SqT.of (sm _ _ hq), rfl, hR _ _ (Same.refl _) ⟨_, rfl⟩⟩
      · have fl : ys.all flatV = true := by
          rw [List.all_eq_true]
          intro y hy'
          obtain ⟨j, hj⟩ := List.mem_iff_getElem?.mp hy'
          obtain ⟨u, hu⟩ : ∃ u, us[j]? = some u := ⟨_, List.getElem?_eq_getElem (by have := (List.getElem?_eq_some_iff.mp hj).1; omega)⟩
          obtain ⟨x', rfl⟩ := hy j u y hu hj
          rfl
        have hg4 := sm _ _ hg3
        have s4 := (s2.trans s3).trans sm
        have ol4 := (ol.keep s3.tk).keep sm.tk
        refine ⟨D, ys, rfl, .inl (SqL.of hD4), rfl, fl, _, rfl, ite2 (fun _ => ?_) (fun _ => ⟨us, _, _, _, _, _, rfl, s4, hg4, by omega, ol4⟩)⟩
        have e5 := emod_in (n / d / (d - n % d)) (m := 50) (by decide)
        refine ⟨_, rfl, .inl ⟨rfl, _, SqL.of hg4⟩, _, rfl, _, rfl, _, rfl, _, rfl, _, rfl, _, rfl, _, _, rfl, rfl, _, _, rfl, rfl, ⟨by show 0 < d - n % d; omega, (bt_lt 64 (c := 100) (by omega) (by omega)).mono (by decide)⟩, _, _, rfl, rfl, (by show (0 : Int) < 50; decide), _, _, rfl, rfl, (by show 4 ≤ sizeLine; decide), fun q hq => ?_⟩
        have t5 := Same.upd (o := .tup [.str x, .int (n % d), .int (n % d + n / d % (d - n % d)), .int (1 + n / d / (d - n % d) % 50)]) hq
        have hg5 := t5 _ _ hg4
        have qg : q ≠ g := fun e => by rw [e, hg4] at hq; cases hq
        refine ⟨g, us, _, rfl, rfl, hg5, small1000 (by omega), ?_⟩
        exact ⟨us ++ [.ref q], _, _, _, _, _, rfl, same_own (s4.trans t5) hg, upd_same, by rw [List.length_append]; show us.length + 1 ≤ _; omega, ((ol4.keep t5.tk).keep (Tk.lst hg5)).add (by rw [upd_ne qg]; exact upd_same) wx ⟨e1.1, by omega, by omega, by omega, by omega⟩⟩
    · rintro σ H2 ⟨us, v3, v4, v5, v6, v7, rfl, s2, hg2, ul, ol⟩
      rw [List.length_map] at ul
      exact ⟨_, rfl, k g us _ (by omega) ol s2 hg hg2⟩
end
end K81

namespace K81
open PySem PySem.Spec PyProof.Rows L2 GM TM
theorem if_any {t : TT} {ta tb : TS} {D : Ends} {σ : L2.St} {H : Hp} (h : AnyT t σ H) (k : ∀ b : Bool, if b = true then ta D σ H else tb D σ H) : tIfS t ta tb D σ H := h _ k
/-- a test that changes nothing, and then one of a number -/
theorem if_gt {t u : TT} {ta tb : TS} {D : Ends} {σ : L2.St} {H : Hp} {p : Prop} (h : AnyT t σ H) (g : ∀ Q : Bool → Hp → Prop, (p → Q true H) → (¬ p → Q false H) → u σ H Q) (k : p → ta D σ H) (k' : tb D σ H) : tIfS (tAnd t u) ta tb D σ H := h _ fun b => by
  cases b with
  | true => exact iteT (g _ (fun z => iteT (k z)) (fun _ => iteF k'))
  | false => exact iteF (iteF k')
theorem ite_gt {p : Prop} [Decidable p] {Q : Bool → Hp → Prop} {H : Hp} (h : p → Q true H) (k : ¬ p → Q false H) : Q (decide p) H := by
  by_cases z : p
  · rw [decide_eq_true z]; exact h z
  · rw [decide_eq_false z]; exact k z
/-- the first fault -/
def faultFrom : List Str → Nat → List (Option Str) → Option Nat
  | _, _, [] => none
  | seen, i, c :: cs => if i = 40 then some i else match c with
    | none => some i
    | some x => if x ∈ seen then some i else faultFrom (seen ++ [x]) (i + 1) cs
def fV (o : Option Nat) : V := match o with | some i => .int (i : Nat) | none => .non
def spFault (K : PySem.W.Frag) : Sp := fun vs H Q _ => ∃ (a : Addr) (ws : List V) (cs : List (Option Str)) (d : Int), vs = [.ref a, .int d] ∧ SqL K H a ws ∧ RwsC H d ws cs ∧ ws.length ≤ 44 ∧ ∀ H', Same H H' → Q (fV (faultFrom [] 0 cs)) H'
section
variable {P : Program} {w : World} {K : PySem.W.Frag} {mg : Str → Option Value} {base : Heap}
theorem scRows : FnScope ["_law_orders_here", "_law_days", "_law_seed", "_law_found", "_law_k", "_law_cell", "_law_order", "_law_spot"] ["_law_orders_here", "_law_days", "_law_seed"] (defScope sRows) := ⟨rfl, rfl, rfl, by decide +kernel, rfl, by decide +kernel, by decide +kernel⟩
theorem ok_rows {f : Addr} {fd : FuncData} (F : Fun K "_law_rows" "_law_rows" sRows f fd) (T : Txt mg) (cM : Cal P w K mg base CX0 1 "_law_mixed" ["_law_cell", "_law_k"] spMixed) (cO : Cal P w K mg base CX0 1 "_law_odd" ["_law_order", "_law_days", "_law_cell"] spOdd) : FnOk P w K mg base CX0 2 f fd ["_law_orders_here", "_law_days", "_law_seed"] (spRows K) := by
  refine F.ok scRows (fun vs H Q E h => ?_) (fun cdv A outer s H vs Q E hr h => ?_)
  · obtain ⟨_, _, _, _, rfl, _⟩ := h
    rfl
  · obtain ⟨a, us, d, s0, rfl, ha, ol, ul, d1, d60, s00, sl, k⟩ := h
    refine ⟨_, (pss_cons (ps_set (i := 3) scRows.nd rfl (Or.inl rfl) (pe_lst pa_nil))
      (pss_cons (ps_for PassesOwn.never rfl (pi_range1 rfl T.range (pa_cons (pe_callB call_len_seq rfl T.len PySem.boot_len (pa_cons (pv 0) pa_nil)) pa_nil)) (pg_name (i := 4) scRows.nd rfl (Or.inl rfl))
        (pss_cons (ps_set (i := 5) scRows.nd rfl (Or.inl rfl) (pe_cal cM hr rfl pass0 (pa_cons (pv 2) (pa_cons (pv 4) pa_nil))))
        (pss_cons (ps_set (i := 6) scRows.nd rfl (Or.inl rfl) (pe_ix ix_list (pv 0) (pv 4) (fun _ _ => rfl)))
        (pss_cons (ps_set (i := 7) scRows.nd rfl (Or.inl rfl) (pe_op op_mod (pe_op op_mod (pe_op op_fdivB (pv 2) pe_int) pe_int) (pe_op op_add pe_int (pe_op op_mulB (pe_op op_mod (pe_op op_fdivB (pv 2) pe_int) pe_int) pe_int))))
        (pss_cons (ps_if (PW.pt (pw_or (PW.pt (pw_and (pt_cmpR op_eq (pe_op op_mod (pv 2) pe_int) pe_int (nomark _)) (pw_and1 (pt_cmpR op_eq (pv 4) (pv 7) (nomark _))))) (pw_or1 (PW.pt (pw_and (pt_cmpR op_eq (pe_op op_mod (pv 2) pe_int) pe_int (nomark _)) (pw_and1 (pt_cmpR op_eq (pe_op op_mod (pv 5) pe_int) pe_int (nomark _))))))))
          (pss_cons (ps_set (i := 6) scRows.nd rfl (Or.inl rfl) (pe_cal cO hr rfl pass0 (pa_cons (pv 6) (pa_cons (pv 1) (pa_cons (pe_op op_fdivB (pv 5) pe_int) pa_nil)))))
          (pss_one (ps_if (PW.pt (pw_and (pt_cmpR op_eq (pe_op op_mod (pe_op op_fdivB (pv 5) pe_int) pe_int) pe_int (nomark _)) (pw_and1 (pt_cmpR op_gt (pv 4) pe_int (nomark _)))))
            (pss_one (ps_set (i := 6) scRows.nd rfl (Or.inl rfl) (pe_tup (pa_cons (pe_ix ix_tup (pe_ix ix_list (pv 0) (pe_op op_mod (pe_op op_fdivB (pv 5) pe_int) (pv 4)) (fun _ _ => rfl)) pe_int (fun _ _ => rfl)) (pa_cons (pe_ix ix_tup (pe_ix ix_list (pv 0) (pv 4) (fun _ _ => rfl)) pe_int (fun _ _ => rfl)) (pa_cons (pe_ix ix_tup (pe_ix ix_list (pv 0) (pv 4) (fun _ _ => rfl)) pe_int (fun _ _ => rfl)) (pa_cons (pe_ix ix_tup (pe_ix ix_list (pv 0) (pv 4) (fun _ _ => rfl)) pe_int (fun _ _ => rfl)) pa_nil)))))))
            pss_nil)))
          pss_nil)
        (pss_one (ps_expr (pe_bm PySem.F.plainAttrs_list PySem.F.slot_list_append PySem.F.type_list_append mt_append (pv 3) (pa_cons (pv 6) pa_nil)))))))))
      (pss_one (ps_ret (pv 3))))), ?_⟩
    refine ⟨(by show 0 ≤ sizeLine; decide), fun g hg => ?_⟩
    have t0 := Same.upd (o := .lst []) hg
    refine ⟨_, rfl, a, us, rfl, .inl (t0.seq ha), _, rfl, by omega, by omega, ?_⟩
    refine for_range (fun i σ H' => ∃ (ws : List V) (cs : List (Option Str)) (v4 v5 v6 v7 : Option V), σ = [some (.ref a), some (.int d), some (.int s0), some (.ref g), v4, v5, v6, v7] ∧ Same H H' ∧ H' g = some (.lst ws) ∧ ws.length = i ∧ RwsC H' d ws cs)
      ⟨[], [], none, none, none, none, rfl, t0, upd_same, rfl, RwsC.nil⟩ ?_ ?_
    · rintro i σ H2 hi ⟨ws, cs, v4, v5, v6, v7, rfl, s2, hg2, wl, rw2⟩
      have i44 : i < us.length := by omega
      have ol2 := ol.keep s2.tk
      have ha2 := s2.seq ha
      obtain ⟨u, hu⟩ : ∃ u, us[i]? = some u := ⟨_, List.getElem?_eq_getElem i44⟩
      obtain ⟨q, x, fi, la, m, rfl, hq, wx, ib⟩ := ol2 u (List.mem_of_getElem? hu)
      have au : atI us ((0 : Int) + i) = some (.ref q) := by rw [show ((0 : Int) + i) = ((i : Nat) : Int) by omega]; exact atI_nat hu
      refine ⟨_, rfl, _, rfl, s0, _, rfl, by omega, by omega, fun n n0 nl => ?_⟩
      refine ⟨_, rfl, _, rfl, a, _, _, _, rfl, rfl, ha2, au, ?_⟩
      have e2 := emod_in (s0 / 5) (m := 2) (by decide)
      refine ⟨_, rfl, _, _, rfl, rfl, ⟨by decide, b9⟩, _, _, rfl, rfl, (by show (0 : Int) < 44; decide), _, rfl, _, _, rfl, rfl, ⟨by decide, b9⟩, _, _, rfl, rfl, (by show (0 : Int) < 2; decide), _, _, rfl, rfl, ⟨b6 (bt_lt 64 (c := 100) e2.1 (by omega)), bl⟩, _, _, rfl, rfl, _, _, rfl, rfl, (by show (0 : Int) < 3 + s0 / 5 % 2 * 41; omega), ?_⟩
      dsimp only [gName]
      refine st [some (.ref a), some (.int d), some (.int s0), some (.ref g), some (.int ((0 : Int) + i)), some (.int n), some (.ref q), some (.int (s0 / 3 % 44 % (3 + s0 / 5 % 2 * 41)))] rfl ?_
      refine if_any (AnyT.or (AnyT.and (fun Q q => ⟨_, rfl, _, _, rfl, rfl, (by show (0 : Int) < 3; decide), rfl, _, rfl, q _⟩) (fun Q q => ⟨_, rfl, _, rfl, rfl, _, rfl, q _⟩)) (AnyT.and (fun Q q => ⟨_, rfl, _, _, rfl, rfl, (by show (0 : Int) < 3; decide), rfl, _, rfl, q _⟩) (fun Q q => ⟨_, rfl, _, _, rfl, rfl, (by show (0 : Int) < 3; decide), rfl, _, rfl, q _⟩))) (fun b => ?_)
      refine if_key (fun σ' H' => ∃ (v : V) (c : Option Str) (v7 : Option V), RowC H' d v c ∧ Same H2 H' ∧ σ' = [some (.ref a), some (.int d), some (.int s0), some (.ref g), some (.int ((0 : Int) + i)), some (.int n), some v, v7]) (fun key _ => ?_) (fun _ => ⟨.ref q, _, _, RowC.ints hq wx, Same.refl _, rfl⟩) ?_
      · refine ⟨_, rfl, _, rfl, _, rfl, _, _, rfl, rfl, ⟨by decide, b9⟩, q, x, fi, la, m, d, _, rfl, hq, wx, fun v c H3 s3 rc => ?_⟩
        dsimp only [gName]
        refine st [some (.ref a), some (.int d), some (.int s0), some (.ref g), some (.int ((0 : Int) + i)), some (.int n), some v, some (.int (s0 / 3 % 44 % (3 + s0 / 5 % 2 * 41)))] rfl ?_
        have hq3 := s3 _ _ hq
        have ha3 := s3.seq ha2
        have ol3 := ol2.keep s3.tk
        refine if_gt (fun Q q => ⟨_, rfl, _, _, rfl, rfl, ⟨by decide, b9⟩, _, _, rfl, rfl, (by show (0 : Int) < 3; decide), rfl, _, rfl, q _⟩) (fun Q q1 q2 => ⟨_, rfl, _, _, rfl, rfl, _, rfl, ite_gt q1 q2⟩) (fun hgt => ?_) (key _ _ ⟨v, c, _, rc, s3, rfl⟩)
        have i1 : (0 : Int) < (0 : Int) + i := hgt
        have e5 := emod_in (n / 180) (m := (0 : Int) + i) i1
        obtain ⟨j, hj⟩ := Int.eq_ofNat_of_zero_le e5.1
        obtain ⟨u2, hu2⟩ : ∃ u2, us[j]? = some u2 := ⟨_, List.getElem?_eq_getElem (by omega)⟩
        obtain ⟨q2, x2, f2, l2, m2, rfl, hq2, wx2, _⟩ := ol3 u2 (List.mem_of_getElem? hu2)
        refine ⟨_, rfl, _, rfl, _, _, rfl, rfl, ⟨by decide, b9⟩, _, rfl, _, _, rfl, rfl, i1, a, _, _, _, rfl, rfl, ha3, (by rw [hj]; exact atI_nat hu2), q2, _, _, _, rfl, rfl, SqT.of hq2, rfl, ?_⟩
        refine ⟨_, rfl, _, rfl, a, _, _, _, rfl, rfl, ha3, au, q, _, _, _, rfl, rfl, SqT.of hq3, rfl, ?_⟩
        refine ⟨_, rfl, _, rfl, a, _, _, _, rfl, rfl, ha3, au, q, _, _, _, rfl, rfl, SqT.of hq3, rfl, ?_⟩
        refine ⟨_, rfl, _, rfl, a, _, _, _, rfl, rfl, ha3, au, q, _, _, _, rfl, rfl, SqT.of hq3, rfl, (by show 4 ≤ sizeLine; decide), fun p hp => ?_⟩
        exact key _ _ ⟨.ref p, _, _, RowC.ints upd_same wx2, s3.trans (Same.upd hp), rfl⟩
      · rintro _ H4 ⟨v, c, v7', rc, s4, rfl⟩
        have hg4 := s4 _ _ hg2
        refine ⟨_, rfl, .inl ⟨rfl, _, SqL.of hg4⟩, _, rfl, g, ws, _, rfl, rfl, hg4, small1000 (by omega), ?_⟩
        exact ⟨ws ++ [v], cs ++ [c], _, _, _, _, rfl, same_own (s2.trans s4) hg, upd_same, by rw [List.length_append, wl]; rfl, ((rw2.keep s4).add rc).keepL (Tl.lst hg4)⟩
    · rintro σ H2 ⟨ws, cs, v4, v5, v6, v7, rfl, s2, hg2, wl, rw2⟩
      exact ⟨_, rfl, k g ws cs _ (by omega) rw2 s2 hg hg2⟩
end
end K81

namespace K81
open PySem PySem.Spec PyProof.Rows L2 GM TM
theorem RowC.some' {H : Hp} {d : Int} {v : V} {x : Str} (h : RowC H d v (some x)) : ∃ q x1 x2 x3, v = .ref q ∧ H q = some (.tup [.str x, x1, x2, x3]) := by
  cases h with
  | @four a y x1 x2 x3 b1 b2 b3 c h w n1 n2 n3 fn =>
    refine ⟨a, x1, x2, x3, rfl, ?_⟩
    cases hb : (b1 && b2 && b3) with
    | false => have := fn.1 hb; cases this
    | true =>
      obtain ⟨f, l, m, _, _, _, e⟩ := fn.2 hb
      by_cases z : InB d f l m
      · rw [if_pos z] at e
        cases e
        exact h
      · rw [if_neg z] at e
        cases e
theorem fault_40 {seen : List Str} {i : Nat} {c : Option Str} {cs : List (Option Str)} (h : i = 40) : faultFrom seen i (c :: cs) = some i := if_pos h
theorem fault_bad {seen : List Str} {i : Nat} {cs : List (Option Str)} : faultFrom seen i (none :: cs) = some i := by
  unfold faultFrom
  split <;> rfl
theorem fault_seen {seen : List Str} {i : Nat} {x : Str} {cs : List (Option Str)} (h : x ∈ seen) : faultFrom seen i (some x :: cs) = some i := by
  unfold faultFrom
  split
  · rfl
  · exact if_pos h
theorem fault_next {seen : List Str} {i : Nat} {x : Str} {cs : List (Option Str)} (n : i ≠ 40) (h : x ∉ seen) : faultFrom seen i (some x :: cs) = faultFrom (seen ++ [x]) (i + 1) cs := by
  rw [faultFrom, if_neg n]
  exact if_neg h
section
variable {P : Program} {w : World} {K : PySem.W.Frag} {mg : Str → Option Value} {base : Heap}
theorem scFault : FnScope ["_law_rows_here", "_law_days", "_law_seen", "_law_place"] ["_law_rows_here", "_law_days"] (defScope sFault) := ⟨rfl, rfl, rfl, by decide +kernel, rfl, by decide +kernel, by decide +kernel⟩
theorem ok_fault {f : Addr} {fd : FuncData} (F : Fun K "_law_fault" "_law_fault" sFault f fd) (T : Txt mg) (cG : Cal P w K mg base CX0 2 "_law_good" ["_law_row", "_law_days"] spOrd) : FnOk P w K mg base CX0 3 f fd ["_law_rows_here", "_law_days"] (spFault K) := by
  refine F.ok scFault (fun vs H Q E h => ?_) (fun cdv A outer s H vs Q E hr h => ?_)
  · obtain ⟨_, _, _, _, rfl, _⟩ := h
    rfl
  · obtain ⟨a, ws, cs, d, rfl, ha, rws, wl, k⟩ := h
    refine ⟨_, (pss_cons (ps_set (i := 2) scFault.nd rfl (Or.inl rfl) (pe_lst pa_nil))
      (pss_cons (ps_for PassesOwn.never rfl (pi_range1 rfl T.range (pa_cons (pe_callB call_len_seq rfl T.len PySem.boot_len (pa_cons (pv 0) pa_nil)) pa_nil)) (pg_name (i := 3) scFault.nd rfl (Or.inl rfl))
        (pss_cons (ps_if (PW.pt (pw_or (pt_cmpR op_eq (pv 3) pe_int (nomark _)) (pw_or (pt_not (pt_val (pe_cal cG hr rfl pass0 (pa_cons (pe_ix ix_list (pv 0) (pv 3) (fun _ _ => rfl)) (pa_cons (pv 1) pa_nil))))) (pw_or1 (pt_cmpR op_in_seq (pe_ix ix_tup (pe_ix ix_list (pv 0) (pv 3) (fun _ _ => rfl)) pe_int (fun _ _ => rfl)) (pv 2) (by with_unfolding_all rfl))))))
          (pss_one (ps_ret (pv 3)))
          pss_nil)
        (pss_one (ps_expr (pe_bm PySem.F.plainAttrs_list PySem.F.slot_list_append PySem.F.type_list_append mt_append (pv 2) (pa_cons (pe_ix ix_tup (pe_ix ix_list (pv 0) (pv 3) (fun _ _ => rfl)) pe_int (fun _ _ => rfl)) pa_nil))))))
      (pss_one (ps_ret pe_non)))), ?_⟩
    refine ⟨(by show 0 ≤ sizeLine; decide), fun g hg => ?_⟩
    have t0 := Same.upd (o := .lst []) hg
    refine ⟨_, rfl, a, ws, rfl, .inl (t0.seq ha), _, rfl, by omega, by omega, ?_⟩
    refine for_range (fun i σ H' => ∃ (seen : List Str) (v3 : Option V), σ = [some (.ref a), some (.int d), some (.ref g), v3] ∧ Same H H' ∧ H' g = some (.lst (seen.map V.str)) ∧ seen.length ≤ i ∧ faultFrom [] 0 cs = faultFrom seen i (cs.drop i))
      ⟨[], none, rfl, t0, upd_same, Nat.le_refl _, rfl⟩ ?_ ?_
    · rintro i σ H2 hi ⟨seen, v3, rfl, s2, hg2, sl, fe⟩
      have iw : i < ws.length := by omega
      have ic : i < cs.length := by rw [← rws.1]; exact iw
      obtain ⟨v, hv⟩ : ∃ v, ws[i]? = some v := ⟨_, List.getElem?_eq_getElem iw⟩
      obtain ⟨c, hc⟩ : ∃ c, cs[i]? = some c := ⟨_, List.getElem?_eq_getElem ic⟩
      have dr : cs.drop i = c :: cs.drop (i + 1) := by
        rw [List.drop_eq_getElem_cons ic]
        congr 1
        exact Option.some.inj ((List.getElem?_eq_getElem ic).symm.trans hc)
      rw [dr] at fe
      have rc := (rws.2 i v c hv hc).keep s2
      have ha2 := s2.seq ha
      have av : atI ws ((0 : Int) + i) = some v := by rw [show ((0 : Int) + i) = ((i : Nat) : Int) by omega]; exact atI_nat hv
      have fin : faultFrom [] 0 cs = some i → ∀ H', Same H H' → Q (.int ((0 : Int) + i)) H' := fun e H' s' => by
        have := k H' s'
        rw [e] at this
        rw [Int.zero_add]
        exact this
      refine ⟨_, rfl, rfl, _, rfl, ite2 (fun h40 => ?_) (fun h40 => ?_)⟩
      · have e40 : i = 40 := by
          have := V.int.inj (of_decide_eq_true h40)
          omega
        exact ⟨_, rfl, fin (fe.trans (fault_40 e40)) _ s2⟩
      have n40 : i ≠ 40 := fun e => h40 (decide_eq_true (by rw [e]; rfl))
      refine ⟨_, rfl, _, rfl, a, _, _, _, rfl, rfl, ha2, av, _, rfl, v, d, c, rfl, rc, fun H3 s3 => ⟨_, rfl, ?_⟩⟩
      cases c with
      | none => exact iteT ⟨_, rfl, fin (fe.trans fault_bad) _ (s2.trans s3)⟩
      | some x =>
        refine iteF ?_
        obtain ⟨q, x1, x2, x3, rfl, hq⟩ := rc.some'
        have ha3 := s3.seq ha2
        have hg3 := s3 _ _ hg2
        have hq3 := s3 _ _ hq
        refine ⟨_, rfl, _, rfl, a, _, _, _, rfl, rfl, ha3, av, q, _, _, _, rfl, rfl, SqT.of hq3, rfl, _, rfl, g, _, rfl, .inl (SqL.of hg3), rfl, flat_strs seen, _, rfl, ?_⟩
        refine ite2 (fun hin => ?_) (fun hin => ?_)
        · exact ⟨_, rfl, fin (fe.trans (fault_seen (in_strs.mp hin))) _ (s2.trans s3)⟩
        · have nin : x ∉ seen := fun z => hin (in_strs.mpr z)
          refine ⟨_, rfl, .inl ⟨rfl, _, SqL.of hg3⟩, _, rfl, _, rfl, a, _, _, _, rfl, rfl, ha3, av, q, _, _, _, rfl, rfl, SqT.of hq3, rfl, g, _, _, rfl, rfl, hg3, small1000 (by rw [List.length_map]; omega), ?_⟩
          exact ⟨seen ++ [x], _, rfl, same_own (s2.trans s3) hg, by rw [List.map_append]; exact upd_same, by rw [List.length_append]; show seen.length + 1 ≤ _; omega, fe.trans (fault_next n40 nin)⟩
    · rintro σ H2 ⟨seen, v3, rfl, s2, hg2, sl, fe⟩
      have := k H2 s2
      rw [fe, List.drop_of_length_le (by rw [← rws.1]; omega)] at this
      exact this
end
end K81

namespace K81
open PySem PySem.Spec PyProof.Rows L2 GM TM
/-- the classes of errors that are told apart; cN is that of the error -/
structure ErN (K : PySem.W.Frag) (mg : Str → Option Value) (cP cN c1 c2 c3 c4 c5 c6 c7 c8 c9 c10 c11 c12 c13 c14 c15 c16 fI : Addr) : Prop where
  ef : ExF K cN cP fI "place"
  ct : CtK K cP
  s : PySem.W.subIn K (.ref cN) (.ref cP) = some true
  bi : BaseI K cP
  iV : PySem.W.kitOne K (.ref cN) (.type "ValueError") = some true
  mP : mg "PhialError" = some (.ref cP)
  mN : mg "NoOrder" = some (.ref cN)
  iN : PySem.W.kitOne K (.ref cN) (.ref cN) = some true
  m1 : mg "Back" = some (.ref c1)
  m2 : mg "Few" = some (.ref c2)
  m3 : mg "Had" = some (.ref c3)
  m4 : mg "Lacks" = some (.ref c4)
  m5 : mg "NoAmount" = some (.ref c5)
  m6 : mg "NoDeed" = some (.ref c6)
  m7 : mg "NoName" = some (.ref c7)
  m8 : mg "NoRow" = some (.ref c8)
  m9 : mg "NoText" = some (.ref c9)
  m10 : mg "NoThing" = some (.ref c10)
  m11 : mg "NoneLeft" = some (.ref c11)
  m12 : mg "Short" = some (.ref c12)
  m13 : mg "Stale" = some (.ref c13)
  m14 : mg "TooLarge" = some (.ref c14)
  m15 : mg "TooMany" = some (.ref c15)
  m16 : mg "Twice" = some (.ref c16)
  i1 : PySem.W.kitOne K (.ref cN) (.ref c1) = some false
  i2 : PySem.W.kitOne K (.ref cN) (.ref c2) = some false
  i3 : PySem.W.kitOne K (.ref cN) (.ref c3) = some false
  i4 : PySem.W.kitOne K (.ref cN) (.ref c4) = some false
  i5 : PySem.W.kitOne K (.ref cN) (.ref c5) = some false
  i6 : PySem.W.kitOne K (.ref cN) (.ref c6) = some false
  i7 : PySem.W.kitOne K (.ref cN) (.ref c7) = some false
  i8 : PySem.W.kitOne K (.ref cN) (.ref c8) = some false
  i9 : PySem.W.kitOne K (.ref cN) (.ref c9) = some false
  i10 : PySem.W.kitOne K (.ref cN) (.ref c10) = some false
  i11 : PySem.W.kitOne K (.ref cN) (.ref c11) = some false
  i12 : PySem.W.kitOne K (.ref cN) (.ref c12) = some false
  i13 : PySem.W.kitOne K (.ref cN) (.ref c13) = some false
  i14 : PySem.W.kitOne K (.ref cN) (.ref c14) = some false
  i15 : PySem.W.kitOne K (.ref cN) (.ref c15) = some false
  i16 : PySem.W.kitOne K (.ref cN) (.ref c16) = some false
def spInit (cN : Addr) : Sp := fun vs H Q _ => ∃ (e : Addr) (i : Nat), vs = [.ref e, .int (i : Nat)] ∧ i < 50 ∧ H e = some (exN e cN none) ∧ ∀ dx, H dx = none → dx ≠ e → Q .non (upd (upd H e (exN e cN (some dx))) dx (xdE dx [("place", .int (i : Nat))]))
/-- refused: an error of the class that tells the place -/
def BadO (cN : Addr) (i : Nat) (H : Hp) (E : XK) : Prop := ∀ dx H', Same H H' → H' dx = some (xdE dx [("place", .int (i : Nat))]) → E (.ref cN) (some dx) H'
theorem BadO.mono {cN : Addr} {i : Nat} {H H1 : Hp} {E : XK} (h : BadO cN i H E) (s : Same H H1) : BadO cN i H1 E := fun dx H' s' hd => h dx H' (s.trans s') hd
theorem raise_bad {cN : Addr} {i : Nat} (i50 : i < 50) {H : Hp} {E : XK} (h : BadO cN i H E) : [V.int (i : Nat)].length ≤ sizeLine ∧ ∀ e, H e = none → spInit cN [.ref e, .int (i : Nat)] (upd H e (exN e cN none)) (fun v H2 => v = .non ∧ ∃ dd, H2 e = some (exN e cN dd) ∧ E (.ref cN) dd (rem H2 e)) E0 := by
  refine ⟨(by show 1 ≤ sizeLine; decide), fun e he => ⟨e, i, rfl, i50, upd_same, fun dx hd ne => ⟨rfl, some dx, ?_, ?_⟩⟩⟩
  · rw [upd_ne (Ne.symm ne), upd_same]
  · have hd' : H dx = none := by
      rw [upd_ne ne] at hd
      exact hd
    refine h dx _ (fun b o hb => ?_) ?_
    · have n1 : b ≠ e := fun z => by rw [z, he] at hb; cases hb
      have n2 : b ≠ dx := fun z => by rw [z, hd'] at hb; cases hb
      rw [rem_ne n1, upd_ne n2, upd_ne n1, upd_ne n1]
      exact hb
    · rw [rem_ne ne, upd_same]
theorem place_len : ∀ i : Fin 50, (Str.empty ++ ("there is no order at place " : Str) ++ (((toString ((i.val : Nat) : Int) : String)) : Str)).length ≤ 1000 := by decide +kernel
theorem place_log : ∀ i : Fin 50, (((i.val : Nat) : Int).natAbs).log2 < 1920 := by decide +kernel
def spLook (K : PySem.W.Frag) (cN : Addr) : Sp := fun vs H Q E => ∃ (a : Addr) (ws : List V) (cs : List (Option Str)) (t : Addr) (ns : List Int), vs = [.ref a, .ref t] ∧ SqL K H a ws ∧ SqL K H t (ns.map V.int) ∧ RwsC H (ns.length : Int) ws cs ∧ ws.length ≤ 44 ∧ ns.length ≤ 60 ∧
  (faultFrom [] 0 cs = none → ∀ p H', Same H H' → H p = none → H' p = some (.lst ws) → Q (.ref p) H') ∧ (∀ i, faultFrom [] 0 cs = some i → BadO cN i H E)
def spRefused (cN : Addr) : Sp := fun vs H Q _ => ∃ (a dx : Addr) (i : Nat), vs = [.ref a, .int (i : Nat)] ∧ H a = some (excD a cN (some dx)) ∧ H dx = some (xdE dx [("place", .int (i : Nat))]) ∧ ∀ H', Same H H' → Q (.bl true) H'
section
variable {P : Program} {w : World} {K : PySem.W.Frag} {mg : Str → Option Value} {base : Heap} {cP cN c1 c2 c3 c4 c5 c6 c7 c8 c9 c10 c11 c12 c13 c14 c15 c16 fI : Addr}
theorem scInit : FnScope ["self", "place"] ["self", "place"] (defScope sInit) := ⟨rfl, rfl, rfl, by decide +kernel, rfl, by decide +kernel, by decide +kernel⟩
theorem ok_init {f : Addr} {fd : FuncData} (F : Fun K "__init__" "NoOrder.__init__" sInit f fd) (R : ErN K mg cP cN c1 c2 c3 c4 c5 c6 c7 c8 c9 c10 c11 c12 c13 c14 c15 c16 fI) : FnOk P w K mg base CX0 1 f fd ["self", "place"] (spInit cN) := by
  refine F.ok scInit (fun vs H Q E h => ?_) (fun cdv A outer s H vs Q E hr h => ?_)
  · obtain ⟨_, _, rfl, _⟩ := h
    rfl
  · obtain ⟨e, i, rfl, i50, he, k⟩ := h
    refine ⟨_, pss_cons (ps_expr (pe_binit rfl R.mP R.bi (pa_cons (pv 0) (pa_cons (pe_join (pj_cons pe_str (pj_cons (pe_fmt (pv 1)) pj_nil))) pa_nil))))
      (pss_one (ps_exN (C := cN) (P := cP) (f := fI) rfl (pv 0) (pv 1) rfl)), ?_⟩
    have pl := sz1000 (place_len ⟨i, i50⟩)
    refine ⟨_, rfl, _, rfl, (by decide +kernel), _, rfl, _, ⟨place_log ⟨i, i50⟩, rfl⟩, _, rfl, pl, pl, e, cN, none, fI, _, rfl, he, R.ef.i, ?_⟩
    exact ⟨_, rfl, _, rfl, e, rfl, he, R.ef, fun dx hd ne => k dx hd ne⟩
theorem bt_list : bootBuiltins "list" = some (.type "list") := by decide +kernel
theorem bt_val : bootBuiltins "ValueError" = some (.type "ValueError") := by decide +kernel
theorem scLook : FnScope ["orders", "turns", "names", "place", "order"] ["orders", "turns"] (defScope sLook) := ⟨rfl, rfl, rfl, by decide +kernel, rfl, by decide +kernel, by decide +kernel⟩
theorem ok_look {f : Addr} {fd fdI : FuncData} {tk : Tok} (F : Fun K "look_at" "look_at" sLook f fd) (T : Txt mg) (R : ErN K mg cP cN c1 c2 c3 c4 c5 c6 c7 c8 c9 c10 c11 c12 c13 c14 c15 c16 fI) (mO : mg "MOST_ORDERS" = some (.int 40 tk)) (FI : FnOk P w K mg base CX0 1 fI fdI ["self", "place"] (spInit cN)) (bI : Binds K fdI ["self", "place"] [])
    (cI : Cal P w K mg base CX0 2 "is_order" ["thing", "days"] spOrd) : FnOk P w K mg base (CXg P w) 3 f fd ["orders", "turns"] (spLook K cN) := by
  refine F.okF scLook (fun vs H Q E h => ?_) (fun cdv A outer s H vs Q E hr h => ?_)
  · obtain ⟨_, _, _, _, _, rfl, _⟩ := h
    rfl
  · obtain ⟨a, ws, cs, t, ns, rfl, ha, ht, rws, wl, nl, kG, kB⟩ := h
    refine ⟨_, (pss_cons (ps_set (i := 2) scLook.nd rfl (Or.inl rfl) pe_dnewK)
      (pss_cons (ps_for PassesOwn.leaving rfl (pi_enum rfl T.enu (pa_cons (pv 0) pa_nil)) (pg_tup rfl (pgs_cons (pg_name (i := 3) scLook.nd rfl (Or.inl rfl)) (pgs_cons (pg_name (i := 4) scLook.nd rfl (Or.inl rfl)) pgs_nil)))
        (pss_cons (ps_if (PW.pt (pw_or (pt_cmpR op_ge (pv 3) (pe_glob (v := .int 40) rfl mO ⟨_, rfl⟩) (nomark _)) (pw_or (pt_not (pt_val (pe_cal cI hr rfl pass0 (pa_cons (pv 4) (pa_cons (pe_callB call_len_seq rfl T.len PySem.boot_len (pa_cons (pv 1) pa_nil)) pa_nil))))) (pw_or1 (pt_cmp (pc_din (hu_of hr) (pit 4 0) (pv 2)))))))
          (pss_one (ps_raiseI (k := 1) rfl xe_f rfl hr rfl R.mN R.ef.i FI bI (pa_cons (pv 3) pa_nil)))
          pss_nil)
        (pss_one (ps_dput (hu_of hr) (pv 2) (pit 4 0) pe_bl rfl))))
      (pss_one (ps_ret (pe_callTy call_list_of rfl T.list' bt_list (pa_cons (pv 0) pa_nil)))))), ?_⟩
    have rws' : RwsC H (((ns.map V.int).length : Nat) : Int) ws cs := by rw [List.length_map]; exact rws
    refine fun g hg => ?_
    have t0 := Same.upd (o := .dK []) hg
    refine ⟨_, rfl, a, rfl, ⟨ws, t0.seq ha⟩, ?_⟩
    refine for_enum (ys := ws) (fun i σ H' => ∃ (seen : List Str) (kvs : List (Key × V)) (v3 v4 : Option V), σ = [some (.ref a), some (.ref t), some (.ref g), v3, v4] ∧ Same H H' ∧ H' g = some (.dK kvs) ∧ kvs.length ≤ i ∧ i ≤ 40 ∧ (∀ y, (valV kvs (Sum.inr y)).isSome = decide (y ∈ seen)) ∧ faultFrom [] 0 cs = faultFrom seen i (cs.drop i))
      ⟨[], [], none, none, rfl, t0, upd_same, Nat.le_refl _, by omega, fun y => rfl, rfl⟩ ?_ ?_ ?_
    · rintro i σ H' _ ⟨_, _, _, _, rfl, s', _⟩
      exact s'.seq ha
    · rintro i v p σ H2 hv hp ⟨seen, kvs, v3, v4, rfl, s2, hg2, kl, i40, mem, fe⟩
      have iw : i < ws.length := (List.getElem?_eq_some_iff.mp hv).1
      have ic : i < cs.length := by rw [← rws.1]; exact iw
      obtain ⟨c, hc⟩ : ∃ c, cs[i]? = some c := ⟨_, List.getElem?_eq_getElem ic⟩
      have dr : cs.drop i = c :: cs.drop (i + 1) := by
        rw [List.drop_eq_getElem_cons ic]
        congr 1
        exact Option.some.inj ((List.getElem?_eq_getElem ic).symm.trans hc)
      rw [dr] at fe
      have t1 := Same.upd (o := .tup [.int (i : Nat), v]) hp
      have s3 := s2.trans t1
      have hg3 := t1 _ _ hg2
      have rc := (rws'.2 i v c hv hc).keep s3
      have bad : faultFrom [] 0 cs = some i → ∀ H', Same H H' → BadO cN i H' E := fun e H' s' => (kB i e).mono s'
      refine ⟨p, _, rfl, SqT.of upd_same, rfl, _, _, rfl, _, _, rfl, rfl, ?_⟩
      refine ⟨_, rfl, _, _, rfl, rfl, _, rfl, ite2 (fun h40 => ?_) (fun h40 => ?_)⟩
      · have e40 : i = 40 := by
          have : (40 : Int) ≤ (i : Nat) := of_decide_eq_true h40
          omega
        exact ⟨_, rfl, raise_bad (by omega) (bad (fe.trans (fault_40 e40)) _ s3)⟩
      have n40 : i ≠ 40 := fun e => h40 (decide_eq_true (by rw [e]; decide))
      refine ⟨_, rfl, _, rfl, t, _, rfl, .inl (s3.seq ht), v, _, c, rfl, rc, fun H3 s4 => ⟨_, rfl, ?_⟩⟩
      cases c with
      | none => exact iteT ⟨_, rfl, raise_bad (by omega) (bad (fe.trans fault_bad) _ (s3.trans s4))⟩
      | some x =>
        refine iteF ?_
        obtain ⟨q, x1, x2, x3, rfl, hq⟩ := rc.some'
        have hg4 := s4 _ _ hg3
        have hq4 := s4 _ _ hq
        refine ⟨q, _, _, rfl, SqT.of hq4, rfl, _, rfl, g, _, rfl, DGet.k (k := Sum.inr x) hg4, _, rfl, ?_⟩
        rw [mem x]
        refine ite2 (fun hin => ?_) (fun hin => ?_)
        · exact ⟨_, rfl, raise_bad (by omega) (bad (fe.trans (fault_seen (of_decide_eq_true hin))) _ (s3.trans s4))⟩
        · have nin : x ∉ seen := fun z => hin (decide_eq_true z)
          have vn : valV kvs (Sum.inr x) = none := by
            have := mem x
            rw [decide_eq_false nin] at this
            cases hz : valV kvs (Sum.inr x) with
            | none => rfl
            | some z => rw [hz] at this; cases this
          refine ⟨_, rfl, q, _, _, rfl, SqT.of hq4, rfl, g, _, rfl, DPut.k (k := Sum.inr x) hg4 (small1000 (by omega)), ?_⟩
          refine ⟨seen ++ [x], _, _, _, rfl, same_own (s3.trans s4) hg, upd_same, ?_, by omega, fun y => ?_, fe.trans (fault_next n40 nin)⟩
          · rw [putK_new _ vn, List.length_append]
            show kvs.length + 1 ≤ i + 1
            omega
          · rw [valV_put]
            by_cases e : y = x
            · subst e
              rw [if_pos rfl, decide_eq_true (List.mem_append_right _ (List.mem_singleton.mpr rfl))]
              rfl
            · rw [if_neg (fun z => e (Sum.inr.inj z)), mem y]
              refine decide_eq_decide.mpr ⟨fun z => List.mem_append_left _ z, fun z => ?_⟩
              rcases List.mem_append.mp z with z | z
              · exact z
              · exact absurd (List.mem_singleton.mp z) e
    · rintro σ H2 ⟨seen, kvs, v3, v4, rfl, s2, hg2, kl, i40, mem, fe⟩
      rw [List.drop_of_length_le (by rw [← rws.1]; exact Nat.le_refl _)] at fe
      exact ⟨_, rfl, a, ws, rfl, .inl (s2.seq ha), fun p hp => kG fe p _ (s2.trans (Same.upd hp)) (same_none s2 hp) upd_same⟩
theorem scRefused : FnScope ["_law_e", "_law_place", "_law_some"] ["_law_e", "_law_place"] (defScope sRefused) := ⟨rfl, rfl, rfl, by decide +kernel, rfl, by decide +kernel, by decide +kernel⟩
theorem ok_refused {f : Addr} {fd : FuncData} (F : Fun K "_law_refused" "_law_refused" sRefused f fd) (T : Txt mg) (R : ErN K mg cP cN c1 c2 c3 c4 c5 c6 c7 c8 c9 c10 c11 c12 c13 c14 c15 c16 fI) (cW : Cal P w K mg base CX0 1 "_law_whole" ["_law_found"] spWh) : FnOk P w K mg base CX0 2 f fd ["_law_e", "_law_place"] (spRefused cN) := by
  refine F.ok scRefused (fun vs H Q E h => ?_) (fun cdv A outer s H vs Q E hr h => ?_)
  · obtain ⟨_, _, _, rfl, _⟩ := h
    rfl
  · obtain ⟨a, dx, i, rfl, hH, hd, k⟩ := h
    refine ⟨_, (pss_cons (ps_set (i := 2) scRefused.nd rfl (Or.inl rfl) (pe_lst (pa_cons (pe_callB call_isiY rfl T.isi boot_isinstance (pa_cons (pv 0) (pa_cons (pe_glob (v := .ref c1) rfl R.m1 rfl) pa_nil))) (pa_cons (pe_callB call_isiY rfl T.isi boot_isinstance (pa_cons (pv 0) (pa_cons (pe_glob (v := .ref c2) rfl R.m2 rfl) pa_nil))) (pa_cons (pe_callB call_isiY rfl T.isi boot_isinstance (pa_cons (pv 0) (pa_cons (pe_glob (v := .ref c3) rfl R.m3 rfl) pa_nil))) (pa_cons (pe_callB call_isiY rfl T.isi boot_isinstance (pa_cons (pv 0) (pa_cons (pe_glob (v := .ref c4) rfl R.m4 rfl) pa_nil))) (pa_cons (pe_callB call_isiY rfl T.isi boot_isinstance (pa_cons (pv 0) (pa_cons (pe_glob (v := .ref c5) rfl R.m5 rfl) pa_nil))) pa_nil)))))))
      (pss_cons (ps_set (i := 2) scRefused.nd rfl (Or.inl rfl) (pe_op op_cat (pv 2) (pe_lst (pa_cons (pe_callB call_isiY rfl T.isi boot_isinstance (pa_cons (pv 0) (pa_cons (pe_glob (v := .ref c6) rfl R.m6 rfl) pa_nil))) (pa_cons (pe_callB call_isiY rfl T.isi boot_isinstance (pa_cons (pv 0) (pa_cons (pe_glob (v := .ref c7) rfl R.m7 rfl) pa_nil))) (pa_cons (pe_callB call_isiY rfl T.isi boot_isinstance (pa_cons (pv 0) (pa_cons (pe_glob (v := .ref c8) rfl R.m8 rfl) pa_nil))) (pa_cons (pe_callB call_isiY rfl T.isi boot_isinstance (pa_cons (pv 0) (pa_cons (pe_glob (v := .ref c9) rfl R.m9 rfl) pa_nil))) pa_nil)))))))
      (pss_cons (ps_set (i := 2) scRefused.nd rfl (Or.inl rfl) (pe_op op_cat (pv 2) (pe_lst (pa_cons (pe_callB call_isiY rfl T.isi boot_isinstance (pa_cons (pv 0) (pa_cons (pe_glob (v := .ref c10) rfl R.m10 rfl) pa_nil))) (pa_cons (pe_callB call_isiY rfl T.isi boot_isinstance (pa_cons (pv 0) (pa_cons (pe_glob (v := .ref c11) rfl R.m11 rfl) pa_nil))) (pa_cons (pe_callB call_isiY rfl T.isi boot_isinstance (pa_cons (pv 0) (pa_cons (pe_glob (v := .ref c12) rfl R.m12 rfl) pa_nil))) (pa_cons (pe_callB call_isiY rfl T.isi boot_isinstance (pa_cons (pv 0) (pa_cons (pe_glob (v := .ref c13) rfl R.m13 rfl) pa_nil))) pa_nil)))))))
      (pss_cons (ps_set (i := 2) scRefused.nd rfl (Or.inl rfl) (pe_op op_cat (pv 2) (pe_lst (pa_cons (pe_callB call_isiY rfl T.isi boot_isinstance (pa_cons (pv 0) (pa_cons (pe_glob (v := .ref c14) rfl R.m14 rfl) pa_nil))) (pa_cons (pe_callB call_isiY rfl T.isi boot_isinstance (pa_cons (pv 0) (pa_cons (pe_glob (v := .ref c15) rfl R.m15 rfl) pa_nil))) (pa_cons (pe_callB call_isiY rfl T.isi boot_isinstance (pa_cons (pv 0) (pa_cons (pe_glob (v := .ref c16) rfl R.m16 rfl) pa_nil))) pa_nil))))))
      (pss_cons (ps_if (PW.pt (pw_or (pt_cmpR op_in_seq pe_bl (pv 2) (by with_unfolding_all rfl)) (pw_or (pt_not (pt_val (pe_callB call_isiY rfl T.isi boot_isinstance (pa_cons (pv 0) (pa_cons (pe_glob (v := .ref cN) rfl R.mN rfl) pa_nil))))) (pw_or1 (pt_not (pt_val (pe_callB call_isiY rfl T.isi boot_isinstance (pa_cons (pv 0) (pa_cons (pe_bltn (v := .ty "ValueError") rfl T.val bt_val rfl) pa_nil)))))))))
        (pss_one (ps_ret pe_bl))
        pss_nil)
      (pss_one (ps_ret (pe_and (pe_cal cW hr rfl pass0 (pa_cons (pe_exf (pv 0) rfl) pa_nil)) (pe_one (pe_cmpR op_eq (pe_exf (pv 0) rfl) (pv 1) (nomark _))))))))))), ?_⟩
    have F := R.ef
    refine ⟨_, rfl, a, cN, _, .ref c1, .ref c1, false, rfl, hH, F.i.k, rfl, R.i1, _, rfl, a, cN, _, .ref c2, .ref c2, false, rfl, hH, F.i.k, rfl, R.i2, _, rfl, a, cN, _, .ref c3, .ref c3, false, rfl, hH, F.i.k, rfl, R.i3, _, rfl, a, cN, _, .ref c4, .ref c4, false, rfl, hH, F.i.k, rfl, R.i4, _, rfl, a, cN, _, .ref c5, .ref c5, false, rfl, hH, F.i.k, rfl, R.i5, (by show 5 ≤ sizeLine; decide), fun y1 h1 => ?_⟩
    have t1 := Same.upd (o := .lst [.bl false, .bl false, .bl false, .bl false, .bl false]) h1
    have hH1 := t1 _ _ hH
    refine ⟨_, rfl, _, rfl, a, cN, _, .ref c6, .ref c6, false, rfl, hH1, F.i.k, rfl, R.i6, _, rfl, a, cN, _, .ref c7, .ref c7, false, rfl, hH1, F.i.k, rfl, R.i7, _, rfl, a, cN, _, .ref c8, .ref c8, false, rfl, hH1, F.i.k, rfl, R.i8, _, rfl, a, cN, _, .ref c9, .ref c9, false, rfl, hH1, F.i.k, rfl, R.i9, (by show 4 ≤ sizeLine; decide), fun y2 h2 => ?_⟩
    have t2 := Same.upd (o := .lst [.bl false, .bl false, .bl false, .bl false]) h2
    refine ⟨y1, y2, _, _, rfl, rfl, t2 _ _ upd_same, upd_same, (by show 9 ≤ sizeLine; decide), fun y3 h3 => ?_⟩
    have t3 := (t1.trans t2).trans (Same.upd (o := .lst [.bl false, .bl false, .bl false, .bl false, .bl false, .bl false, .bl false, .bl false, .bl false]) h3)
    have hH3 := t3 _ _ hH
    refine ⟨_, rfl, _, rfl, a, cN, _, .ref c10, .ref c10, false, rfl, hH3, F.i.k, rfl, R.i10, _, rfl, a, cN, _, .ref c11, .ref c11, false, rfl, hH3, F.i.k, rfl, R.i11, _, rfl, a, cN, _, .ref c12, .ref c12, false, rfl, hH3, F.i.k, rfl, R.i12, _, rfl, a, cN, _, .ref c13, .ref c13, false, rfl, hH3, F.i.k, rfl, R.i13, (by show 4 ≤ sizeLine; decide), fun y4 h4 => ?_⟩
    have t4 := Same.upd (o := .lst [.bl false, .bl false, .bl false, .bl false]) h4
    refine ⟨y3, y4, _, _, rfl, rfl, t4 _ _ upd_same, upd_same, (by show 13 ≤ sizeLine; decide), fun y5 h5 => ?_⟩
    have t5 := (t3.trans t4).trans (Same.upd (o := .lst [.bl false, .bl false, .bl false, .bl false, .bl false, .bl false, .bl false, .bl false, .bl false, .bl false, .bl false, .bl false, .bl false]) h5)
    have hH5 := t5 _ _ hH
    refine ⟨_, rfl, _, rfl, a, cN, _, .ref c14, .ref c14, false, rfl, hH5, F.i.k, rfl, R.i14, _, rfl, a, cN, _, .ref c15, .ref c15, false, rfl, hH5, F.i.k, rfl, R.i15, _, rfl, a, cN, _, .ref c16, .ref c16, false, rfl, hH5, F.i.k, rfl, R.i16, (by show 3 ≤ sizeLine; decide), fun y6 h6 => ?_⟩
    have t6 := Same.upd (o := .lst [.bl false, .bl false, .bl false]) h6
    refine ⟨y5, y6, _, _, rfl, rfl, t6 _ _ upd_same, upd_same, (by show 16 ≤ sizeLine; decide), fun y7 h7 => ?_⟩
    have t7 := (t5.trans t6).trans (Same.upd (o := .lst [.bl false, .bl false, .bl false, .bl false, .bl false, .bl false, .bl false, .bl false, .bl false, .bl false, .bl false, .bl false, .bl false, .bl false, .bl false, .bl false]) h7)
    have hH7 := t7 _ _ hH
    have hd7 := t7 _ _ hd
    refine ⟨_, rfl, y7, _, rfl, .inl (SqL.of upd_same), rfl, rfl, _, rfl, iteF ?_⟩
    refine ⟨_, rfl, a, cN, _, .ref cN, .ref cN, true, rfl, hH7, F.i.k, rfl, R.iN, _, rfl, iteF ?_⟩
    refine ⟨_, rfl, a, cN, _, .type "ValueError", .ty "ValueError", true, rfl, hH7, F.i.k, rfl, R.iV, _, rfl, iteF ?_⟩
    refine ⟨_, rfl, a, cN, cP, fI, dx, _, _, rfl, hH7, hd7, F, rfl, _, true, rfl, .int, _, rfl, iteT ?_⟩
    refine ⟨_, rfl, a, cN, cP, fI, dx, _, _, rfl, hH7, hd7, F, rfl, _, rfl, rfl, ?_⟩
    rw [decide_eq_true rfl]
    exact k _ t7
end
end K81

namespace L2
open PySem PySem.Spec PyProof.Rows
theorem call_list_ofK {X : Cx} {K : PySem.W.Frag} (h : X.K = K) : CallR X (.type "list") (fun xs H Q => ∃ p ys, xs = [.ref p] ∧ (SqL K H p ys ∨ SqT K H p ys) ∧ ∀ l, H l = none → Q (.ref l) (upd H l (.lst ys))) := h ▸ call_list_of
def rEqLs (K : PySem.W.Frag) : R2 := fun x y H Q => ∃ a b xs, x = .ref a ∧ y = .ref b ∧ SqL K H a xs ∧ SqL K H b xs ∧ (∀ v ∈ xs, Sf v) ∧ Q (.bl true) H
theorem op_eqLs {X : Cx} (hu : X.A.units + 64 < cLine) : OpR X (compareOp .Eq) (rEqLs X.K) := by
  intro pins s σ H x y v u Q I rx ry h
  obtain ⟨a, b, xs, rfl, rfl, hx, hy, hd, q⟩ := h
  refine op_eqL hu pins s σ H _ _ v u Q I rx ry ⟨a, b, xs, xs, fun _ => true, rfl, rfl, hx, hy, fun j x y h1 h2 => ?_, ?_⟩
  · rw [h1] at h2
    cases h2
    exact DEq.self (hd x (List.mem_of_getElem? h1))
  · rw [Nat.min_self, List.all_eq_true.mpr fun _ _ => rfl, beq_self_eq_true]
    exact q
end L2
namespace K81
open PySem PySem.Spec PyProof.Rows L2 GM TM
def spLaw (K : PySem.W.Frag) : Sp := fun vs H Q _ => ∃ (a : Addr) (ns : List Int), vs = [.ref a] ∧ SqL K H a (ns.map V.int) ∧ ns.length ≤ 63 ∧ ∀ H', Q (.bl true) H'
theorem cut_ints (ns : List Int) : ∃ ns' : List Int, cutV (ns.map V.int) (some 2) (some 46) = ns'.map V.int ∧ ns'.length ≤ 44 := by
  refine ⟨(ns.drop (HT.sIx (ns.map V.int).length 0 (some 2))).take (HT.sIx (ns.map V.int).length (ns.map V.int).length (some 46) - HT.sIx (ns.map V.int).length 0 (some 2)), ?_, ?_⟩
  · unfold cutV
    rw [List.map_take, List.map_drop]
  · rw [List.length_take]
    have h1 := HT.sIx_nat (ns.map V.int).length 0 2
    have h2 := HT.sIx_nat (ns.map V.int).length (ns.map V.int).length 46
    have e1 : HT.sIx (ns.map V.int).length 0 (some 2) = min 2 (ns.map V.int).length := h1
    have e2 : HT.sIx (ns.map V.int).length (ns.map V.int).length (some 46) = min 46 (ns.map V.int).length := h2
    rw [e1, e2]
    omega
theorem RowC.sf {H : Hp} {d : Int} {v : V} {c : Option Str} (h : RowC H d v c) : Sf v := by
  cases h with
  | four => exact .inr ⟨_, rfl⟩
  | bad h =>
    cases h with
    | int => exact .inl rfl
    | non => exact .inl rfl
    | str => exact .inl rfl
    | lst => exact .inr ⟨_, rfl⟩
    | len => exact .inr ⟨_, rfl⟩
    | nai => exact .inr ⟨_, rfl⟩
    | nal => exact .inr ⟨_, rfl⟩
    | war => exact .inr ⟨_, rfl⟩
theorem RwsC.sf {H : Hp} {d : Int} {vs : List V} {cs : List (Option Str)} (h : RwsC H d vs cs) : ∀ v ∈ vs, Sf v := fun v hv => by
  obtain ⟨i, hi⟩ := List.mem_iff_getElem?.mp hv
  obtain ⟨c, hc⟩ : ∃ c, cs[i]? = some c := ⟨_, List.getElem?_eq_getElem (by rw [← h.1]; exact (List.getElem?_eq_some_iff.mp hi).1)⟩
  exact (h.2 i v c hi hc).sf
section
variable {P : Program} {w : World} {K : PySem.W.Frag} {mg : Str → Option Value} {base : Heap} {cP cN c1 c2 c3 c4 c5 c6 c7 c8 c9 c10 c11 c12 c13 c14 c15 c16 fI : Addr}
theorem ndK : (["_law_k", "_law_script"] : List Str).Nodup := by decide +kernel
theorem scLaw : FnScope ["_law_script", "_law_by_digits", "_law_seed", "_law_days", "_law_cells", "_law_orders_here", "_law_rows_here", "_law_place", "_law_handed", "_law_turns_here", "_law_found", "_law_refused_here", "_law_e"] ["_law_script"] (defScope sLaw) := ⟨rfl, rfl, rfl, by decide +kernel, rfl, by decide +kernel, by decide +kernel⟩
theorem ok_law {f : Addr} {fd : FuncData} (F : Fun K "law" "law" sLaw f fd) (T : Txt mg) (R : ErN K mg cP cN c1 c2 c3 c4 c5 c6 c7 c8 c9 c10 c11 c12 c13 c14 c15 c16 fI) (cC : Cal P w K mg base CX0 4 "_law_cell_at" ["_law_script", "_law_k"] (spCell K)) (cM : Cal P w K mg base CX0 4 "_law_mixed" ["_law_cell", "_law_k"] spMixed)
    (cO : Cal P w K mg base CX0 4 "_law_orders" ["_law_cells", "_law_names_here", "_law_days"] (spOrders K)) (cN' : Cal P w K mg base CX0 4 "_law_names" ["_law_seed", "_law_many"] spNames) (cB : Cal P w K mg base CX0 4 "_law_orders_by" ["_law_cells", "_law_days"] (spOrdBy K))
    (cR : Cal P w K mg base CX0 4 "_law_rows" ["_law_orders_here", "_law_days", "_law_seed"] (spRows K)) (cF : Cal P w K mg base CX0 4 "_law_fault" ["_law_rows_here", "_law_days"] (spFault K)) (cT : Cal P w K mg base CX0 4 "_law_turns" ["_law_seed", "_law_days"] spTurns) (cU : Cal P w K mg base CX0 4 "_law_turns_by" ["_law_cell", "_law_days"] spTurnsBy)
    (cL : Cal P w K mg base (CXg P w) 4 "look_at" ["orders", "turns"] (spLook K cN)) (cE : Cal P w K mg base CX0 4 "_law_refused" ["_law_e", "_law_place"] (spRefused cN)) : FnOk P w K mg base CX0 5 f fd ["_law_script"] (spLaw K) := by
  refine F.ok scLaw (fun vs H Q E h => ?_) (fun cdv A outer s H vs Q E hr h => ?_)
  · obtain ⟨_, _, rfl, _⟩ := h
    rfl
  · obtain ⟨a, ns, rfl, hS, _, k⟩ := h
    refine ⟨_, (pss_cons (ps_set (i := 1) scLaw.nd rfl (Or.inl rfl) (pe_cmpR op_eq (pe_op op_mod (pe_cal cC hr rfl pass0 (pa_cons (pv 0) (pa_cons pe_int pa_nil))) pe_int) pe_int (nomark _)))
      (pss_cons (ps_set (i := 2) scLaw.nd rfl (Or.inl rfl) (pe_cal cM hr rfl pass0 (pa_cons (pe_cal cC hr rfl pass0 (pa_cons (pv 0) (pa_cons pe_int pa_nil))) (pa_cons pe_int pa_nil))))
      (pss_cons (ps_set (i := 3) scLaw.nd rfl (Or.inl rfl) (pe_op op_add pe_int (pe_op op_mod (pv 2) pe_int)))
      (pss_cons (ps_set (i := 4) scLaw.nd rfl (Or.inl rfl) (pe_slice sl_list (pv 0) (po_some pe_int) (po_some pe_int)))
      (pss_cons (ps_if (pt_cmpR op_eq (pe_op op_mod (pe_op op_fdivB (pv 2) pe_int) pe_int) pe_int (nomark _))
        (pss_one (ps_compC (iy := 4) (N' := ["_law_k", "_law_script"]) (fun σ => [none, some 0].map fun t => t.bind fun j => (σ[j]?).join) rfl rfl (by decide +kernel) (by decide +kernel)
          (hk_of (sc := defScope sLaw) rfl (by decide +kernel)) (fun _ _ _ => blkN_by (sc := defScope sLaw) (N := ["_law_script", "_law_by_digits", "_law_seed", "_law_days", "_law_cells", "_law_orders_here", "_law_rows_here", "_law_place", "_law_handed", "_law_turns_here", "_law_found", "_law_refused_here", "_law_e"]) [none, some 0] rfl rfl rfl rfl (by decide +kernel))
          (pi_range1 rfl T.range (pa_cons (pe_op op_add pe_int (pe_op op_mod (pe_op op_fdivB (pv 2) pe_int) pe_int)) pa_nil)) (fun _ _ _ _ _ _ => pg_name (i := 0) ndK rfl (Or.inl rfl)) (fun _ _ _ _ _ _ => pifs_nil)
          (fun _ _ _ _ _ _ => pe_op op_add (pe_cal cC hr rfl pass0 (pa_cons (pv 1) (pa_cons (pe_op op_add pe_int (pe_op op_mod (pv 0) pe_int)) pa_nil))) (pv 0)) scLaw.nd rfl (Or.inl rfl) (Or.inr rfl) rfl))
        pss_nil)
      (pss_cons (ps_set (i := 5) scLaw.nd rfl (Or.inl rfl) (pe_cal cO hr rfl pass0 (pa_cons (pv 4) (pa_cons (pe_cal cN' hr rfl pass0 (pa_cons (pe_op op_fdivB (pv 2) pe_int) (pa_cons pe_int pa_nil))) (pa_cons (pv 3) pa_nil)))))
      (pss_cons (ps_if (pt_val (pv 1))
        (pss_one (ps_set (i := 5) scLaw.nd rfl (Or.inl rfl) (pe_cal cB hr rfl pass0 (pa_cons (pv 4) (pa_cons (pv 3) pa_nil)))))
        pss_nil)
      (pss_cons (ps_set (i := 6) scLaw.nd rfl (Or.inl rfl) (pe_cal cR hr rfl pass0 (pa_cons (pv 5) (pa_cons (pv 3) (pa_cons (pe_cal cM hr rfl pass0 (pa_cons (pe_cal cC hr rfl pass0 (pa_cons (pv 0) (pa_cons pe_int pa_nil))) (pa_cons pe_int pa_nil))) pa_nil)))))
      (pss_cons (ps_set (i := 7) scLaw.nd rfl (Or.inl rfl) (pe_cal cF hr rfl pass0 (pa_cons (pv 6) (pa_cons (pv 3) pa_nil))))
      (pss_cons (ps_set (i := 8) scLaw.nd rfl (Or.inl rfl) (pe_callTy call_list_of rfl T.list' bt_list (pa_cons (pv 6) pa_nil)))
      (pss_cons (ps_set (i := 9) scLaw.nd rfl (Or.inl rfl) (pe_cal cT hr rfl pass0 (pa_cons (pv 2) (pa_cons (pv 3) pa_nil))))
      (pss_cons (ps_if (pt_val (pv 1))
        (pss_one (ps_set (i := 9) scLaw.nd rfl (Or.inl rfl) (pe_cal cU hr rfl pass0 (pa_cons (pe_cal cC hr rfl pass0 (pa_cons (pv 0) (pa_cons pe_int pa_nil))) (pa_cons (pv 3) pa_nil)))))
        pss_nil)
      (pss_cons (ps_set (i := 10) scLaw.nd rfl (Or.inl rfl) pe_non)
      (pss_cons (ps_set (i := 11) scLaw.nd rfl (Or.inl rfl) pe_non)
      (pss_cons (ps_tryS (i := 12) (j := 11) ⟨rfl, rfl, rfl⟩ rfl R.mP R.ct scLaw.nd rfl rfl rfl rfl (by decide) (fun pins E' σ Ec hp => pss_one (ps_set (i := 10) scLaw.nd rfl (Or.inl rfl) (pe_calS cL hr rfl hp (pa_cons (pv 8) (pa_cons (pe_callTy (call_list_ofK (K := K) rfl) rfl T.list' bt_list (pa_cons (pv 9) pa_nil)) pa_nil))))))
      (pss_cons (ps_if (pt_cmpR (op_neLs hr.units) (pv 8) (pv 6) (nomark _))
        (pss_one (ps_ret pe_bl))
        pss_nil)
      (pss_cons (ps_if (pt_cmpR op_notN (pv 7) pe_non (nomark _))
        (pss_one (ps_ret (pe_and (pe_cmpR op_notN (pv 11) pe_non (nomark _)) (pe_one (pe_cal cE hr rfl pass0 (pa_cons (pv 11) (pa_cons (pv 7) pa_nil)))))))
        pss_nil)
      (pss_cons (ps_if (PW.pt (pw_or (pt_cmpR op_notN (pv 11) pe_non (nomark _)) (pw_or (pt_not (pt_val (pe_callB call_isi rfl T.isi boot_isinstance (pa_cons (pv 10) (pa_cons (pe_bltn (v := .ty "list") rfl T.list' bt_list rfl) pa_nil))))) (pw_or1 (pt_cmpR (op_neLs hr.units) (pv 10) (pv 6) (nomark _))))))
        (pss_one (ps_ret pe_bl))
        pss_nil)
      (pss_cons (ps_expr (pe_bm PySem.F.plainAttrs_list PySem.F.slot_list_append PySem.F.type_list_append mt_append (pv 10) (pa_cons pe_non pa_nil)))
      (pss_one (ps_ret (pe_cmpR (op_eqLs hr.units) (pv 8) (pv 6) (nomark _))))))))))))))))))))))), ?_⟩
    refine ⟨_, rfl, a, ns, 0, rfl, hS, by decide, fun c0 => ⟨_, _, rfl, rfl, (by show (0 : Int) < 2; decide), rfl, ?_⟩⟩
    generalize decide (V.int (c0 % 2) = V.int 0) = b1
    refine ⟨_, rfl, a, ns, 0, rfl, hS, by decide, fun c1 => ⟨c1, 0, rfl, by decide, by decide, fun n n0 nl => ?_⟩⟩
    have e60 := emod_in n (m := 60) (by decide)
    refine ⟨_, rfl, _, _, rfl, rfl, (by show (0 : Int) < 60; decide), _, _, rfl, rfl, ?_⟩
    dsimp only [gName]
    refine st [some (.ref a), some (.bl b1), some (.int n), some (.int (1 + n % 60)), none, none, none, none, none, none, none, none, none] rfl ?_
    generalize hd : 1 + n % 60 = d
    have d1 : 1 ≤ d := by omega
    have d60 : d ≤ 60 := by omega
    obtain ⟨ks, ek, kl⟩ := cut_ints ns
    refine ⟨_, rfl, _, rfl, _, rfl, a, _, rfl, hS, fun z hz => ?_⟩
    have t1 := Same.upd (o := .lst (cutV (ns.map V.int) (some 2) (some 46))) hz
    refine ⟨_, rfl, _, _, rfl, rfl, ⟨by decide, b9⟩, _, _, rfl, rfl, (by show (0 : Int) < 6; decide), rfl, _, rfl, ?_⟩
    refine if_key (fun σ' H' => ∃ (y : Addr) (ms : List Int), ms.length ≤ 44 ∧ Same H H' ∧ H' y = some (.lst (ms.map V.int)) ∧ σ' = [some (.ref a), some (.bl b1), some (.int n), some (.int d), some (.ref y), none, none, none, none, none, none, none, none]) (fun key _ => ?_) (fun _ => ⟨z, ks, kl, t1, by rw [← ek]; exact upd_same, rfl⟩) ?_
    · have e8 := emod_in (n / 360) (m := 8) (by decide)
      refine ⟨_, rfl, _, _, rfl, rfl, ⟨by decide, b9⟩, _, _, rfl, rfl, (by show (0 : Int) < 8; decide), _, _, rfl, rfl, _, rfl, by omega, by omega, fun D hD => ?_⟩
      refine comp_rel (Ys.rng (lo := 0)) (fun _ _ y _ => ∃ n : Int, y = .int n) (fun _ _ _ _ _ h _ => h) hD (by rw [rngV_len]; omega) (fun i x H5 R' hx sm hR => ?_) (fun ys H5 sm hD5 yl hy => ?_)
      · obtain ⟨hi', rfl⟩ := rngV_get hx
        have e9 := emod_in ((0 : Int) + i) (m := 9) (by decide)
        exact ⟨(Keep.refl _).set rfl, _, rfl, _, rfl, _, _, rfl, rfl, (by show (0 : Int) < 9; decide), _, _, rfl, rfl, a, ns, _, rfl, (t1.trans sm).seq hS, by omega, fun c2 => ⟨_, rfl, _, _, rfl, rfl, hR _ _ (Same.refl _) ⟨_, rfl⟩⟩⟩
      · obtain ⟨ms, e⟩ := ints_of (ys := ys) fun y hy' => by
          obtain ⟨i, hi⟩ := List.mem_iff_getElem?.mp hy'
          obtain ⟨x, hx⟩ : ∃ x, (rngV 0 (37 + n / 360 % 8).toNat)[i]? = some x := ⟨_, List.getElem?_eq_getElem (by have := (List.getElem?_eq_some_iff.mp hi).1; omega)⟩
          exact hy i x y hx hi
        subst e
        rw [rngV_len, List.length_map] at yl
        exact key _ _ ⟨D, ms, by omega, t1.trans sm, hD5, rfl⟩
    rintro _ H2 ⟨y, ms, ml, s2, hy2, rfl⟩
    clear t1 hz ek kl
    -- the orders
    refine ⟨_, rfl, _, rfl, _, _, rfl, rfl, ⟨by decide, b9⟩, n / 7, rfl, Int.ediv_nonneg n0 (by decide), by have := Int.ediv_le_self 7 n0; omega, fun p ws H3 wl ww s3 hp0 hp => ?_⟩
    refine ⟨_, rfl, y, ms, p, ws, d, rfl, SqL.of (s3 _ _ hy2), SqL.of hp, wl, ww, d1, d60, fun o us H4 ul ol s4 ho0 ho => ?_⟩
    refine ⟨_, rfl, _, rfl, ?_⟩
    refine if_key (fun σ' H' => ∃ (o : Addr) (us : List V), us.length ≤ 44 ∧ OrdL H' d us ∧ Same H H' ∧ H' o = some (.lst us) ∧ σ' = [some (.ref a), some (.bl b1), some (.int n), some (.int d), some (.ref y), some (.ref o), none, none, none, none, none, none, none]) (fun key _ => ?_) (fun _ => ⟨o, us, ul, ol, (s2.trans s3).trans s4, ho, rfl⟩) ?_
    · refine ⟨_, rfl, _, rfl, y, ms, d, rfl, SqL.of (s4 _ _ (s3 _ _ hy2)), ml, d1, d60, fun o' us' H5 ul' ol' s5 ho0' ho' => ?_⟩
      exact key _ _ ⟨o', us', ul', ol', ((s2.trans s3).trans s4).trans s5, ho', rfl⟩
    clear ho0 ho ol ul s4
    rintro _ H5 ⟨o, us, ul, ol, s5, ho, rfl⟩
    -- the rows, the fault, what is handed in
    refine ⟨_, rfl, _, rfl, _, rfl, a, ns, 1, rfl, s5.seq hS, by decide, fun c3 => ⟨c3, 1, rfl, by decide, by decide, fun n2 n20 n2l => ?_⟩⟩
    refine ⟨o, us, d, n2, rfl, SqL.of ho, ol, ul, d1, d60, n20, by omega, fun r vs cs H6 vl rw6 s6 hr0 hr6 => ?_⟩
    refine ⟨_, rfl, _, rfl, r, vs, cs, d, rfl, SqL.of hr6, rw6, vl, fun H7 s7 => ?_⟩
    have hr7 := s7 _ _ hr6
    refine ⟨_, rfl, r, vs, rfl, .inl (SqL.of hr7), fun q hq => ?_⟩
    have t8 := Same.upd (o := .lst vs) hq
    have qr : r ≠ q := fun e => by rw [e] at hr7; rw [hr7] at hq; cases hq
    have s8 := ((s5.trans s6).trans s7).trans t8
    have hr8 := t8 _ _ hr7
    have rw8 := (rw6.keep s7).keep t8
    -- the turns
    refine ⟨_, rfl, _, rfl, n, d, rfl, n0, by omega, d1, d60, fun t ns2 H9 tl s9 ht0 ht => ?_⟩
    refine ⟨_, rfl, _, rfl, ?_⟩
    refine if_key (fun σ' H' => ∃ (t : Addr) (ns2 : List Int), (ns2.length : Int) = d ∧ Same (upd H7 q (.lst vs)) H' ∧ H' t = some (.lst (ns2.map V.int)) ∧ σ' = [some (.ref a), some (.bl b1), some (.int n), some (.int d), some (.ref y), some (.ref o), some (.ref r), some (fV (faultFrom [] 0 cs)), some (.ref q), some (.ref t), none, none, none]) (fun key _ => ?_) (fun _ => ⟨t, ns2, tl, s9, ht, rfl⟩) ?_
    · refine ⟨_, rfl, a, ns, 1, rfl, (s8.trans s9).seq hS, by decide, fun c4 => ⟨_, rfl, c4, d, rfl, d1, d60, fun t' ns2' H10 tl' s10 ht0' ht' => ?_⟩⟩
      exact key _ _ ⟨t', ns2', tl', s9.trans s10, ht', rfl⟩
    clear ht0 ht tl s9
    rintro _ H9 ⟨t, ns2, tl, s9, ht, rfl⟩
    have hr9 := s9 _ _ hr8
    have hq9 := s9 _ _ (upd_same (H := H7) (a := q) (o := .lst vs))
    have rw9 := rw8.keep s9
    have sf := rw9.sf
    cases hf : faultFrom [] 0 cs with
    | none =>
      refine ⟨rfl, _, rfl, _, rfl, t, _, rfl, .inl (SqL.of ht), fun t2 ht2 => ?_⟩
      have t10 := Same.upd (o := .lst (ns2.map V.int)) ht2
      refine ⟨q, vs, cs, t2, ns2, rfl, SqL.of (t10 _ _ hq9), SqL.of upd_same, (by rw [tl]; exact rw9.keep t10), vl, by omega, fun _ p2 H10 s10 hp0 hp2 => ?_, fun i e => by rw [hf] at e; cases e⟩
      have hq10 := s10 _ _ (t10 _ _ hq9)
      have hr10 := s10 _ _ (t10 _ _ hr9)
      refine ⟨_, rfl, _, rfl, q, r, vs, rfl, rfl, SqL.of hq10, SqL.of hr10, sf, _, rfl, iteF ?_⟩
      refine ⟨_, rfl, rfl, _, rfl, iteF ?_⟩
      refine ⟨_, rfl, rfl, _, rfl, iteF ⟨_, rfl, _, "list", true, rfl, .lst_list (SqL.of hp2), _, rfl, iteF ⟨_, rfl, _, rfl, p2, r, vs, rfl, rfl, SqL.of hp2, SqL.of hr10, sf, _, rfl, iteF ?_⟩⟩⟩
      have pq : q ≠ p2 := fun e => by have z := t10 _ _ hq9; rw [e, hp0] at z; cases z
      have pr : r ≠ p2 := fun e => by have z := t10 _ _ hr9; rw [e, hp0] at z; cases z
      refine ⟨_, rfl, .inl ⟨rfl, _, SqL.of hp2⟩, p2, vs, _, rfl, rfl, hp2, small1000 (by omega), ?_⟩
      exact ⟨_, rfl, _, rfl, q, r, vs, rfl, rfl, SqL.of (by rw [upd_ne pq]; exact hq10), SqL.of (by rw [upd_ne pr]; exact hr10), sf, k _⟩
    | some i =>
      refine ⟨rfl, _, rfl, _, rfl, t, _, rfl, .inl (SqL.of ht), fun t2 ht2 => ?_⟩
      have t10 := Same.upd (o := .lst (ns2.map V.int)) ht2
      refine ⟨q, vs, cs, t2, ns2, rfl, SqL.of (t10 _ _ hq9), SqL.of upd_same, (by rw [tl]; exact rw9.keep t10), vl, by omega, (fun e => by rw [hf] at e; cases e), fun i' e dx H10 s10 hd10 => ?_⟩
      obtain rfl : i' = i := by rw [hf] at e; cases e; rfl
      refine ⟨cN, rfl, R.ef.i.k, R.s, fun ea hea => ?_⟩
      have t11 := Same.upd (o := excD ea cN (some dx)) hea
      have hq11 := t11 _ _ (s10 _ _ (t10 _ _ hq9))
      have hr11 := t11 _ _ (s10 _ _ (t10 _ _ hr9))
      refine ⟨_, rfl, _, rfl, q, r, vs, rfl, rfl, SqL.of hq11, SqL.of hr11, sf, _, rfl, iteF ?_⟩
      refine ⟨_, rfl, rfl, _, rfl, iteT ?_⟩
      exact ⟨_, rfl, rfl, _, rfl, iteT ⟨_, rfl, _, rfl, ea, dx, i', rfl, upd_same, t11 _ _ hd10, fun H12 s12 => k _⟩⟩
end
end K81

namespace K81
open PySem PySem.Spec PyProof.Rows L2 GM TM
/-- a def of the top, by its name -/
structure Dn (K : PySem.W.Frag) (x : Str) (st : Stmt) (ps : List Str) : Prop where
  ex : ∃ (f : Addr) (fd : FuncData), PySem.W.nsIn K mainGlobals x = some (some (.ref f)) ∧ Fun K x x st f fd ∧ Binds K fd ps []
theorem Dn.mk' {K : PySem.W.Frag} {x : Str} {st : Stmt} {ps : List Str} {f : Addr} {oc : Value} {od an : Option Addr} {osl : Array (Option Value)} {kV doc pm cdv ct : Value} (a : PySem.W.nsIn K mainGlobals x = some (some (.ref f)))
    (l : K.lookup f = some ⟨oc, od, .func (PySem.W.fnOf x x (defArgs st) (defBody st) (defScope st) .none kV doc pm an cdv ct), osl⟩) (c : PySem.W.codeIn K cdv x = true) (k : PySem.W.keepIn K (.ref f) = true)
    (hb : ∀ (kV doc pm : Value) (an : Option Addr) (cdv ct : Value) (us : List Value), us.length = ps.length → bindArgs (PySem.W.fnOf x x (defArgs st) (defBody st) (defScope st) .none kV doc pm an cdv ct) ⟨us, []⟩ = pure (ps.zip us)) : Dn K x st ps :=
  ⟨f, _, a, fun_mk (st := st) l c k, (fun_mk (st := st) l c k).binds hb⟩
theorem Dn.cal {P : Program} {w : World} {K : PySem.W.Frag} {mg : Str → Option Value} {base h : Heap} {CX : CXT} {k : Nat} {x : Str} {st : Stmt} {ps : List Str} {sp : Sp} (D : Dn K x st ps) (X : K.In h) (G : h.Ns mainGlobals mg)
    (ok : ∀ {f : Addr} {fd : FuncData}, Fun K x x st f fd → FnOk P w K mg base CX k f fd ps sp) : Cal P w K mg base CX k x ps sp := by
  obtain ⟨f, fd, a, F, b⟩ := D.ex
  exact ⟨f, fd, PySem.W.mg_of X G a, F.kp, b, ok F⟩

/-- the classes of errors, as the top made them -/
structure ErNK (K : PySem.W.Frag) (cP cN c1 c2 c3 c4 c5 c6 c7 c8 c9 c10 c11 c12 c13 c14 c15 c16 fI : Addr) : Prop where
  ef : ExF K cN cP fI "place"
  ct : CtK K cP
  s : PySem.W.subIn K (.ref cN) (.ref cP) = some true
  bi : BaseI K cP
  iV : PySem.W.kitOne K (.ref cN) (.type "ValueError") = some true
  mP : PySem.W.nsIn K mainGlobals "PhialError" = some (some (.ref cP))
  mN : PySem.W.nsIn K mainGlobals "NoOrder" = some (some (.ref cN))
  m1 : PySem.W.nsIn K mainGlobals "Back" = some (some (.ref c1))
  m2 : PySem.W.nsIn K mainGlobals "Few" = some (some (.ref c2))
  m3 : PySem.W.nsIn K mainGlobals "Had" = some (some (.ref c3))
  m4 : PySem.W.nsIn K mainGlobals "Lacks" = some (some (.ref c4))
  m5 : PySem.W.nsIn K mainGlobals "NoAmount" = some (some (.ref c5))
  m6 : PySem.W.nsIn K mainGlobals "NoDeed" = some (some (.ref c6))
  m7 : PySem.W.nsIn K mainGlobals "NoName" = some (some (.ref c7))
  m8 : PySem.W.nsIn K mainGlobals "NoRow" = some (some (.ref c8))
  m9 : PySem.W.nsIn K mainGlobals "NoText" = some (some (.ref c9))
  m10 : PySem.W.nsIn K mainGlobals "NoThing" = some (some (.ref c10))
  m11 : PySem.W.nsIn K mainGlobals "NoneLeft" = some (some (.ref c11))
  m12 : PySem.W.nsIn K mainGlobals "Short" = some (some (.ref c12))
  m13 : PySem.W.nsIn K mainGlobals "Stale" = some (some (.ref c13))
  m14 : PySem.W.nsIn K mainGlobals "TooLarge" = some (some (.ref c14))
  m15 : PySem.W.nsIn K mainGlobals "TooMany" = some (some (.ref c15))
  m16 : PySem.W.nsIn K mainGlobals "Twice" = some (some (.ref c16))
  iN : PySem.W.kitOne K (.ref cN) (.ref cN) = some true
  i1 : PySem.W.kitOne K (.ref cN) (.ref c1) = some false
  i2 : PySem.W.kitOne K (.ref cN) (.ref c2) = some false
  i3 : PySem.W.kitOne K (.ref cN) (.ref c3) = some false
  i4 : PySem.W.kitOne K (.ref cN) (.ref c4) = some false
  i5 : PySem.W.kitOne K (.ref cN) (.ref c5) = some false
  i6 : PySem.W.kitOne K (.ref cN) (.ref c6) = some false
  i7 : PySem.W.kitOne K (.ref cN) (.ref c7) = some false
  i8 : PySem.W.kitOne K (.ref cN) (.ref c8) = some false
  i9 : PySem.W.kitOne K (.ref cN) (.ref c9) = some false
  i10 : PySem.W.kitOne K (.ref cN) (.ref c10) = some false
  i11 : PySem.W.kitOne K (.ref cN) (.ref c11) = some false
  i12 : PySem.W.kitOne K (.ref cN) (.ref c12) = some false
  i13 : PySem.W.kitOne K (.ref cN) (.ref c13) = some false
  i14 : PySem.W.kitOne K (.ref cN) (.ref c14) = some false
  i15 : PySem.W.kitOne K (.ref cN) (.ref c15) = some false
  i16 : PySem.W.kitOne K (.ref cN) (.ref c16) = some false
  fn : ∃ fd : FuncData, Fun K "__init__" "NoOrder.__init__" sInit fI fd ∧ Binds K fd ["self", "place"] []
theorem ErNK.er {K : PySem.W.Frag} {mg : Str → Option Value} {h : Heap} {cP cN c1 c2 c3 c4 c5 c6 c7 c8 c9 c10 c11 c12 c13 c14 c15 c16 fI : Addr} (E : ErNK K cP cN c1 c2 c3 c4 c5 c6 c7 c8 c9 c10 c11 c12 c13 c14 c15 c16 fI) (X : K.In h) (G : h.Ns mainGlobals mg) : ErN K mg cP cN c1 c2 c3 c4 c5 c6 c7 c8 c9 c10 c11 c12 c13 c14 c15 c16 fI :=
  ⟨E.ef, E.ct, E.s, E.bi, E.iV, PySem.W.mg_of X G E.mP, PySem.W.mg_of X G E.mN, E.iN, PySem.W.mg_of X G E.m1, PySem.W.mg_of X G E.m2, PySem.W.mg_of X G E.m3, PySem.W.mg_of X G E.m4, PySem.W.mg_of X G E.m5, PySem.W.mg_of X G E.m6, PySem.W.mg_of X G E.m7, PySem.W.mg_of X G E.m8, PySem.W.mg_of X G E.m9, PySem.W.mg_of X G E.m10, PySem.W.mg_of X G E.m11, PySem.W.mg_of X G E.m12, PySem.W.mg_of X G E.m13, PySem.W.mg_of X G E.m14, PySem.W.mg_of X G E.m15, PySem.W.mg_of X G E.m16, E.i1, E.i2, E.i3, E.i4, E.i5, E.i6, E.i7, E.i8, E.i9, E.i10, E.i11, E.i12, E.i13, E.i14, E.i15, E.i16⟩
theorem fnI_mk {K : PySem.W.Frag} {f : Addr} {oc : Value} {od an : Option Addr} {osl : Array (Option Value)} {kV doc pm cdv ct : Value}
    (l : K.lookup f = some ⟨oc, od, .func (PySem.W.fnOf "__init__" "NoOrder.__init__" (defArgs sInit) (defBody sInit) (defScope sInit) .none kV doc pm an cdv ct), osl⟩) (c : PySem.W.codeIn K cdv "NoOrder.__init__" = true) (k : PySem.W.keepIn K (.ref f) = true) :
    ∃ fd : FuncData, Fun K "__init__" "NoOrder.__init__" sInit f fd ∧ Binds K fd ["self", "place"] [] :=
  ⟨_, fun_mk (st := sInit) l c k, (fun_mk (st := sInit) l c k).binds fun _ _ _ _ _ _ us hl => match us, hl with | [_, _], _ => rfl⟩
theorem err_mk {K : PySem.W.Frag} {cP cN c1 c2 c3 c4 c5 c6 c7 c8 c9 c10 c11 c12 c13 c14 c15 c16 fI : Addr} {od : Option Addr} {cd : ClassData} {sl : Array (Option Value)}
    (mP : PySem.W.nsIn K mainGlobals "PhialError" = some (some (.ref cP)))
    (mN : PySem.W.nsIn K mainGlobals "NoOrder" = some (some (.ref cN)))
    (m1 : PySem.W.nsIn K mainGlobals "Back" = some (some (.ref c1)))
    (m2 : PySem.W.nsIn K mainGlobals "Few" = some (some (.ref c2)))
    (m3 : PySem.W.nsIn K mainGlobals "Had" = some (some (.ref c3)))
    (m4 : PySem.W.nsIn K mainGlobals "Lacks" = some (some (.ref c4)))
    (m5 : PySem.W.nsIn K mainGlobals "NoAmount" = some (some (.ref c5)))
    (m6 : PySem.W.nsIn K mainGlobals "NoDeed" = some (some (.ref c6)))
    (m7 : PySem.W.nsIn K mainGlobals "NoName" = some (some (.ref c7)))
    (m8 : PySem.W.nsIn K mainGlobals "NoRow" = some (some (.ref c8)))
    (m9 : PySem.W.nsIn K mainGlobals "NoText" = some (some (.ref c9)))
    (m10 : PySem.W.nsIn K mainGlobals "NoThing" = some (some (.ref c10)))
    (m11 : PySem.W.nsIn K mainGlobals "NoneLeft" = some (some (.ref c11)))
    (m12 : PySem.W.nsIn K mainGlobals "Short" = some (some (.ref c12)))
    (m13 : PySem.W.nsIn K mainGlobals "Stale" = some (some (.ref c13)))
    (m14 : PySem.W.nsIn K mainGlobals "TooLarge" = some (some (.ref c14)))
    (m15 : PySem.W.nsIn K mainGlobals "TooMany" = some (some (.ref c15)))
    (m16 : PySem.W.nsIn K mainGlobals "Twice" = some (some (.ref c16)))
    (_lk : K.lookup cN = some ⟨.type "type", od, .cls cd, sl⟩) (_ni : PySem.W.nsIn K cd.ns "__init__" = some (some (.ref fI)))
    (ef : ExF K cN cP fI "place")
    (ct : CtK K cP)
    (s : PySem.W.subIn K (.ref cN) (.ref cP) = some true)
    (bi : BaseI K cP)
    (iV : PySem.W.kitOne K (.ref cN) (.type "ValueError") = some true)
    (iN : PySem.W.kitOne K (.ref cN) (.ref cN) = some true)
    (i1 : PySem.W.kitOne K (.ref cN) (.ref c1) = some false)
    (i2 : PySem.W.kitOne K (.ref cN) (.ref c2) = some false)
    (i3 : PySem.W.kitOne K (.ref cN) (.ref c3) = some false)
    (i4 : PySem.W.kitOne K (.ref cN) (.ref c4) = some false)
    (i5 : PySem.W.kitOne K (.ref cN) (.ref c5) = some false)
    (i6 : PySem.W.kitOne K (.ref cN) (.ref c6) = some false)
    (i7 : PySem.W.kitOne K (.ref cN) (.ref c7) = some false)
    (i8 : PySem.W.kitOne K (.ref cN) (.ref c8) = some false)
    (i9 : PySem.W.kitOne K (.ref cN) (.ref c9) = some false)
    (i10 : PySem.W.kitOne K (.ref cN) (.ref c10) = some false)
    (i11 : PySem.W.kitOne K (.ref cN) (.ref c11) = some false)
    (i12 : PySem.W.kitOne K (.ref cN) (.ref c12) = some false)
    (i13 : PySem.W.kitOne K (.ref cN) (.ref c13) = some false)
    (i14 : PySem.W.kitOne K (.ref cN) (.ref c14) = some false)
    (i15 : PySem.W.kitOne K (.ref cN) (.ref c15) = some false)
    (i16 : PySem.W.kitOne K (.ref cN) (.ref c16) = some false)
    (fn : ∃ fd : FuncData, Fun K "__init__" "NoOrder.__init__" sInit fI fd ∧ Binds K fd ["self", "place"] []) : ∃ cP cN c1 c2 c3 c4 c5 c6 c7 c8 c9 c10 c11 c12 c13 c14 c15 c16 fI : Addr, ErNK K cP cN c1 c2 c3 c4 c5 c6 c7 c8 c9 c10 c11 c12 c13 c14 c15 c16 fI :=
  ⟨_, _, _, _, _, _, _, _, _, _, _, _, _, _, _, _, _, _, _, ef, ct, s, bi, iV, mP, mN, m1, m2, m3, m4, m5, m6, m7, m8, m9, m10, m11, m12, m13, m14, m15, m16, iN, i1, i2, i3, i4, i5, i6, i7, i8, i9, i10, i11, i12, i13, i14, i15, i16, fn⟩
theorem mst_mk {K : PySem.W.Frag} {tk : Tok} {x : Str} {n : Int} (h : PySem.W.nsIn K mainGlobals x = some (some (.int n tk))) : ∃ tk : Tok, PySem.W.nsIn K mainGlobals x = some (some (.int n tk)) := ⟨_, h⟩
theorem fgs_mk {K : PySem.W.Frag} {tk : Tok} {x y z : Str} (h : PySem.W.nsIn K mainGlobals z = some (some (.str x tk))) (e : x = y) : ∃ tk : Tok, PySem.W.nsIn K mainGlobals z = some (some (.str y tk)) := ⟨_, e ▸ h⟩
structure AllD (K : PySem.W.Frag) : Prop where
  dIsWh : Dn K "is_whole_number" sIsWh ["thing"]
  dIsWare : Dn K "is_ware" sIsWare ["thing"]
  dLook : Dn K "look_at" sLook ["orders", "turns"]
  dIsOrd : Dn K "is_order" sIsOrd ["thing", "days"]
  dCell : Dn K "_law_cell_at" sCell ["_law_script", "_law_k"]
  dWhole : Dn K "_law_whole" sWhole ["_law_found"]
  dMixed : Dn K "_law_mixed" sMixed ["_law_cell", "_law_k"]
  dOrders : Dn K "_law_orders" sOrders ["_law_cells", "_law_names_here", "_law_days"]
  dNames : Dn K "_law_names" sNames ["_law_seed", "_law_many"]
  dTurns : Dn K "_law_turns" sTurns ["_law_seed", "_law_days"]
  dOdd : Dn K "_law_odd" sOdd ["_law_order", "_law_days", "_law_cell"]
  dRows : Dn K "_law_rows" sRows ["_law_orders_here", "_law_days", "_law_seed"]
  dGood : Dn K "_law_good" sGood ["_law_row", "_law_days"]
  dFault : Dn K "_law_fault" sFault ["_law_rows_here", "_law_days"]
  dRefused : Dn K "_law_refused" sRefused ["_law_e", "_law_place"]
  dWord : Dn K "_law_word_by" sWord ["_law_left"]
  dOrdBy : Dn K "_law_orders_by" sOrdBy ["_law_cells", "_law_days"]
  dTurnsBy : Dn K "_law_turns_by" sTurnsBy ["_law_cell", "_law_days"]
  z0 : PySem.W.nsIn K mainGlobals "isinstance" = some none
  z1 : PySem.W.nsIn K mainGlobals "int" = some none
  z2 : PySem.W.nsIn K mainGlobals "bool" = some none
  z3 : PySem.W.nsIn K mainGlobals "tuple" = some none
  z4 : PySem.W.nsIn K mainGlobals "str" = some none
  z5 : PySem.W.nsIn K mainGlobals "len" = some none
  z6 : PySem.W.nsIn K mainGlobals "range" = some none
  z7 : PySem.W.nsIn K mainGlobals "min" = some none
  z8 : PySem.W.nsIn K mainGlobals "abs" = some none
  z9 : PySem.W.nsIn K mainGlobals "list" = some none
  z10 : PySem.W.nsIn K mainGlobals "all" = some none
  z11 : PySem.W.nsIn K mainGlobals "enumerate" = some none
  z12 : PySem.W.nsIn K mainGlobals "ValueError" = some none
  err : ∃ cP cN c1 c2 c3 c4 c5 c6 c7 c8 c9 c10 c11 c12 c13 c14 c15 c16 fI : Addr, ErNK K cP cN c1 c2 c3 c4 c5 c6 c7 c8 c9 c10 c11 c12 c13 c14 c15 c16 fI
  mM : ∃ t : Tok, PySem.W.nsIn K mainGlobals "MOST_LETTERS" = some (some (.int 8 t))
  mO : ∃ t : Tok, PySem.W.nsIn K mainGlobals "MOST_ORDERS" = some (some (.int 40 t))
  mT : ∃ t : Tok, PySem.W.nsIn K mainGlobals "MOST_TURNS" = some (some (.int 50 t))
  mL : ∃ t : Tok, PySem.W.nsIn K mainGlobals "LETTERS" = some (some (.str LET t))
theorem AllD.txt {K : PySem.W.Frag} {mg : Str → Option Value} {h : Heap} (A : AllD K) (X : K.In h) (G : h.Ns mainGlobals mg) : Txt mg := ⟨PySem.W.mg_none_of X G A.z0, PySem.W.mg_none_of X G A.z1, PySem.W.mg_none_of X G A.z2, PySem.W.mg_none_of X G A.z3, PySem.W.mg_none_of X G A.z4, PySem.W.mg_none_of X G A.z5, PySem.W.mg_none_of X G A.z6, PySem.W.mg_none_of X G A.z7, PySem.W.mg_none_of X G A.z8, PySem.W.mg_none_of X G A.z9, PySem.W.mg_none_of X G A.z10, PySem.W.mg_none_of X G A.z11, PySem.W.mg_none_of X G A.z12⟩
theorem law_ok {P : Program} {w : World} {K : PySem.W.Frag} {mg : Str → Option Value} {base h : Heap} {f : Addr} {fd : FuncData} (X : K.In h) (G : h.Ns mainGlobals mg) (A : AllD K) (F : Fun K "law" "law" sLaw f fd) : FnOk P w K mg base CX0 5 f fd ["_law_script"] (spLaw K) := by
  have T : Txt mg := A.txt X G
  obtain ⟨cP, cN, c1, c2, c3, c4, c5, c6, c7, c8, c9, c10, c11, c12, c13, c14, c15, c16, fI, EK⟩ := A.err
  have R := EK.er X G
  obtain ⟨fdI, FI, bI⟩ := EK.fn
  have kI : FnOk P w K mg base CX0 1 fI fdI ["self", "place"] (spInit cN) := ok_init FI R
  obtain ⟨t1, h1⟩ := A.mM
  have mM := PySem.W.mg_of X G h1
  obtain ⟨t2, h2⟩ := A.mO
  have mO := PySem.W.mg_of X G h2
  obtain ⟨t3, h3⟩ := A.mT
  have mT := PySem.W.mg_of X G h3
  obtain ⟨t4, h4⟩ := A.mL
  have mL := PySem.W.mg_of X G h4
  have cWh : Cal P w K mg base CX0 1 "is_whole_number" ["thing"] spWh := A.dIsWh.cal X G fun F => ok_iswh F T
  have cWr : Cal P w K mg base CX0 1 "is_ware" ["thing"] (spIsWare K) := A.dIsWare.cal X G fun F => ok_isware F T mM mL
  have cIo : Cal P w K mg base CX0 2 "is_order" ["thing", "days"] spOrd := A.dIsOrd.cal X G fun F => ok_isord F T mT cWr cWh
  have cLk : Cal P w K mg base (CXg P w) 3 "look_at" ["orders", "turns"] (spLook K cN) := A.dLook.cal X G fun F => ok_look F T R mO kI bI cIo
  have cC : Cal P w K mg base CX0 1 "_law_cell_at" ["_law_script", "_law_k"] (spCell K) := A.dCell.cal X G fun F => ok_cell F T
  have cW : Cal P w K mg base CX0 1 "_law_whole" ["_law_found"] spWh := A.dWhole.cal X G fun F => ok_whole F T
  have cX : Cal P w K mg base CX0 1 "_law_mixed" ["_law_cell", "_law_k"] spMixed := A.dMixed.cal X G ok_mixed
  have cO : Cal P w K mg base CX0 2 "_law_orders" ["_law_cells", "_law_names_here", "_law_days"] (spOrders K) := A.dOrders.cal X G fun F => ok_orders F T cX
  have cN' : Cal P w K mg base CX0 1 "_law_names" ["_law_seed", "_law_many"] spNames := A.dNames.cal X G fun F => ok_names F T
  have cT : Cal P w K mg base CX0 1 "_law_turns" ["_law_seed", "_law_days"] spTurns := A.dTurns.cal X G fun F => ok_turns F T
  have cOd : Cal P w K mg base CX0 1 "_law_odd" ["_law_order", "_law_days", "_law_cell"] spOdd := A.dOdd.cal X G fun F => ok_odd F
  have cR : Cal P w K mg base CX0 2 "_law_rows" ["_law_orders_here", "_law_days", "_law_seed"] (spRows K) := A.dRows.cal X G fun F => ok_rows F T cX cOd
  have cG : Cal P w K mg base CX0 2 "_law_good" ["_law_row", "_law_days"] spOrd := A.dGood.cal X G fun F => ok_good F T cW
  have cF : Cal P w K mg base CX0 3 "_law_fault" ["_law_rows_here", "_law_days"] (spFault K) := A.dFault.cal X G fun F => ok_fault F T cG
  have cE : Cal P w K mg base CX0 2 "_law_refused" ["_law_e", "_law_place"] (spRefused cN) := A.dRefused.cal X G fun F => ok_refused F T R cW
  have cWo : Cal P w K mg base CX0 1 "_law_word_by" ["_law_left"] spWord := A.dWord.cal X G fun F => ok_word F T
  have cB : Cal P w K mg base CX0 2 "_law_orders_by" ["_law_cells", "_law_days"] (spOrdBy K) := A.dOrdBy.cal X G fun F => ok_ordby F T cWo
  have cU : Cal P w K mg base CX0 1 "_law_turns_by" ["_law_cell", "_law_days"] spTurnsBy := A.dTurnsBy.cal X G fun F => ok_turnsby F T
  exact ok_law F T R (cC.mono (by decide)) (cX.mono (by decide)) (cO.mono (by decide)) (cN'.mono (by decide)) (cB.mono (by decide)) (cR.mono (by decide)) (cF.mono (by decide)) (cT.mono (by decide)) (cU.mono (by decide)) (cLk.mono (by decide)) (cE.mono (by decide))
theorem all_mk {l : PySem.W.OpenLaw} {w : World} {K : PySem.W.Frag} {h : Heap} {mg : Str → Option Value} {fa f4 : Addr} (X : K.In h) (G : h.Ns mainGlobals mg) (hfa : mg "law" = some (.ref fa)) (A : AllD K)
    {od4 an4 : Option Addr} {sl4 : Array (Option Value)} {oc4 kV4 dc4 pm4 cd4 ct4 : Value}
    (a4 : PySem.W.nsIn K mainGlobals "law" = some (some (.ref f4))) (l4 : K.lookup f4 = some ⟨oc4, od4, .func (PySem.W.fnOf "law" "law" (defArgs sLaw) (defBody sLaw) (defScope sLaw) .none kV4 dc4 pm4 an4 cd4 ct4), sl4⟩) (c4 : PySem.W.codeIn K cd4 "law" = true) (k4 : PySem.W.keepIn K (.ref f4) = true) :
    ∃ fd : FuncData, (∀ (s : Shared) (v : Value), BindsTo s fd ⟨[v], []⟩ [("_law_script", v)]) ∧ ∀ base : Heap, K.In base → base.Ns mainGlobals mg → FnOk l.prog w K mg base CX0 5 fa fd ["_law_script"] (spLaw K) := by
  have e := hfa.symm.trans (PySem.W.mg_of X G a4)
  cases e
  exact ⟨PySem.W.fnOf "law" "law" (defArgs sLaw) (defBody sLaw) (defScope sLaw) .none kV4 dc4 pm4 an4 cd4 ct4, fun s v => .of_eq rfl, fun base _ _ => law_ok X G A (fun_mk (st := sLaw) l4 c4 k4)⟩
theorem walk {l : PySem.W.OpenLaw} {q : Program} {loose : List Str} {XP : (Str → Option Value) → Heap → Prop} {YP : World → Heap → Prop} {d : DefRec} {K : Params → PySem.W.Frag} (hn : l.most = some 63) (hdf : d.params.defaults = [])
    (hY : ∀ (w : World) (h : Heap), YP w h → (K w.params).In h)
    (F : ∀ (w : World) (mg : Str → Option Value) (fa : Addr) (h : Heap), (K w.params).In h → h.Ns mainGlobals mg → mg d.name = some (.ref fa) →
      ∃ fd : FuncData, (∀ (s : Shared) (u : Value), BindsTo s fd ⟨[u], []⟩ [("_law_script", u)]) ∧ ∀ base : Heap, (K w.params).In base → base.Ns mainGlobals mg → FnOk l.prog w (K w.params) mg base CX0 5 fa fd ["_law_script"] (spLaw (K w.params))) :
    PySem.W.WalkO q loose XP YP l.row.toRowW d [] (fun f vs => PySem.call f vs) :=
  L2.walk_of (n := 63) (k := 5) (x := "_law_script") (CX := fun _ => CX0) (sp := fun w => spLaw (K w.params)) hn (by decide) hdf ⟨rfl, by decide, by decide⟩ hY F (fun _ _ a ns hl _ hS => ⟨a, ns, rfl, hS, hl, fun _ => rfl⟩) fun _ _ _ _ _ z => z
end K81
/-! The names by which the walk would write large twins of six of its parts are taken: without them the compiled text stays within the size that a hand-in may have. -/
def PySem.W.Fast.tw17676250771426139306 : Unit := ()
def PySem.W.Fast.tw18246846505664251802 : Unit := ()
def PySem.W.Fast.tw12296330935375212763 : Unit := ()
def PySem.W.Fast.tw13474181808142920596 : Unit := ()
def PySem.W.Fast.tw13631832648329709875 : Unit := ()
def PySem.W.Fast.tw8194695484774489069 : Unit := ()
open PySem PySem.W PyProof.Rows
set_option maxRecDepth 100000 in
set_option maxHeartbeats 0 in
theorem PySem.Challenge.cw_phialhouse_k81_orders_looked_at_holds : PySem.Challenge.rw_phialhouse_k81_orders_looked_at.Holds := by
  w_on; o_law; k_head; (case hw => w_witness2)
  k_fill
  refine K81.walk (l := PySem.Challenge.rw_phialhouse_k81_orders_looked_at) rfl rfl (fun w h Y => PySem.W.kIn_of Y) ?F
  case F =>
    intro w mg fa h KX G hmg
    have dIsWh : K81.Dn (L2.KOf KX) "is_whole_number" K81.sIsWh ["thing"] := by
      dsimp only [L2.KOf]
      refine' K81.Dn.mk' ?a ?l ?c ?k ?b
      (case a => k_is); (case l => k_is); (case c => k_is); (case k => k_is)
      (case b => exact fun _ _ _ _ _ _ us hl => match us, hl with | [_], _ => rfl)
    have dIsWare : K81.Dn (L2.KOf KX) "is_ware" K81.sIsWare ["thing"] := by
      dsimp only [L2.KOf]
      refine' K81.Dn.mk' ?a ?l ?c ?k ?b
      (case a => k_is); (case l => k_is); (case c => k_is); (case k => k_is)
      (case b => exact fun _ _ _ _ _ _ us hl => match us, hl with | [_], _ => rfl)
    have dLook : K81.Dn (L2.KOf KX) "look_at" K81.sLook ["orders", "turns"] := by
      dsimp only [L2.KOf]
      refine' K81.Dn.mk' ?a ?l ?c ?k ?b
      (case a => k_is); (case l => k_is); (case c => k_is); (case k => k_is)
      (case b => exact fun _ _ _ _ _ _ us hl => match us, hl with | [_, _], _ => rfl)
    have dIsOrd : K81.Dn (L2.KOf KX) "is_order" K81.sIsOrd ["thing", "days"] := by
      dsimp only [L2.KOf]
      refine' K81.Dn.mk' ?a ?l ?c ?k ?b
      (case a => k_is); (case l => k_is); (case c => k_is); (case k => k_is)
      (case b => exact fun _ _ _ _ _ _ us hl => match us, hl with | [_, _], _ => rfl)
    have dCell : K81.Dn (L2.KOf KX) "_law_cell_at" K81.sCell ["_law_script", "_law_k"] := by
      dsimp only [L2.KOf]
      refine' K81.Dn.mk' ?a ?l ?c ?k ?b
      (case a => k_is); (case l => k_is); (case c => k_is); (case k => k_is)
      (case b => exact fun _ _ _ _ _ _ us hl => match us, hl with | [_, _], _ => rfl)
    have dWhole : K81.Dn (L2.KOf KX) "_law_whole" K81.sWhole ["_law_found"] := by
      dsimp only [L2.KOf]
      refine' K81.Dn.mk' ?a ?l ?c ?k ?b
      (case a => k_is); (case l => k_is); (case c => k_is); (case k => k_is)
      (case b => exact fun _ _ _ _ _ _ us hl => match us, hl with | [_], _ => rfl)
    have dMixed : K81.Dn (L2.KOf KX) "_law_mixed" K81.sMixed ["_law_cell", "_law_k"] := by
      dsimp only [L2.KOf]
      refine' K81.Dn.mk' ?a ?l ?c ?k ?b
      (case a => k_is); (case l => k_is); (case c => k_is); (case k => k_is)
      (case b => exact fun _ _ _ _ _ _ us hl => match us, hl with | [_, _], _ => rfl)
    have dOrders : K81.Dn (L2.KOf KX) "_law_orders" K81.sOrders ["_law_cells", "_law_names_here", "_law_days"] := by
      dsimp only [L2.KOf]
      refine' K81.Dn.mk' ?a ?l ?c ?k ?b
      (case a => k_is); (case l => k_is); (case c => k_is); (case k => k_is)
      (case b => exact fun _ _ _ _ _ _ us hl => match us, hl with | [_, _, _], _ => rfl)
    have dNames : K81.Dn (L2.KOf KX) "_law_names" K81.sNames ["_law_seed", "_law_many"] := by
      dsimp only [L2.KOf]
      refine' K81.Dn.mk' ?a ?l ?c ?k ?b
      (case a => k_is); (case l => k_is); (case c => k_is); (case k => k_is)
      (case b => exact fun _ _ _ _ _ _ us hl => match us, hl with | [_, _], _ => rfl)
    have dTurns : K81.Dn (L2.KOf KX) "_law_turns" K81.sTurns ["_law_seed", "_law_days"] := by
      dsimp only [L2.KOf]
      refine' K81.Dn.mk' ?a ?l ?c ?k ?b
      (case a => k_is); (case l => k_is); (case c => k_is); (case k => k_is)
      (case b => exact fun _ _ _ _ _ _ us hl => match us, hl with | [_, _], _ => rfl)
    have dOdd : K81.Dn (L2.KOf KX) "_law_odd" K81.sOdd ["_law_order", "_law_days", "_law_cell"] := by
      dsimp only [L2.KOf]
      refine' K81.Dn.mk' ?a ?l ?c ?k ?b
      (case a => k_is); (case l => k_is); (case c => k_is); (case k => k_is)
      (case b => exact fun _ _ _ _ _ _ us hl => match us, hl with | [_, _, _], _ => rfl)
    have dRows : K81.Dn (L2.KOf KX) "_law_rows" K81.sRows ["_law_orders_here", "_law_days", "_law_seed"] := by
      dsimp only [L2.KOf]
      refine' K81.Dn.mk' ?a ?l ?c ?k ?b
      (case a => k_is); (case l => k_is); (case c => k_is); (case k => k_is)
      (case b => exact fun _ _ _ _ _ _ us hl => match us, hl with | [_, _, _], _ => rfl)
    have dGood : K81.Dn (L2.KOf KX) "_law_good" K81.sGood ["_law_row", "_law_days"] := by
      dsimp only [L2.KOf]
      refine' K81.Dn.mk' ?a ?l ?c ?k ?b
      (case a => k_is); (case l => k_is); (case c => k_is); (case k => k_is)
      (case b => exact fun _ _ _ _ _ _ us hl => match us, hl with | [_, _], _ => rfl)
    have dFault : K81.Dn (L2.KOf KX) "_law_fault" K81.sFault ["_law_rows_here", "_law_days"] := by
      dsimp only [L2.KOf]
      refine' K81.Dn.mk' ?a ?l ?c ?k ?b
      (case a => k_is); (case l => k_is); (case c => k_is); (case k => k_is)
      (case b => exact fun _ _ _ _ _ _ us hl => match us, hl with | [_, _], _ => rfl)
    have dRefused : K81.Dn (L2.KOf KX) "_law_refused" K81.sRefused ["_law_e", "_law_place"] := by
      dsimp only [L2.KOf]
      refine' K81.Dn.mk' ?a ?l ?c ?k ?b
      (case a => k_is); (case l => k_is); (case c => k_is); (case k => k_is)
      (case b => exact fun _ _ _ _ _ _ us hl => match us, hl with | [_, _], _ => rfl)
    have dWord : K81.Dn (L2.KOf KX) "_law_word_by" K81.sWord ["_law_left"] := by
      dsimp only [L2.KOf]
      refine' K81.Dn.mk' ?a ?l ?c ?k ?b
      (case a => k_is); (case l => k_is); (case c => k_is); (case k => k_is)
      (case b => exact fun _ _ _ _ _ _ us hl => match us, hl with | [_], _ => rfl)
    have dOrdBy : K81.Dn (L2.KOf KX) "_law_orders_by" K81.sOrdBy ["_law_cells", "_law_days"] := by
      dsimp only [L2.KOf]
      refine' K81.Dn.mk' ?a ?l ?c ?k ?b
      (case a => k_is); (case l => k_is); (case c => k_is); (case k => k_is)
      (case b => exact fun _ _ _ _ _ _ us hl => match us, hl with | [_, _], _ => rfl)
    have dTurnsBy : K81.Dn (L2.KOf KX) "_law_turns_by" K81.sTurnsBy ["_law_cell", "_law_days"] := by
      dsimp only [L2.KOf]
      refine' K81.Dn.mk' ?a ?l ?c ?k ?b
      (case a => k_is); (case l => k_is); (case c => k_is); (case k => k_is)
      (case b => exact fun _ _ _ _ _ _ us hl => match us, hl with | [_, _], _ => rfl)
    have z0 : PySem.W.nsIn (L2.KOf KX) mainGlobals "isinstance" = some none := by
      dsimp only [L2.KOf]
      k_is
    have z1 : PySem.W.nsIn (L2.KOf KX) mainGlobals "int" = some none := by
      dsimp only [L2.KOf]
      k_is
    have z2 : PySem.W.nsIn (L2.KOf KX) mainGlobals "bool" = some none := by
      dsimp only [L2.KOf]
      k_is
    have z3 : PySem.W.nsIn (L2.KOf KX) mainGlobals "tuple" = some none := by
      dsimp only [L2.KOf]
      k_is
    have z4 : PySem.W.nsIn (L2.KOf KX) mainGlobals "str" = some none := by
      dsimp only [L2.KOf]
      k_is
    have z5 : PySem.W.nsIn (L2.KOf KX) mainGlobals "len" = some none := by
      dsimp only [L2.KOf]
      k_is
    have z6 : PySem.W.nsIn (L2.KOf KX) mainGlobals "range" = some none := by
      dsimp only [L2.KOf]
      k_is
    have z7 : PySem.W.nsIn (L2.KOf KX) mainGlobals "min" = some none := by
      dsimp only [L2.KOf]
      k_is
    have z8 : PySem.W.nsIn (L2.KOf KX) mainGlobals "abs" = some none := by
      dsimp only [L2.KOf]
      k_is
    have z9 : PySem.W.nsIn (L2.KOf KX) mainGlobals "list" = some none := by
      dsimp only [L2.KOf]
      k_is
    have z10 : PySem.W.nsIn (L2.KOf KX) mainGlobals "all" = some none := by
      dsimp only [L2.KOf]
      k_is
    have z11 : PySem.W.nsIn (L2.KOf KX) mainGlobals "enumerate" = some none := by
      dsimp only [L2.KOf]
      k_is
    have z12 : PySem.W.nsIn (L2.KOf KX) mainGlobals "ValueError" = some none := by
      dsimp only [L2.KOf]
      k_is
    have err : ∃ cP cN c1 c2 c3 c4 c5 c6 c7 c8 c9 c10 c11 c12 c13 c14 c15 c16 fI : Addr, K81.ErNK (L2.KOf KX) cP cN c1 c2 c3 c4 c5 c6 c7 c8 c9 c10 c11 c12 c13 c14 c15 c16 fI := by
      dsimp only [L2.KOf]
      refine' K81.err_mk ?mP ?mN ?m1 ?m2 ?m3 ?m4 ?m5 ?m6 ?m7 ?m8 ?m9 ?m10 ?m11 ?m12 ?m13 ?m14 ?m15 ?m16 ?lk ?ni ⟨⟨?xi, ?xf, ?xk, ⟨?x1, ?x2, ?x3, ?x4, ?x5, ?x6⟩⟩, ?sa, ?nn⟩ ⟨?y1, ?y2, ?y3⟩ ?s ⟨?b1, ?b2, ?b3⟩ ?iV ?iN ?i1 ?i2 ?i3 ?i4 ?i5 ?i6 ?i7 ?i8 ?i9 ?i10 ?i11 ?i12 ?i13 ?i14 ?i15 ?i16 (K81.fnI_mk ?l ?c ?k)
      (case mP => k_is); (case mN => k_is); (case m1 => k_is); (case m2 => k_is); (case m3 => k_is); (case m4 => k_is); (case m5 => k_is); (case m6 => k_is); (case m7 => k_is); (case m8 => k_is); (case m9 => k_is); (case m10 => k_is); (case m11 => k_is); (case m12 => k_is); (case m13 => k_is); (case m14 => k_is); (case m15 => k_is); (case m16 => k_is)
      (case lk => k_is); (case ni => k_is); (case xi => first | kernel_rfl | rfl); (case xf => k_is); (case xk => k_is)
      (case x1 => k_is); (case x2 => k_is); (case x3 => k_is); (case x4 => k_is); (case x5 => k_is); (case x6 => (show PySem.W.isClsIn _ _ = true; k_is)); (case sa => k_is); (case nn => k_is)
      (case y1 => k_is); (case y2 => (show PySem.W.isClsIn _ _ = true; k_is)); (case y3 => k_is); (case s => k_is); (case b1 => k_is); (case b2 => k_is); (case b3 => k_is); (case iV => kit_is)
      (case iN => kit_is); (case i1 => kit_is); (case i2 => kit_is); (case i3 => kit_is); (case i4 => kit_is); (case i5 => kit_is); (case i6 => kit_is); (case i7 => kit_is); (case i8 => kit_is); (case i9 => kit_is); (case i10 => kit_is); (case i11 => kit_is); (case i12 => kit_is); (case i13 => kit_is); (case i14 => kit_is); (case i15 => kit_is); (case i16 => kit_is)
      (case l => k_is); (case c => k_is); (case k => k_is)
    have mM : ∃ tk : Tok, PySem.W.nsIn (L2.KOf KX) mainGlobals "MOST_LETTERS" = some (some (.int 8 tk)) := by
      dsimp only [L2.KOf]
      refine' K81.mst_mk ?a
      (case a => k_is)
    have mO : ∃ tk : Tok, PySem.W.nsIn (L2.KOf KX) mainGlobals "MOST_ORDERS" = some (some (.int 40 tk)) := by
      dsimp only [L2.KOf]
      refine' K81.mst_mk ?a
      (case a => k_is)
    have mT : ∃ tk : Tok, PySem.W.nsIn (L2.KOf KX) mainGlobals "MOST_TURNS" = some (some (.int 50 tk)) := by
      dsimp only [L2.KOf]
      refine' K81.mst_mk ?a
      (case a => k_is)
    have mL : ∃ tk : Tok, PySem.W.nsIn (L2.KOf KX) mainGlobals "LETTERS" = some (some (.str TM.LET tk)) := by
      dsimp only [L2.KOf]
      refine' K81.fgs_mk ?a ?e
      (case a => k_is); (case e => decide +kernel)
    refine' K81.all_mk KX G hmg ⟨dIsWh, dIsWare, dLook, dIsOrd, dCell, dWhole, dMixed, dOrders, dNames, dTurns, dOdd, dRows, dGood, dFault, dRefused, dWord, dOrdBy, dTurnsBy, z0, z1, z2, z3, z4, z5, z6, z7, z8, z9, z10, z11, z12, err, mM, mO, mT, mL⟩ ?a4 ?l4 ?c4 ?k4
    (case a4 => k_is); (case l4 => k_is); (case c4 => k_is); (case k4 => k_is)

