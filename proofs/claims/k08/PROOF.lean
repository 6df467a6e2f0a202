import PyProof.Rows.All
import Wide.All
import OpenK.AllK
import Wide.FinOn
import Lean
import PyProof.EqAt
import PyProof.EqKinds
import PyProof.TupleCall
import PySem.Challenge.RW_phialhouse_k08_whole_tub
set_option Elab.async false
set_option linter.all false
set_option maxRecDepth 100000
set_option maxHeartbeats 4000000
/-! THE HAND LAYER, for ints, bools, texts, own classes, LISTS and tuples (index, slices, in, append, pop ..), calls, loops. Paste it whole ahead of your own text; what your proof does not reach may be deleted. -/
namespace L2
open PySem PySem.Spec PyProof.Rows

/-- a key: an int or a str -/
abbrev Key := Sum Int Str
def keyIs : Key → Value → Bool
  | .inl k, v => Value.isInt k v
  | .inr x, v => Value.isStrOf x v
def keyH (w : World) : Key → Int
  | .inl k => hashInt k
  | .inr x => hashStr w x
theorem keyIs_shape : ∀ {k : Key} {v : Value}, keyIs k v = true → (∃ i t, k = Sum.inl i ∧ v = Value.int i t) ∨ (∃ x t, k = Sum.inr x ∧ v = Value.str x t)
  | .inl i, v, h => by
    obtain ⟨t, e⟩ := Value.isInt_shape (k := i) (v := v) h
    exact .inl ⟨i, t, rfl, e⟩
  | .inr x, v, h => by
    obtain ⟨t, e⟩ := Value.isStrOf_shape (x := x) (v := v) h
    exact .inr ⟨x, t, rfl, e⟩
theorem keyIs_int (i : Int) (t : Tok) : keyIs (.inl i) (.int i t) = true := by simp [keyIs, Value.isInt]
theorem keyIs_str (x : Str) (t : Tok) : keyIs (.inr x) (.str x t) = true := by simp [keyIs, Value.isStrOf]
theorem key_ll (a b : Int) : decide ((Sum.inl a : Key) = Sum.inl b) = (a == b) := by
  by_cases e : a = b
  · subst e; simp
  · have h : ¬ (Sum.inl a : Key) = Sum.inl b := fun q => e (Sum.inl.inj q)
    rw [decide_eq_false h]
    exact (beq_eq_false_iff_ne.mpr e).symm
theorem key_rr (a b : Str) : decide ((Sum.inr a : Key) = Sum.inr b) = decide (a = b) := by
  by_cases e : a = b
  · subst e; simp
  · have h : ¬ (Sum.inr a : Key) = Sum.inr b := fun q => e (Sum.inr.inj q)
    rw [decide_eq_false h, decide_eq_false e]
theorem key_lr (a : Int) (b : Str) : decide ((Sum.inl a : Key) = Sum.inr b) = false := decide_eq_false (fun q => nomatch q)
theorem key_rl (a : Str) (b : Int) : decide ((Sum.inr a : Key) = Sum.inl b) = false := decide_eq_false (fun q => nomatch q)

def mixKind (prog : Program) (w : World) : PySem.KeyKind prog w Key where
  is := keyIs
  hash := keyH w
  inj := fun v a b ha hb => by
    rcases keyIs_shape ha with ⟨i, t, rfl, rfl⟩ | ⟨x, t, rfl, rfl⟩
    · rcases keyIs_shape hb with ⟨j, u, rfl, e⟩ | ⟨y, u, rfl, e⟩
      · injection e with e1 _; rw [e1]
      · exact nomatch e
    · rcases keyIs_shape hb with ⟨j, u, rfl, e⟩ | ⟨y, u, rfl, e⟩
      · exact nomatch e
      · injection e with e1 _; rw [e1]
  byValue := fun k v h => by
    rcases keyIs_shape h with ⟨i, t, rfl, rfl⟩ | ⟨x, t, rfl, rfl⟩ <;> rfl
  pyHash := fun hv h => by
    rcases keyIs_shape hv with ⟨i, t, rfl, rfl⟩ | ⟨x, t, rfl, rfl⟩
    · exact wpAny_pyHash_int h
    · exact wpAny_pyHash_str h
  eqBool := fun hu hv h => by
    rcases keyIs_shape hu with ⟨i, t, rfl, rfl⟩ | ⟨x, t, rfl, rfl⟩
    · rcases keyIs_shape hv with ⟨j, u, rfl, rfl⟩ | ⟨y, u, rfl, rfl⟩
      · rw [key_ll] at h; exact wpAny_eqBool_int h
      · rw [key_lr] at h; exact SeqAt.EqAt.int_str i t y u _ _ _ _ h
    · rcases keyIs_shape hv with ⟨j, u, rfl, rfl⟩ | ⟨y, u, rfl, rfl⟩
      · rw [key_rl] at h; exact SeqAt.EqAt.str_int x t j u _ _ _ _ h
      · rw [key_rr] at h; exact wpAny_eqBool_str h
  «strs» := fun k x t v h => by
    rcases keyIs_shape h with ⟨i, u, rfl, e⟩ | ⟨y, u, rfl, e⟩
    · exact nomatch e
    · injection e with e1 _
      subst e1
      cases v <;> rfl

theorem mixKind_int (prog : Program) (w : World) (i : Int) (t : Tok) : (mixKind prog w).is (.inl i) (.int i t) = true := keyIs_int i t
theorem mixKind_str (prog : Program) (w : World) (x : Str) (t : Tok) : (mixKind prog w).is (.inr x) (.str x t) = true := keyIs_str x t
end L2

namespace L2
open PySem PySem.Spec PyProof.Rows

/-- a value, without the heap -/
inductive V where
  | non | bl (b : Bool) | int (i : Int) | str (x : Str) | byt (b : Array UInt8) | flt (b : UInt64) | ref (a : Addr) | ty (n : String)
  deriving DecidableEq

def RelV : V → Value → Prop
  | .non, u => u = Value.none
  | .bl b, u => u = Value.bool b
  | .int i, u => ∃ t, u = Value.int i t
  | .str x, u => ∃ t, u = Value.str x t
  | .byt b, u => ∃ t, u = Value.bytes b t
  | .flt b, u => ∃ t, u = Value.float b t
  | .ref a, u => u = Value.ref a
  | .ty n, u => u = Value.type n

abbrev Vals : List V → List Value → Prop := Paired RelV
theorem Vals.length {xs : List V} {us : List Value} (r : Vals xs us) : xs.length = us.length := Paired.length r
theorem Vals.get : ∀ {xs : List V} {us : List Value} {i : Nat} {x : V}, Vals xs us → xs[i]? = some x → ∃ u, us[i]? = some u ∧ RelV x u
  | _, _, _, _, .nil, e => by simp at e
  | _, _, 0, _, .cons r _, e => by simp at e; subst e; exact ⟨_, rfl, r⟩
  | _, _, i + 1, x, .cons _ t, e => by
    obtain ⟨u, h1, h2⟩ := Vals.get (i := i) (x := x) t (by simpa using e)
    exact ⟨u, by simpa using h1, h2⟩
theorem Vals.set {x : V} {u : Value} (r : RelV x u) : ∀ {xs : List V} {us : List Value} (i : Nat), Vals xs us → Vals (xs.set i x) (us.set i u)
  | _, _, _, .nil => .nil
  | _, _, 0, .cons _ t => .cons r t
  | _, _, i + 1, .cons q t => .cons q (Vals.set r i t)
theorem Vals.append : ∀ {xs ys : List V} {us ws : List Value}, Vals xs us → Vals ys ws → Vals (xs ++ ys) (us ++ ws)
  | _, _, _, _, .nil, s => s
  | _, _, _, _, .cons r t, s => .cons r (Vals.append t s)
def RelO : Option V → Option Value → Prop
  | some v, some u => RelV v u
  | none, none => True
  | _, _ => False
def KV {κ : Type} : List (κ × V) → List (κ × Value) → Prop := Paired fun (p : κ × V) (q : κ × Value) => p.1 = q.1 ∧ RelV p.2 q.2

/-- a key of a dict (00_mix): an int or a text -/
def kV : Key → V
  | .inl i => .int i
  | .inr x => .str x

/-- what stands at a tracked address -/
inductive HO where
  /-- a list -/
  | lst (xs : List V)
  /-- a tuple (never changes) -/
  | tup (xs : List V)
  /-- a dict whose keys are ints and texts; one whose keys are tuples of ints and texts (the empty one is both) -/
  | dK (kvs : List (Key × V)) | dT (kvs : List (List Key × V))
  /-- a set of ints: its members, its size -/
  | set (S : Int → Bool) (n : Nat)
  /-- an instance of the class at C, its dict at dx, its attributes -/
  | ins (C dx : Addr) (fs : List (Str × V))
  /-- the dict of the instance at x -/
  | own (x : Addr)
  /-- the dict of an exception -/
  | xd (fs : List (Str × V))
  /-- a bound method, f of x -/
  | met (f x : Addr)
  /-- a range object lo, lo + 1, .. below hi -/
  | rng (lo hi : Int)
  /-- a thing that is known to the object (the script; a dict while a loop walks it): read, never written while it is so -/
  | frz (o : Obj) (u : HO)
  /-- a code object's table -/
  | tbl (ps : Array Value)
  /-- any other thing, by what is true of its one object (a def of one's own: SetO a S n := HO.ext fun h => ..) -/
  | ext (φ : Heap → Prop)

abbrev Hp := Addr → Option HO
def upd (H : Hp) (a : Addr) (o : HO) : Hp := fun b => if b = a then some o else H b
theorem upd_same {H : Hp} {a : Addr} {o : HO} : upd H a o a = some o := by unfold upd; rw [if_pos rfl]
theorem upd_ne {H : Hp} {a b : Addr} {o : HO} (h : b ≠ a) : upd H a o b = H b := by unfold upd; rw [if_neg h]
/-- two objects of different content stand apart -/
theorem ne_of {H : Hp} {a b : Addr} {o u : HO} (h : H a = some o) (h' : H b = some u) (d : o ≠ u) : a ≠ b := by
  intro e; subst e; rw [h] at h'; exact d (Option.some.inj h')
theorem ne_of_none {H : Hp} {a b : Addr} {o : HO} (h : H a = some o) (h' : H b = none) : a ≠ b := by
  intro e; subst e; rw [h] at h'; cases h'

section
variable (P : Program) (w : World)
def ObjOk (H : Hp) (h : Heap) (a : Addr) : HO → Prop
  | .lst xs => xs.length ≤ sizeLine ∧ ∃ (its : List Value) (n : Nat), Vals xs its ∧ h.get? a = some { cls := .type "list", data := .seq its.toArray n }
  | .tup xs => xs.length ≤ sizeLine ∧ ∃ its : List Value, Vals xs its ∧ IsTup h a its.toArray
  | .dK kvs => kvs.length ≤ sizeLine ∧ (a == sysModules) = false ∧ ∃ vs, KV kvs vs ∧ h.DictOf (mixKind P w) a vs
  | .dT kvs => kvs.length ≤ sizeLine ∧ (a == sysModules) = false ∧ ∃ xs : List (List Key × Addr × Value),
      Paired (fun (p : List Key × V) (q : List Key × Addr × Value) => p.1 = q.1 ∧ H q.2.1 = some (.tup (p.1.map kV)) ∧ RelV p.2 q.2.2) kvs xs ∧
      ∃ o es ep, h.get? a = some o ∧ o.ExactDict ∧ o.data = .dict es ep ∧ es.toList = xs.map (entryOfKey (tupleKind (mixKind P w))) ∧ (xs.map (·.1)).Nodup
  | .set S n => h.SetOf (intKind P w) a S n
  | .ins C dx fs => H dx = some (.own a) ∧ fs.length ≤ 1000 ∧ dx ≠ a ∧ h.get? a = some (PySem.W.instObj C dx) ∧
      ∃ mA, h.Ns1 dx mA ∧ (∀ f, RelO (fs.lookup f) (mA f)) ∧ PySem.Within mA (fs.map (·.1))
  | .own _ => ∃ o, h.get? a = some o
  | .xd fs => ∃ mA, h.Ns1 a mA ∧ ∀ f, RelO (fs.lookup f) (mA f)
  | .rng lo hi => ∃ t u v, h.get? a = some { cls := .type "range", data := .fields #[.int lo t, .int hi u, .int 1 v] }
  | .frz o u => h.get? a = some o ∧ ObjOk H h a u
  | .tbl ps => h.get? a = some { cls := .none, data := .fields ps }
  | .met f x => h.get? a = some (PySem.W.methodObj (.ref f) (.ref x))
  | .ext φ => φ h ∧ (∃ o, h.get? a = some o) ∧ ∀ h1 h2 : Heap, φ h1 → (∀ o, h1.get? a = some o → h2.get? a = some o) → φ h2
/-- the abstract heap is held -/
def HOk (H : Hp) (h : Heap) : Prop := ∀ a o, H a = some o → ObjOk P w H h a o
end

section
variable {P : Program} {w : World} {H H' : Hp} {h h' : Heap} {a : Addr} {o : HO}
theorem ObjOk.lt (x : ObjOk P w H h a o) : a < h.objs.size := by
  cases o with
  | lst xs => obtain ⟨_, _, _, _, e⟩ := x; exact Heap.lt_size e
  | tup xs => obtain ⟨_, _, _, p⟩ := x; exact p.lt
  | dK kvs => obtain ⟨_, _, _, _, o, _, _, e, _⟩ := x; exact Heap.lt_size e
  | dT kvs => obtain ⟨_, _, _, _, o, _, _, e, _⟩ := x; exact Heap.lt_size e
  | set S n => obtain ⟨o, _, _, _, e, _⟩ := x; exact Heap.lt_size e
  | ins C dx fs => obtain ⟨_, _, _, e, _⟩ := x; exact Heap.lt_size e
  | own y => obtain ⟨_, e⟩ := x; exact Heap.lt_size e
  | xd fs => obtain ⟨_, ⟨_, _, _, e, _⟩, _⟩ := x; exact Heap.lt_size e
  | rng lo hi => obtain ⟨_, _, _, e⟩ := x; exact Heap.lt_size e
  | frz ob u => obtain ⟨e, _⟩ := x; exact Heap.lt_size e
  | tbl ps => exact Heap.lt_size (show h.get? a = some _ from x)
  | met f y => exact Heap.lt_size (show h.get? a = some _ from x)
  | ext φ => obtain ⟨_, ⟨_, e⟩, _⟩ := x; exact Heap.lt_size e
theorem Paired.mapP {α β : Type} {F G : α → β → Prop} : ∀ {l₁ : List α} {l₂ : List β}, Paired F l₁ l₂ → (∀ a b, F a b → G a b) → Paired G l₁ l₂
  | _, _, .nil, _ => .nil
  | _, _, .cons r t, f => .cons (f _ _ r) (Paired.mapP t f)
/-- what an object's description leans on: its own object, its own dict, the tuples -/
theorem ObjOk.stay (x : ObjOk P w H h a o) (k : ∀ b u, (b = a ∨ H b = some (.own a)) → h.get? b = some u → h'.get? b = some u)
    (ho : ∀ b, H b = some (.own a) → H' b = some (.own a)) (ht : ∀ b xs, H b = some (.tup xs) → H' b = some (.tup xs)) : ObjOk P w H' h' a o := by
  induction o with
  | lst xs => obtain ⟨z, its, n, r, e⟩ := x; exact ⟨z, its, n, r, k _ _ (.inl rfl) e⟩
  | tup xs => obtain ⟨z, its, r, ob, e, c⟩ := x; exact ⟨z, its, r, ob, k _ _ (.inl rfl) e, c⟩
  | dK kvs => obtain ⟨z, y, vs, r, ob, es, ep, e, c⟩ := x; exact ⟨z, y, vs, r, ob, es, ep, k _ _ (.inl rfl) e, c⟩
  | dT kvs =>
    obtain ⟨z, y, xs, r, ob, es, ep, e, c⟩ := x
    exact ⟨z, y, xs, Paired.mapP r fun p q z => ⟨z.1, ht _ _ z.2.1, z.2.2⟩, ob, es, ep, k _ _ (.inl rfl) e, c⟩
  | set S n => obtain ⟨ob, es, ep, t, e, c⟩ := x; exact ⟨ob, es, ep, t, k _ _ (.inl rfl) e, c⟩
  | ins C dx fs =>
    obtain ⟨d, z, ne, e, mA, ⟨od, es, ep, e2, c⟩, r⟩ := x
    exact ⟨ho _ d, z, ne, k _ _ (.inl rfl) e, mA, ⟨od, es, ep, k _ _ (.inr d) e2, c⟩, r⟩
  | own y => obtain ⟨ob, e⟩ := x; exact ⟨ob, k _ _ (.inl rfl) e⟩
  | xd fs => obtain ⟨mA, ⟨od, es, ep, e, c⟩, r⟩ := x; exact ⟨mA, ⟨od, es, ep, k _ _ (.inl rfl) e, c⟩, r⟩
  | rng lo hi => obtain ⟨t, u, v, e⟩ := x; exact ⟨t, u, v, k _ _ (.inl rfl) e⟩
  | frz ob u ih => obtain ⟨e, q⟩ := x; exact ⟨k _ _ (.inl rfl) e, ih q⟩
  | tbl ps =>
    have e : h.get? a = some { cls := .none, data := .fields ps } := x
    show h'.get? a = some { cls := .none, data := .fields ps }
    exact k a _ (.inl rfl) e
  | met f y =>
    have e : h.get? a = some (PySem.W.methodObj (.ref f) (.ref y)) := x
    show h'.get? a = some (PySem.W.methodObj (.ref f) (.ref y))
    exact k a _ (.inl rfl) e
  | ext φ => obtain ⟨p, ⟨o, e⟩, st⟩ := x; exact ⟨st _ _ p fun o q => k _ _ (.inl rfl) q, ⟨o, k _ _ (.inl rfl) e⟩, st⟩
theorem HOk.lt (x : HOk P w H h) (e : H a = some o) : a < h.objs.size := (x a o e).lt
theorem HOk.fresh (x : HOk P w H h) (e : h.objs.size ≤ a) : H a = none := by
  cases q : H a with
  | none => rfl
  | some u => exact absurd (Nat.lt_of_lt_of_le (x.lt q) e) (Nat.lt_irrefl _)
/-- every object of the heap is kept -/
theorem HOk.kept (x : HOk P w H h) (k : ∀ b u, h.get? b = some u → h'.get? b = some u) : HOk P w H h' := fun a o e =>
  (x a o e).stay (fun b u _ q => k b u q) (fun _ q => q) fun _ _ q => q
/-- a new object is laid and tracked -/
theorem HOk.laid (x : HOk P w H h) (k : ∀ b u, h.get? b = some u → h'.get? b = some u) (hp : h.objs.size ≤ a) (new : ObjOk P w (upd H a o) h' a o) : HOk P w (upd H a o) h' := fun b u e => by
  have hn := x.fresh hp
  by_cases hb : b = a
  · subst hb; rw [upd_same] at e; cases e; exact new
  · rw [upd_ne hb] at e
    exact (x b u e).stay (fun c v _ q => k c v q) (fun c q => by rw [upd_ne (ne_of_none q hn)]; exact q) fun c xs q => by rw [upd_ne (ne_of_none q hn)]; exact q
end

/-- what may be read as u: it is u, or a known u -/
def Rd (H : Hp) (a : Addr) (u : HO) : Prop := H a = some u ∨ ∃ o, H a = some (.frz o u)
theorem Rd.ok {P : Program} {w : World} {H : Hp} {h : Heap} {a : Addr} {u : HO} (r : Rd H a u) (x : HOk P w H h) : ObjOk P w H h a u := by
  rcases r with r | ⟨o, r⟩
  · exact x a u r
  · obtain ⟨_, q⟩ := x a _ r
    exact q
/-- what may be written -/
def Mut : Option HO → Prop
  | some (.lst _) => True
  | some (.dK _) => True
  | some (.dT _) => True
  | some (.set _ _) => True
  | some (.ins _ _ _) => True
  | some (.ext _) => True
  | _ => False
section
variable {P : Program} {w : World} {H : Hp} {h h' : Heap} {x e : Addr} {o' : HO}
/-- the object at e is changed: x itself, or the dict of the instance x -/
theorem HOk.write (ok : HOk P w H h) (mu : Mut (H x)) (he : e = x ∨ H e = some (.own x)) (k : ∀ b u, b ≠ e → h.get? b = some u → h'.get? b = some u) (heo : ∃ u, h'.get? e = some u)
    (new : ObjOk P w (upd H x o') h' x o') : HOk P w (upd H x o') h' := fun b u q => by
  have nown : ∀ c y, H c = some (.own y) → c ≠ x := fun c y r z => by subst z; rw [r] at mu; exact mu
  have ntup : ∀ c xs, H c = some (.tup xs) → c ≠ x := fun c xs r z => by subst z; rw [r] at mu; exact mu
  by_cases hb : b = x
  · subst hb; rw [upd_same] at q; cases q; exact new
  · rw [upd_ne hb] at q
    by_cases hbe : b = e
    · have q' : H b = some (.own x) := by
        rcases he with z | z
        · exact absurd (hbe.trans z) hb
        · rw [hbe]; exact z
      rw [q] at q'; cases q'
      obtain ⟨v, hv⟩ := heo
      exact ⟨v, by rw [hbe]; exact hv⟩
    · refine (ok b u q).stay (fun c v hc r => k c v ?_ r) (fun c r => by rw [upd_ne (nown c b r)]; exact r) fun c xs r => by rw [upd_ne (ntup c xs r)]; exact r
      rcases hc with rfl | hc
      · exact hbe
      · rintro rfl
        rcases he with z | z
        · exact nown c b hc z
        · rw [hc] at z; cases z; exact hb rfl
end

/-! ### kept unless tracked; of the frames at fs (the callers') the slots may change (an exception that passes writes there); of the records at ex (iterators) nothing is said -/
structure Un (fs ex : List Addr) (H H' : Hp) (h h' : Heap) : Prop where
  keep : ∀ b o, h.get? b = some o → H b = none → b ∉ fs → b ∉ ex → h'.get? b = some o
  slot : ∀ b o, h.get? b = some o → H b = none → b ∈ fs → b ∉ ex → ∃ sl, h'.get? b = some { o with slots := sl }
  free : ∀ b o, h.get? b = some o → H b = none → b ∉ ex → H' b = none
  there : ∀ b o, h.get? b = some o → b ∉ ex → ∃ o', h'.get? b = some o'
  tups : ∀ b xs, H b = some (.tup xs) → H' b = some (.tup xs)
  frzs : ∀ b o u, H b = some (.frz o u) → H' b = some (.frz o u)
  tbls : ∀ b ps, H b = some (.tbl ps) → ∃ more, H' b = some (.tbl (ps ++ more))
section
variable {fs fs' ex ex' : List Addr} {H H1 H2 : Hp} {h h1 h2 h' : Heap} {a x e : Addr} {o : HO}
theorem Un.any (u : Un fs ex H H1 h h1) {b : Addr} {ob : Obj} (q : h.get? b = some ob) (n : H b = none) (hx : b ∉ ex) : ∃ sl, h1.get? b = some { ob with slots := sl } := by
  by_cases hb : b ∈ fs
  · exact u.slot b ob q n hb hx
  · exact ⟨ob.slots, u.keep b ob q n hb hx⟩
theorem Un.kept (k : ∀ b u, h.get? b = some u → h'.get? b = some u) : Un fs ex H H h h' :=
  ⟨fun b ob q _ _ _ => k b ob q, fun b ob q _ _ _ => ⟨ob.slots, k b ob q⟩, fun _ _ _ n _ => n, fun b ob q _ => ⟨ob, k b ob q⟩, fun _ _ q => q, fun _ _ _ q => q, fun _ ps q => ⟨#[], by rw [q]; simp⟩⟩
theorem Un.refl : Un fs ex H H h h := Un.kept fun _ _ q => q
theorem Un.laid (k : ∀ b u, h.get? b = some u → h'.get? b = some u) (hp : h.objs.size ≤ a) (hn : H a = none) : Un fs ex H (upd H a o) h h' where
  keep := fun b u q _ _ _ => k b u q
  slot := fun b u q _ _ _ => ⟨u.slots, k b u q⟩
  free := fun b u q n _ => by rw [upd_ne (Nat.ne_of_lt (Nat.lt_of_lt_of_le (Heap.lt_size q) hp))]; exact n
  there := fun b u q _ => ⟨u, k b u q⟩
  tups := fun b xs q => by rw [upd_ne (ne_of_none q hn)]; exact q
  frzs := fun b u xs q => by rw [upd_ne (ne_of_none q hn)]; exact q
  tbls := fun b ps q => ⟨#[], by rw [upd_ne (ne_of_none q hn), q]; simp⟩
theorem Un.write (mu : Mut (H x)) (he : e = x ∨ H e = some (.own x)) (k : ∀ b u, b ≠ e → h.get? b = some u → h'.get? b = some u) (heo : ∃ u, h'.get? e = some u) : Un fs ex H (upd H x o) h h' := by
  have hx : ∀ b, H b = none → b ≠ x := fun b n z => by subst z; rw [n] at mu; exact mu
  have hb : ∀ b, H b = none → b ≠ e := fun b n z => by
    subst z
    rcases he with r | r
    · exact hx b n r
    · rw [n] at r; cases r
  have hm : ∀ b u, H b = some u → ¬ Mut (some u) → b ≠ x := fun b u q nm z => by subst z; rw [q] at mu; exact nm mu
  refine ⟨fun b u q n _ _ => k b u (hb b n) q, fun b u q n _ _ => ⟨u.slots, k b u (hb b n) q⟩, fun b u q n _ => by rw [upd_ne (hx b n)]; exact n, fun b u q _ => ?_,
    fun b xs q => by rw [upd_ne (hm b _ q fun z => z)]; exact q, fun b u xs q => by rw [upd_ne (hm b _ q fun z => z)]; exact q, fun b ps q => ⟨#[], by rw [upd_ne (hm b _ q fun z => z), q]; simp⟩⟩
  by_cases hbe : b = e
  · subst hbe; exact heo
  · exact ⟨u, k b u hbe q⟩
end

/-! ### the heap without what is tracked -/
def trk (h : Heap) (H : Hp) : List Addr := (List.range h.objs.size).filter fun a => (H a).isSome
def hidT (h : Heap) (H : Hp) : Heap := PySem.W.hideAll h (trk h H)
theorem hidT_size (h : Heap) (H : Hp) : (hidT h H).objs.size = h.objs.size := PySem.W.hideAll_size _ _
theorem hidT_get {h : Heap} {H : Hp} {b : Addr} {o : Obj} (e : h.get? b = some o) (n : H b = none) : (hidT h H).get? b = some o :=
  PySem.W.hideAll_get _ e fun hm => by
    have q : (H b).isSome = true := (List.mem_filter.mp hm).2
    rw [n] at q; simp at q
theorem of_hidT {h : Heap} {H : Hp} {b : Addr} {o : Obj} (e : (hidT h H).get? b = some o) : h.get? b = some o ∧ H b = none := by
  have e' : h.get? b = some o := PySem.W.of_hideAll (trk h H) e
  refine ⟨e', ?_⟩
  cases q : H b with
  | none => rfl
  | some x =>
    have hm : b ∈ trk h H := List.mem_filter.mpr ⟨List.mem_range.mpr (Heap.lt_size e'), by simp [q]⟩
    have z : (hidT h H).get? b = none := PySem.W.hideAll_none (trk h H) hm
    rw [z] at e; cases e

/-! ### OpenK's ledger, filled with every new object but one -/
def allNews (g h : Heap) (L : Addr) : List (Addr × Obj) := (List.range h.objs.size).filterMap fun a => if a = L ∨ (g.get? a).isSome = true then none else (h.get? a).map fun o => (a, o)
def rest (g h : Heap) (L d : Addr) : List (Addr × Obj) := (allNews g h L).filter fun p => decide (p.1 ≠ d)
end L2

namespace L2
open PySem PySem.Spec PyProof.Rows

/-- the module's facts, over the base: the heap at the law's entry without what is tracked there -/
structure Mod (K : PySem.W.Frag) (mg : Str → Option Value) (base : Heap) : Prop where
  kin : K.In base
  glob : base.Ns mainGlobals mg
  blt : ∃ mb, base.Ns builtinsNs mb ∧ ∀ x : Str, x ≠ "__name__" → mb x = bootBuiltins x
  nolimit : base.NoLimit

/-- the context: a def's body (or a comprehension's block) running. base: fixed through the whole law; s₀, H₀: the entry; outer: the frames whose slots others may change (a def's callers); stack: all frames that run;
   ex: iterators that were made ahead of the entry and are walked here (a comprehension's); fn: the names whose cells were made at the entry (a def: all; a comprehension's block: its own); calm: not within an except suite; pn: pins that every state bears; xe: what is wanted of an exception that leaves the code -/
structure Cx where
  prog : Program
  w : World
  K : PySem.W.Frag
  mg : Str → Option Value
  base : Heap
  A : Around
  N : List Str
  s₀ : Shared
  H₀ : Hp
  env : Env
  outer : List Env
  stack : List Env
  ex : List Addr
  fn : Str → Bool
  calm : Bool
  pn : List (Addr × Obj)
  xe : Value → Shared → Prop
/-- the callers' frames -/
def frs (l : List Env) : List Addr := l.filterMap (·.frame)
abbrev Cx.fs (X : Cx) : List Addr := frs X.outer

def Vis (sc : Scope) (x : Str) : Prop := sc.names.lookup x = some .local ∨ sc.names.lookup x = some .cell ∨ sc.names.lookup x = some .free
def Loc (sc : Scope) (x : Str) : Prop := sc.names.lookup x = some .local ∨ sc.names.lookup x = some .cell
def Look (env : Env) (h : Heap) (m : Str → Option Value) (x : Str) (u : Value) : Prop :=
  (env.kindOf x = some .local ∧ m x = some u) ∨ ((env.kindOf x = some .cell ∨ env.kindOf x = some .free) ∧ ∃ c, env.cells.lookup x = some c ∧ h.IsCell c (some u))

structure Cx.Ok (X : Cx) : Prop where
  mod : Mod X.K X.mg X.base
  kind : X.env.scope.kind = .function
  glob : X.env.globals = mainGlobals
  blt : X.env.builtins = builtinsNs
  above : X.s₀.heap.objs.size ≤ X.env.locals
  inj : ∀ x y c, X.env.cells.lookup x = some c → X.env.cells.lookup y = some c → x = y
  has : ∀ x, (X.env.kindOf x = some .cell ∨ X.env.kindOf x = some .free) → ∃ c, X.env.cells.lookup x = some c
  cab : ∀ x c, X.fn x = true → X.env.cells.lookup x = some c → X.s₀.heap.objs.size ≤ c
  hd : X.calm = true → X.A.handled = none
  frames : X.A.frames = some X.stack
  stk : X.stack = X.outer ∨ (X.stack = X.env :: X.outer ∧ X.env.frame = some X.env.locals)
  exf : ∀ b ∈ X.ex, b ≠ X.env.locals ∧ ∀ x c, X.env.cells.lookup x = some c → c ≠ b
  bs : ∀ b o, X.base.get? b = some o → X.s₀.heap.get? b = some o ∧ X.H₀ b = none
  bsz : X.base.objs.size ≤ X.s₀.heap.objs.size
  noex : ∀ b o, X.base.get? b = some o → b ∉ X.ex
  exfs : ∀ b ∈ X.ex, b ∉ X.fs
  funs : X.s₀.heap.FunFrames X.base X.outer
  frf : ∀ b ∈ X.fs, X.H₀ b = none

structure Inv (X : Cx) (pins : List (Addr × Obj)) (σ : List (Option V)) (H : Hp) (s : Shared) : Prop where
  ok : X.Ok
  os : s.os = X.s₀.os
  bare : AllBare s.gens
  base : Un X.fs X.ex X.H₀ H X.s₀.heap s.heap
  loc : ∃ m, s.heap.Ns X.env.locals m ∧ ∀ (i : Nat) (x : Str) (v : V), X.N[i]? = some x → σ[i]? = some (some v) → Vis X.env.scope x → ∃ u, RelV v u ∧ Look X.env s.heap m x u
  cell : ∀ x c, X.env.cells.lookup x = some c → ∃ v, s.heap.IsCell c v
  free : H X.env.locals = none
  freeC : ∀ x c, X.env.cells.lookup x = some c → H c = none
  pin : ∀ p ∈ X.pn ++ pins, s.heap.get? p.1 = some p.2 ∧ H p.1 = none ∧ p.1 ≠ X.env.locals ∧ p.1 ∉ X.fs ∧ ∀ v, p.2.data ≠ .cell v
  hok : HOk X.prog X.w H s.heap
  len : σ.length = X.N.length

section
variable {X : Cx} {pins : List (Addr × Obj)} {σ : List (Option V)} {H H' : Hp} {s : Shared} {h' : Heap}

theorem Cx.Ok.nofr (ok : X.Ok) {b : Addr} {o : Obj} (e : X.base.get? b = some o) : b ∉ X.fs := fun hb => by
  have := (ok.funs.mem hb).1
  rw [e] at this; cases this
theorem Inv.bs (I : Inv X pins σ H s) : ∀ b o, X.base.get? b = some o → s.heap.get? b = some o ∧ H b = none := fun b o e =>
  ⟨I.base.keep b o (I.ok.bs b o e).1 (I.ok.bs b o e).2 (I.ok.nofr e) (I.ok.noex b o e), I.base.free b o (I.ok.bs b o e).1 (I.ok.bs b o e).2 (I.ok.noex b o e)⟩
theorem Inv.bk (I : Inv X pins σ H s) : ∀ b o, X.base.get? b = some o → s.heap.get? b = some o := fun b o e => (I.bs b o e).1
theorem Inv.mod (I : Inv X pins σ H s) : Mod X.K X.mg X.base := I.ok.mod
theorem Inv.kIn (I : Inv X pins σ H s) : X.K.In s.heap := I.ok.mod.kin.keeps I.bk
/-- the frame over the base: for OpenK's rules (K.In X.base is I.mod.kin) -/
theorem Inv.fr (I : Inv X pins σ H s) : ∃ m, Fr X.base X.env.locals s.heap m :=
  let ⟨m, hn, _⟩ := I.loc
  ⟨m, hn, I.bk, Nat.le_trans I.ok.bsz I.ok.above⟩
theorem Inv.lt (I : Inv X pins σ H s) : X.env.locals < s.heap.objs.size := let ⟨_, hn, _⟩ := I.loc; hn.lt
theorem Inv.sz (I : Inv X pins σ H s) : X.s₀.heap.objs.size ≤ s.heap.objs.size := Nat.le_trans I.ok.above (Nat.le_of_lt I.lt)
theorem Inv.nofs (I : Inv X pins σ H s) {a : Addr} (h : s.heap.objs.size ≤ a) : a ∉ X.fs := fun hb => by
  obtain ⟨_, o, ho, _⟩ := I.ok.funs.mem hb
  exact absurd (Nat.lt_of_lt_of_le (Heap.lt_size ho) (Nat.le_trans I.sz h)) (Nat.lt_irrefl _)
theorem Inv.cne (I : Inv X pins σ H s) : ∀ x c, X.env.cells.lookup x = some c → c ≠ X.env.locals := fun x c e z => by
  obtain ⟨v, o, ho, hd⟩ := I.cell x c e
  obtain ⟨m, ⟨o', es, ep, ho', hd', _⟩, _⟩ := I.loc
  rw [z, ho'] at ho; cases ho; rw [hd'] at hd; cases hd
theorem Inv.funs (I : Inv X pins σ H s) : s.heap.FunFrames X.base X.outer := by
  have all : ∀ (l : List Env), (∀ b ∈ frs l, b ∈ X.fs) → X.s₀.heap.FunFrames X.base l → s.heap.FunFrames X.base l := by
    intro l
    induction l with
    | nil => intro _ _; trivial
    | cons env r ih =>
      intro hs hl
      obtain ⟨hk, ⟨L, o, hf, hn, ho, hd⟩, hr⟩ := hl
      have hL : L ∈ X.fs := hs L (by unfold frs; rw [List.filterMap_cons, hf]; exact List.mem_cons_self)
      obtain ⟨sl, e⟩ := I.base.slot L o ho (I.ok.frf L hL) hL fun z => I.ok.exfs L z hL
      exact ⟨hk, ⟨L, _, hf, hn, e, hd⟩, ih (fun b hb => hs b (by unfold frs; rw [List.filterMap_cons, hf]; exact List.mem_cons_of_mem _ hb)) hr⟩
  exact all X.outer (fun _ hb => hb) I.ok.funs

/-- the frames that run, for a call -/
theorem Inv.stack (I : Inv X pins σ H s) : s.heap.FunFrames X.base X.stack := by
  rcases I.ok.stk with e | ⟨e, hf⟩
  · rw [e]; exact I.funs
  · rw [e]
    obtain ⟨m, hn, _⟩ := I.loc
    refine .cons (by rw [I.ok.kind]; decide) hf hn ?_ I.funs
    exact Heap.get?_none_of_le (Nat.le_trans I.ok.bsz I.ok.above)
theorem Inv.stkSub (I : Inv X pins σ H s) : ∀ b ∈ frs X.stack, b ∈ X.env.locals :: X.fs := fun b hb => by
  rcases I.ok.stk with e | ⟨e, hf⟩
  · rw [e] at hb; exact List.mem_cons_of_mem _ hb
  · rw [e] at hb
    unfold frs at hb
    rw [List.filterMap_cons, hf] at hb
    exact hb
theorem Inv.stkFree (I : Inv X pins σ H s) : ∀ b ∈ frs X.stack, H b = none := fun b hb => by
  rcases List.mem_cons.mp (I.stkSub b hb) with e | hb
  · rw [e]; exact I.free
  · obtain ⟨_, o, ho, _⟩ := I.ok.funs.mem hb
    exact I.base.free b o ho (I.ok.frf b hb) fun z => I.ok.exfs b z hb

/-- THE STEP: the untracked objects but the frame and the records at ch are kept (the callers' frames up to slots), the frame's map is kept, the new abstract heap is held -/
theorem Inv.step {g' : Array GenState} {t' : Nat} {d' : Drawn} {ch : List Addr} (I : Inv X pins σ H s)
    (hch : ∀ b ∈ ch, (b ∈ X.ex ∨ X.s₀.heap.objs.size ≤ b) ∧ b ≠ X.env.locals ∧ (∀ x c, X.env.cells.lookup x = some c → c ≠ b) ∧ ∀ p ∈ X.pn ++ pins, p.1 ≠ b)
    (keep : ∀ b o, b ≠ X.env.locals → b ∉ X.fs → b ∉ ch → s.heap.get? b = some o → H b = none → h'.get? b = some o)
    (slot : ∀ b o, b ≠ X.env.locals → b ∈ X.fs → b ∉ ch → s.heap.get? b = some o → H b = none → ∃ sl, h'.get? b = some { o with slots := sl }) (free : ∀ b o, b ∉ ch → s.heap.get? b = some o → H b = none → H' b = none)
    (there : ∀ b o, b ∉ ch → s.heap.get? b = some o → ∃ o', h'.get? b = some o')
    (tups : ∀ b xs, H b = some (.tup xs) → H' b = some (.tup xs)) (frzs : ∀ b o u, H b = some (.frz o u) → H' b = some (.frz o u)) (tbls : ∀ b ps, H b = some (.tbl ps) → ∃ more, H' b = some (.tbl (ps ++ more)))
    (ns : ∀ m, s.heap.Ns X.env.locals m → h'.Ns X.env.locals m) (hok : HOk X.prog X.w H' h') (hg : AllBare g') :
    Inv X pins σ H' { s with heap := h', gens := g', drawn := d', toks := t' } := by
  have neL : ∀ b o, X.s₀.heap.get? b = some o → b ≠ X.env.locals := fun b o e => Nat.ne_of_lt (Nat.lt_of_lt_of_le (Heap.lt_size e) I.ok.above)
  have neC : ∀ b o, X.s₀.heap.get? b = some o → b ∉ X.ex → b ∉ ch := fun b o e hx hb => by
    rcases (hch b hb).1 with z | z
    · exact hx z
    · exact absurd (Nat.lt_of_lt_of_le (Heap.lt_size e) z) (Nat.lt_irrefl _)
  have cellK : ∀ x c, X.env.cells.lookup x = some c → ∀ v, s.heap.IsCell c v → h'.IsCell c v := fun x c e v ⟨o, ho, hd⟩ => by
    have nch : c ∉ ch := fun z => (hch c z).2.2.1 x c e rfl
    by_cases hc : c ∈ X.fs
    · obtain ⟨sl, q⟩ := slot c o (I.cne x c e) hc nch ho (I.freeC x c e)
      exact ⟨_, q, hd⟩
    · exact ⟨o, keep c o (I.cne x c e) hc nch ho (I.freeC x c e), hd⟩
  refine ⟨I.ok, I.os, hg, ⟨fun b o e n hb hx => ?_, fun b o e n hb hx => ?_, fun b o e n hx => ?_, fun b o e hx => ?_, fun b xs e => tups b xs (I.base.tups b xs e), fun b o xs e => frzs b o xs (I.base.frzs b o xs e), fun b ps e => ?_⟩, ?_, fun x c e => ?_, ?_, fun x c e => ?_, fun p hp => ?_, hok, I.len⟩
  · exact keep b o (neL b o e) hb (neC b o e hx) (I.base.keep b o e n hb hx) (I.base.free b o e n hx)
  · obtain ⟨sl, e1⟩ := I.base.slot b o e n hb hx
    obtain ⟨sl', e2⟩ := slot b _ (neL b o e) hb (neC b o e hx) e1 (I.base.free b o e n hx)
    exact ⟨sl', e2⟩
  · obtain ⟨o', e1⟩ := I.base.there b o e hx
    exact free b o' (neC b o e hx) e1 (I.base.free b o e n hx)
  · obtain ⟨o', e1⟩ := I.base.there b o e hx
    exact there b o' (neC b o e hx) e1
  · obtain ⟨m1, e1⟩ := I.base.tbls b ps e
    obtain ⟨m2, e2⟩ := tbls b _ e1
    exact ⟨m1 ++ m2, by rw [e2, Array.append_assoc]⟩
  · obtain ⟨m, hn, hl⟩ := I.loc
    refine ⟨m, ns m hn, fun i x v e1 e2 e3 => ?_⟩
    obtain ⟨u, r, l⟩ := hl i x v e1 e2 e3
    refine ⟨u, r, ?_⟩
    rcases l with l | ⟨k, c, e, z⟩
    · exact .inl l
    · exact .inr ⟨k, c, e, cellK x c e _ z⟩
  · obtain ⟨v, z⟩ := I.cell x c e
    exact ⟨v, cellK x c e v z⟩
  · obtain ⟨m, ⟨o, _, _, ho, _⟩, _⟩ := I.loc
    exact free _ o (fun z => (hch _ z).2.1 rfl) ho I.free
  · obtain ⟨v, o, ho, hd⟩ := I.cell x c e
    exact free c o (fun z => (hch c z).2.2.1 x c e rfl) ho (I.freeC x c e)
  · obtain ⟨e, n, ne, nf, d⟩ := I.pin p hp
    have nch : p.1 ∉ ch := fun z => (hch p.1 z).2.2.2 p hp rfl
    exact ⟨keep p.1 p.2 ne nf nch e n, free p.1 p.2 nch e n, ne, nf, d⟩
/-- .. where the frame's own object is kept too -/
theorem Inv.un {t' : Nat} (I : Inv X pins σ H s) (u : Un X.fs [] H H' s.heap h') (hok : HOk X.prog X.w H' h') : Inv X pins σ H' { s with heap := h', toks := t' } := by
  obtain ⟨m, ⟨o, es, ep, ho, r⟩, _⟩ := id I.loc
  obtain ⟨sl, hL⟩ := u.any ho I.free (by simp)
  exact I.step (g' := s.gens) (d' := s.drawn) (ch := []) (fun _ z => nomatch z) (fun b o _ hb _ e n => u.keep b o e n hb (by simp)) (fun b o _ hb _ e n => u.slot b o e n hb (by simp)) (fun b o _ e n => u.free b o e n (by simp)) (fun b o _ e => u.there b o e (by simp)) u.tups u.frzs u.tbls (fun m' hm => by
    obtain ⟨o', es', ep', ho', r'⟩ := hm
    rw [ho] at ho'; cases ho'
    exact ⟨_, es', ep', hL, r'⟩) hok I.bare
/-- behind a call (or a comprehension's block): the slots of this frame may have changed too, the records at ch may have turned -/
theorem Inv.call {g' : Array GenState} {t' : Nat} {d' : Drawn} {ch : List Addr} (I : Inv X pins σ H s) (u : Un (frs X.stack) ch H H' s.heap h') (hok : HOk X.prog X.w H' h') (hg : AllBare g')
    (hch : ∀ b ∈ ch, (b ∈ X.ex ∨ X.s₀.heap.objs.size ≤ b) ∧ b ≠ X.env.locals ∧ (∀ x c, X.env.cells.lookup x = some c → c ≠ b) ∧ ∀ p ∈ X.pn ++ pins, p.1 ≠ b) :
    Inv X pins σ H' { s with heap := h', gens := g', drawn := d', toks := t' } := by
  obtain ⟨m, ⟨o, es, ep, ho, r⟩, _⟩ := id I.loc
  obtain ⟨sl, hL⟩ := u.any ho I.free fun z => (hch _ z).2.1 rfl
  exact I.step (ch := ch) hch (fun b o hL hb hc e n => u.keep b o e n (fun z => (List.mem_cons.mp (I.stkSub b z)).elim hL hb) hc) (fun b o _ _ hc e n => u.any e n hc) (fun b o hc e n => u.free b o e n hc) (fun b o hc e => u.there b o e hc) u.tups u.frzs u.tbls (fun m' hm => by
    obtain ⟨o', es', ep', ho', r'⟩ := hm
    rw [ho] at ho'; cases ho'
    exact ⟨_, es', ep', hL, r'⟩) hok hg
/-- an untracked record of ours (an iterator) has turned -/
theorem Inv.turned {t' : Nat} {it : Addr} (I : Inv X pins σ H s) (k : ∀ b o, b ≠ it → s.heap.get? b = some o → h'.get? b = some o) (hn : H it = none) (hL : it ≠ X.env.locals)
    (h1 : it ∈ X.ex ∨ X.s₀.heap.objs.size ≤ it) (h2 : ∀ x c, X.env.cells.lookup x = some c → c ≠ it) (h3 : ∀ p ∈ X.pn ++ pins, p.1 ≠ it) : Inv X pins σ H { s with heap := h', toks := t' } := by
  have nit : ∀ b u, H b = some u → b ≠ it := fun b u e z => by rw [z, hn] at e; cases e
  refine I.step (g' := s.gens) (d' := s.drawn) (ch := [it]) (fun b hb => ?_) (fun b o _ _ hc e _ => k b o (fun z => hc (by simp [z])) e) (fun b o _ _ hc e _ => ⟨o.slots, k b o (fun z => hc (by simp [z])) e⟩) (fun _ _ _ _ n => n)
    (fun b o hc e => ⟨o, k b o (fun z => hc (by simp [z])) e⟩) (fun _ _ e => e) (fun _ _ _ e => e) (fun b ps e => ⟨#[], by rw [e]; simp⟩) (fun m hm => ?_) (fun b u e => ?_) I.bare
  · have e : b = it := by simpa using hb
    subst e
    exact ⟨h1, hL, h2, h3⟩
  · obtain ⟨o, es, ep, ho, r⟩ := hm
    exact ⟨o, es, ep, k _ o (Ne.symm hL) ho, r⟩
  · refine (I.hok b u e).stay (fun c v hc q => k c v ?_ q) (fun _ q => q) fun _ _ q => q
    rcases hc with z | z
    · rw [z]; exact nit b u e
    · exact nit c _ z
theorem Inv.tok (I : Inv X pins σ H s) (t : Nat) : Inv X pins σ H { s with toks := t } := I.un (h' := s.heap) (t' := t) Un.refl I.hok
/-- all objects kept -/
theorem Inv.kept {t' : Nat} (I : Inv X pins σ H s) (k : ∀ b u, s.heap.get? b = some u → h'.get? b = some u) : Inv X pins σ H { s with heap := h', toks := t' } := I.un (Un.kept k) (I.hok.kept k)
/-- a new object laid and tracked -/
theorem Inv.laid {a : Addr} {o : HO} {t' : Nat} (I : Inv X pins σ H s) (k : ∀ b u, s.heap.get? b = some u → h'.get? b = some u) (hp : s.heap.objs.size ≤ a) (new : ObjOk X.prog X.w (upd H a o) h' a o) :
    Inv X pins σ (upd H a o) { s with heap := h', toks := t' } := I.un (Un.laid k hp (I.hok.fresh hp)) (I.hok.laid k hp new)
/-- an object written -/
theorem Inv.write {x e : Addr} {o : HO} {t' : Nat} (I : Inv X pins σ H s) (mu : Mut (H x)) (he : e = x ∨ H e = some (.own x)) (k : ∀ b u, b ≠ e → s.heap.get? b = some u → h'.get? b = some u) (heo : ∃ u, h'.get? e = some u)
    (new : ObjOk X.prog X.w (upd H x o) h' x o) : Inv X pins σ (upd H x o) { s with heap := h', toks := t' } := I.un (Un.write mu he k heo) (I.hok.write mu he k heo new)
/-- forgetting slots, pins -/
theorem Inv.weak {σ' : List (Option V)} (I : Inv X pins σ H s) (hl : σ'.length = σ.length) (w : ∀ (i : Nat) v, σ'[i]? = some (some v) → σ[i]? = some (some v)) : Inv X pins σ' H s :=
  ⟨I.ok, I.os, I.bare, I.base, let ⟨m, hn, hl'⟩ := I.loc; ⟨m, hn, fun i x v e1 e2 e3 => hl' i x v e1 (w i v e2) e3⟩, I.cell, I.free, I.freeC, I.pin, I.hok, hl.trans I.len⟩
theorem Inv.pins_of {pins' : List (Addr × Obj)} (I : Inv X pins σ H s) (h : ∀ p ∈ pins', s.heap.get? p.1 = some p.2 ∧ H p.1 = none ∧ p.1 ≠ X.env.locals ∧ p.1 ∉ X.fs ∧ ∀ v, p.2.data ≠ .cell v) : Inv X pins' σ H s :=
  ⟨I.ok, I.os, I.bare, I.base, I.loc, I.cell, I.free, I.freeC, fun p hp => (List.mem_append.mp hp).elim (fun z => I.pin p (List.mem_append_left _ z)) (h p), I.hok, I.len⟩

theorem nodup_ix {N : List Str} (hN : N.Nodup) {i j : Nat} {x : Str} (a : N[i]? = some x) (b : N[j]? = some x) : i = j := by
  obtain ⟨h1, e1⟩ := List.getElem?_eq_some_iff.mp a
  obtain ⟨h2, e2⟩ := List.getElem?_eq_some_iff.mp b
  exact (List.getElem_inj hN).mp (e1.trans e2.symm)

/-- a name is stored; what changed -/
theorem store_ok2 {M : Model} {A : Around} {E : Value → Shared → Prop} {i : Nat} {x : Str} {v : V} {u : Value} {Q : Unit → Shared → Prop} (I : Inv X pins σ H s) (hN : X.N.Nodup) (hi : X.N[i]? = some x) (hx : Loc X.env.scope x) (r : RelV v u)
    (h : ∀ s', Inv X pins (σ.set i (some v)) H s' → (∃ a, Heap.SameBut a s.heap s'.heap ∧ (a = X.env.locals ∨ X.env.cells.lookup x = some a)) → Q () s') (hf : X.fn x = true ∨ X.env.scope.names.lookup x = some .local := by first | exact .inl rfl | exact .inr rfl | assumption) : wpAny M A (storeName X.env x u) Q E s := by
  obtain ⟨m, hn, hl⟩ := id I.loc
  have hcls : (X.env.scope.kind == .class || (X.env.scope.kind == .module && X.env.locals != X.env.globals)) = false := by rw [I.ok.kind]; rfl
  have hiσ : i < σ.length := by rw [I.len]; exact (List.getElem?_eq_some_iff.mp hi).1
  have cne := I.cne
  have tracked : ∀ {a : Addr} {h' : Heap}, (∃ o, s.heap.get? a = some o ∧ H a = none) → Heap.SameBut a s.heap h' → HOk X.prog X.w H h' := fun {a h'} ha hs b ob e => by
    obtain ⟨_, _, hfree⟩ := ha
    refine (I.hok b ob e).stay (fun c w' hc q => (hs.2 c ?_).trans q) (fun _ q => q) fun _ _ q => q
    rintro rfl
    rcases hc with rfl | hc
    · rw [hfree] at e; cases e
    · rw [hfree] at hc; cases hc
  rcases hx with hk | hk
  · refine wpAny_storeName_local hk hn (fun h' hn' hs => ?_) hcls
    obtain ⟨oL, _, _, hoL, _⟩ := id hn
    refine h _ ⟨I.ok, I.os, I.bare, ⟨fun b o e n hb hx => ?_, fun b o e n hb hx => ?_, I.base.free, fun b o e hx => ?_, I.base.tups, I.base.frzs, I.base.tbls⟩, ⟨_, hn', fun j y v' e1 e2 e3 => ?_⟩, fun y c e => ?_, I.free, I.freeC, fun p hp => ?_, tracked ⟨oL, hoL, I.free⟩ hs, by simpa using I.len⟩ ⟨_, hs, .inl rfl⟩
    · exact (hs.2 b (Nat.ne_of_lt (Nat.lt_of_lt_of_le (Heap.lt_size e) I.ok.above))).trans (I.base.keep b o e n hb hx)
    · obtain ⟨sl, e1⟩ := I.base.slot b o e n hb hx
      exact ⟨sl, (hs.2 b (Nat.ne_of_lt (Nat.lt_of_lt_of_le (Heap.lt_size e) I.ok.above))).trans e1⟩
    · obtain ⟨o', e1⟩ := I.base.there b o e hx
      exact ⟨o', (hs.2 b (Nat.ne_of_lt (Nat.lt_of_lt_of_le (Heap.lt_size e) I.ok.above))).trans e1⟩
    · by_cases hj : j = i
      · subst hj
        rw [hi] at e1; cases e1
        rw [List.getElem?_set_self hiσ] at e2
        cases e2
        exact ⟨u, r, .inl ⟨hk, by simp⟩⟩
      · rw [List.getElem?_set_ne (Ne.symm hj)] at e2
        obtain ⟨u', r', q⟩ := hl j y v' e1 e2 e3
        refine ⟨u', r', ?_⟩
        rcases q with ⟨k, e⟩ | ⟨k, c, e, z⟩
        · refine .inl ⟨k, ?_⟩
          have : y ≠ x := fun e => hj (nodup_ix hN e1 (e ▸ hi))
          simp [this, e]
        · exact .inr ⟨k, c, e, z.sameBut hs (cne y c e)⟩
    · obtain ⟨w', z⟩ := I.cell y c e
      exact ⟨w', z.sameBut hs (cne y c e)⟩
    · obtain ⟨e, n, ne, nf, d⟩ := I.pin p hp
      exact ⟨(hs.2 p.1 ne).trans e, n, ne, nf, d⟩
  · have hfn : X.fn x = true := by
      rcases hf with z | z
      · exact z
      · rw [z] at hk; cases hk
    obtain ⟨c, hc⟩ := I.ok.has x (.inl hk)
    obtain ⟨w', z⟩ := I.cell x c hc
    refine wpAny_storeName_cell I.ok.kind hk hc z (fun h' hc' hs => ?_)
    obtain ⟨oc, hoc, hocd⟩ := id z
    refine h { s with heap := h' } ⟨I.ok, I.os, I.bare, ⟨fun b o e n hb hx => ?_, fun b o e n hb hx => ?_, I.base.free, fun b o e hx => ?_, I.base.tups, I.base.frzs, I.base.tbls⟩, ⟨m, hn.sameBut hs (Ne.symm (cne x c hc)), fun j y v' e1 e2 e3 => ?_⟩, fun y c' e => ?_, I.free, I.freeC, fun p hp => ?_, tracked ⟨oc, hoc, I.freeC x c hc⟩ hs, by simpa using I.len⟩ ⟨c, hs, .inr hc⟩
    · exact (hs.2 b (Nat.ne_of_lt (Nat.lt_of_lt_of_le (Heap.lt_size e) (I.ok.cab x c hfn hc)))).trans (I.base.keep b o e n hb hx)
    · obtain ⟨sl, e1⟩ := I.base.slot b o e n hb hx
      exact ⟨sl, (hs.2 b (Nat.ne_of_lt (Nat.lt_of_lt_of_le (Heap.lt_size e) (I.ok.cab x c hfn hc)))).trans e1⟩
    · obtain ⟨o', e1⟩ := I.base.there b o e hx
      exact ⟨o', (hs.2 b (Nat.ne_of_lt (Nat.lt_of_lt_of_le (Heap.lt_size e) (I.ok.cab x c hfn hc)))).trans e1⟩
    · by_cases hj : j = i
      · subst hj
        rw [hi] at e1; cases e1
        rw [List.getElem?_set_self hiσ] at e2
        cases e2
        exact ⟨u, r, .inr ⟨.inl hk, c, hc, hc'⟩⟩
      · rw [List.getElem?_set_ne (Ne.symm hj)] at e2
        obtain ⟨u', r', q⟩ := hl j y v' e1 e2 e3
        refine ⟨u', r', ?_⟩
        rcases q with q | ⟨k, c', e, z'⟩
        · exact .inl q
        · refine .inr ⟨k, c', e, z'.sameBut hs ?_⟩
          rintro rfl
          exact hj (nodup_ix hN e1 (I.ok.inj _ _ _ e hc ▸ hi))
    · by_cases hcc : c' = c
      · subst hcc; exact ⟨_, hc'⟩
      · obtain ⟨w2, z2⟩ := I.cell y c' e
        exact ⟨w2, z2.sameBut hs hcc⟩
    · obtain ⟨e, n, ne, nf, d⟩ := I.pin p hp
      refine ⟨(hs.2 p.1 ?_).trans e, n, ne, nf, d⟩
      intro q
      rw [q, hoc] at e
      have q' : oc = p.2 := Option.some.inj e
      exact d w' (by rw [← q']; exact hocd)
theorem store_ok {M : Model} {A : Around} {E : Value → Shared → Prop} {i : Nat} {x : Str} {v : V} {u : Value} {Q : Unit → Shared → Prop} (I : Inv X pins σ H s) (hN : X.N.Nodup) (hi : X.N[i]? = some x) (hx : Loc X.env.scope x) (r : RelV v u)
    (h : ∀ s', Inv X pins (σ.set i (some v)) H s' → Q () s') (hf : X.fn x = true ∨ X.env.scope.names.lookup x = some .local := by first | exact .inl rfl | exact .inr rfl | assumption) : wpAny M A (storeName X.env x u) Q E s :=
  store_ok2 I hN hi hx r (fun s' I' _ => h s' I') hf
/-- behind a call or a block, the state as it is -/
theorem Inv.call' {s' : Shared} {ch : List Addr} (I : Inv X pins σ H s) (ho : s'.os = s.os) (u : Un (frs X.stack) ch H H' s.heap s'.heap) (hok : HOk X.prog X.w H' s'.heap) (hg : AllBare s'.gens)
    (hch : ∀ b ∈ ch, (b ∈ X.ex ∨ X.s₀.heap.objs.size ≤ b) ∧ b ≠ X.env.locals ∧ (∀ x c, X.env.cells.lookup x = some c → c ≠ b) ∧ ∀ p ∈ X.pn ++ pins, p.1 ≠ b) : Inv X pins σ H' s' := by
  obtain ⟨h', g', d', t', o'⟩ := s'
  have e : o' = s.os := ho
  subst e
  exact I.call (g' := g') (t' := t') (d' := d') u hok hg hch
end

/-! ### the judgements -/
/-- an exception: its class, its own dict's address (where it has one), the abstract heap behind it -/
abbrev XK := Value → Option Addr → Hp → Prop
abbrev St := List (Option V)
abbrev VK := V → Hp → Prop
/-- an expression's reading; a test's; an argument list's -/
abbrev TE := St → Hp → VK → Prop
abbrev TT := St → Hp → (Bool → Hp → Prop) → Prop
abbrev TA := St → Hp → (List V → Hp → Prop) → Prop
/-- what is wanted behind a statement -/
structure Ends where
  nx : St → Hp → Prop
  rt : VK
  bk : St → Hp → Prop := fun _ _ => False
  ct : St → Hp → Prop := fun _ _ => False
abbrev TS := Ends → St → Hp → Prop

def EP (X : Cx) (pins : List (Addr × Obj)) (σ : St) (Q : VK) (u : Value) (s' : Shared) : Prop := ∃ v H', Inv X pins σ H' s' ∧ RelV v u ∧ Q v H'
def TP (X : Cx) (pins : List (Addr × Obj)) (σ : St) (Q : Bool → Hp → Prop) (b : Bool) (s' : Shared) : Prop := ∃ H', Inv X pins σ H' s' ∧ Q b H'
def AP (X : Cx) (pins : List (Addr × Obj)) (σ : St) (Q : List V → Hp → Prop) (us : List Value) (s' : Shared) : Prop := ∃ vs H', Inv X pins σ H' s' ∧ Vals vs us ∧ Q vs H'
def SP (X : Cx) (pins : List (Addr × Obj)) (D : Ends) (f : Flow) (s' : Shared) : Prop :=
  match f with
  | .next => ∃ σ' H', Inv X pins σ' H' s' ∧ D.nx σ' H'
  | .brk => ∃ σ' H', Inv X pins σ' H' s' ∧ D.bk σ' H'
  | .cont => ∃ σ' H', Inv X pins σ' H' s' ∧ D.ct σ' H'
  | .ret u => ∃ v σ' H', Inv X pins σ' H' s' ∧ RelV v u ∧ D.rt v H'

def PE (X : Cx) (e : Expr) (t : TE) : Prop :=
  ∀ (pins : List (Addr × Obj)) (s : Shared) (σ : St) (H : Hp) (Q : VK), Inv X pins σ H s → t σ H Q → wpAny (model X.prog X.w) X.A (eval e X.env) (EP X pins σ Q) X.xe s
def PT (X : Cx) (e : Expr) (t : TT) : Prop :=
  ∀ (pins : List (Addr × Obj)) (s : Shared) (σ : St) (H : Hp) (Q : Bool → Hp → Prop), Inv X pins σ H s → t σ H Q → wpAny (model X.prog X.w) X.A (isTrue e X.env (eval e X.env)) (TP X pins σ Q) X.xe s
/-- a test whatever its 'whole' is (and, or) -/
def PW (X : Cx) (e : Expr) (t : TT) : Prop :=
  ∀ (whole : Sem Value) (pins : List (Addr × Obj)) (s : Shared) (σ : St) (H : Hp) (Q : Bool → Hp → Prop), Inv X pins σ H s → t σ H Q → wpAny (model X.prog X.w) X.A (isTrue e X.env whole) (TP X pins σ Q) X.xe s
theorem PW.pt {X : Cx} {e : Expr} {t : TT} (h : PW X e t) : PT X e t := h _
/-- an argument list (no star), from the left -/
def PA (X : Cx) (es : List Expr) (t : TA) : Prop :=
  ∀ (pos : Pos) (pins : List (Addr × Obj)) (s : Shared) (σ : St) (H : Hp) (Q : List V → Hp → Prop), Inv X pins σ H s → t σ H Q → wpAny (model X.prog X.w) X.A (spliced (backTo pos (starEach es X.env))) (AP X pins σ Q) X.xe s
def PS (X : Cx) (st : Stmt) (t : TS) : Prop :=
  ∀ (pins : List (Addr × Obj)) (s : Shared) (σ : St) (H : Hp) (D : Ends), Inv X pins σ H s → t D σ H → wpAny (model X.prog X.w) X.A (exec st X.env) (SP X pins D) X.xe s
def PSs (X : Cx) (st : List Stmt) (t : TS) : Prop :=
  ∀ (pins : List (Addr × Obj)) (s : Shared) (σ : St) (H : Hp) (D : Ends), Inv X pins σ H s → t D σ H → wpAny (model X.prog X.w) X.A (execs st X.env) (SP X pins D) X.xe s
/-- weaken the end -/
theorem thn {α : Type} {t : Sem α} {Q Q' : α → Shared → Prop} {M : Model} {A : Around} {E : Value → Shared → Prop} {s : Shared} (h : wpAny M A t Q E s) (hQ : ∀ a s, Q a s → Q' a s) : wpAny M A t Q' E s := wpAny_mono h hQ fun _ _ x => x
end L2

namespace L2
open PySem PySem.Spec PyProof.Rows
section
variable {X : Cx}

/-- two expressions in a row -/
theorem bin {a b : Expr} {ta tb : TE} (ha : PE X a ta) (hb : PE X b tb) {pins : List (Addr × Obj)} {s : Shared} {σ : St} {H : Hp} {R : V → V → Hp → Prop} (I : Inv X pins σ H s) (h : ta σ H fun x H1 => tb σ H1 fun y H2 => R x y H2)
    {α : Type} {Q : α → Shared → Prop} {f : Value → Value → Sem α}
    (hf : ∀ v u s2 x y H2, Inv X pins σ H2 s2 → RelV x v → RelV y u → R x y H2 → wpAny (model X.prog X.w) X.A (f v u) Q X.xe s2) :
    wpAny (model X.prog X.w) X.A (eval a X.env) (fun v s₁ => wpAny (model X.prog X.w) X.A (eval b X.env) (fun u s₂ => wpAny (model X.prog X.w) X.A (f v u) Q X.xe s₂) X.xe s₁) X.xe s := by
  refine thn (ha pins s σ H _ I h) fun v s1 ⟨x, H1, I1, r1, q1⟩ => ?_
  refine thn (hb pins s1 σ H1 _ I1 q1) fun u s2 ⟨y, H2, I2, r2, q2⟩ => ?_
  exact hf v u s2 x y H2 I2 r1 r2 q2

/-! ### names and constants -/
def tVar (i : Nat) : TE := fun σ H Q => ∃ v, σ[i]? = some (some v) ∧ Q v H
def tC (v : V) : TE := fun _ H Q => Q v H
theorem pe_var {i : Nat} {x : Str} {pos : Pos} (hN : X.N[i]? = some x) (hv : Vis X.env.scope x) (hd : (x == ("__debug__" : Str)) = false := by decide) (hcd : (x == ("__classdict__" : Str)) = false := by decide) : PE X (.Name x pos) (tVar i) := by
  intro pins s σ H Q I h
  obtain ⟨v, e, h⟩ := h
  obtain ⟨m, hn, hl⟩ := I.loc
  obtain ⟨u, r, l⟩ := hl i x v hN e hv
  have fin : EP X pins σ Q u s := ⟨v, H, I, r, h⟩
  rcases l with ⟨hk, hm⟩ | ⟨hk, c, hc, hcell⟩
  · exact wpAny_Name (wpAny_loadName_local I.ok.kind hk hn hm fin) hd
  · rcases hk with hk | hk
    · exact wpAny_Name (wpAny_loadName_cell I.ok.kind hk hc hcell fin) hd
    · exact wpAny_Name (wpAny_loadName_free I.ok.kind hk hc hcell fin hcd) hd
theorem pe_int {i j pos} : PE X (.Constant (.int i) j pos) (tC (.int i)) := fun _ _ _ H _ I h => wpAny_Constant_int ⟨.int i, H, I.tok _, ⟨_, rfl⟩, h⟩
theorem pe_bl {b j pos} : PE X (.Constant (.bool b) j pos) (tC (.bl b)) := fun _ _ _ H _ I h => Constant_bool ⟨.bl b, H, I, rfl, h⟩
theorem pe_non {j pos} : PE X (.Constant .none j pos) (tC .non) := fun _ _ _ H _ I h => Constant_none ⟨.non, H, I, rfl, h⟩
theorem pe_str {x j pos} : PE X (.Constant (.str x) j pos) (tC (.str x)) := fun _ _ _ H _ I h => Calls.Constant_str ⟨.str x, H, I.tok _, ⟨_, rfl⟩, h⟩

/-- a global name of the def -/
def Gl (X : Cx) (x : Str) : Prop := X.env.kindOf x = some .globalImplicit
theorem ld_glob {E : Value → Shared → Prop} {pins : List (Addr × Obj)} {s : Shared} {σ : St} {H : Hp} {x : Str} {u : Value} {pos : Pos} {Q : Value → Shared → Prop} (I : Inv X pins σ H s) (hg : Gl X x) (hm : X.mg x = some u) (h : Q u s)
    (hd : (x == ("__debug__" : Str)) = false := by decide) : wpAny (model X.prog X.w) X.A (eval (.Name x pos) X.env) Q E s :=
  Calls.Name_function_global I.ok.kind hg (Calls.loadGlobal_global (by rw [I.ok.glob]; exact I.mod.glob.keeps I.bk) hm h) hd
theorem ld_blt {E : Value → Shared → Prop} {pins : List (Addr × Obj)} {s : Shared} {σ : St} {H : Hp} {x : Str} {u : Value} {pos : Pos} {Q : Value → Shared → Prop} (I : Inv X pins σ H s) (hg : Gl X x) (hm : X.mg x = none) (hv : bootBuiltins x = some u) (h : Q u s)
    (hn : x ≠ "__name__" := by decide) (hd : (x == ("__debug__" : Str)) = false := by decide) : wpAny (model X.prog X.w) X.A (eval (.Name x pos) X.env) Q E s := by
  obtain ⟨mb, h1, h2⟩ := I.mod.blt
  exact Calls.Name_function_global I.ok.kind hg (Calls.loadGlobal_builtin (by rw [I.ok.glob]; exact I.mod.glob.keeps I.bk) hm (by rw [I.ok.blt]; exact h1.keeps I.bk) ((h2 x hn).trans hv) h) hd
/-- a module's constant, a class, a function, as a value -/
theorem pe_glob {x : Str} {v : V} {u : Value} {pos : Pos} (hg : Gl X x) (hm : X.mg x = some u) (r : RelV v u) (hd : (x == ("__debug__" : Str)) = false := by decide) : PE X (.Name x pos) (tC v) :=
  fun _ _ _ H _ I h => ld_glob I hg hm ⟨v, H, I, r, h⟩ hd
theorem pe_bltn {x : Str} {v : V} {u : Value} {pos : Pos} (hg : Gl X x) (hm : X.mg x = none) (hv : bootBuiltins x = some u) (r : RelV v u) (hn : x ≠ "__name__" := by decide) (hd : (x == ("__debug__" : Str)) = false := by decide) : PE X (.Name x pos) (tC v) :=
  fun _ _ _ H _ I h => ld_blt I hg hm hv ⟨v, H, I, r, h⟩ hn hd

/-! ### arithmetic -/
/-- two ints -/
def t2I (ta tb : TE) (k : Int → Int → Hp → Prop) : St → Hp → Prop := fun σ H => ta σ H fun x H1 => tb σ H1 fun y H2 => ∃ i j, x = .int i ∧ y = .int j ∧ k i j H2
def tAdd (ta tb : TE) : TE := fun σ H Q => t2I ta tb (fun i j H2 => Q (.int (i + j)) H2) σ H
def tSub (ta tb : TE) : TE := fun σ H Q => t2I ta tb (fun i j H2 => Q (.int (i - j)) H2) σ H
/-- the left factor below 2^64 -/
def tMul (ta tb : TE) : TE := fun σ H Q => t2I ta tb (fun i j H2 => (-(2 ^ 64) < i ∧ i < 2 ^ 64) ∧ Q (.int (i * j)) H2) σ H
variable {a b : Expr} {ta tb : TE} {pos : Pos}
/-! ### comparisons -/
def PC (X : Cx) (op : CmpOp) (a b : Expr) (t : TE) : Prop :=
  ∀ (pins : List (Addr × Obj)) (s : Shared) (σ : St) (H : Hp) (Q : VK), Inv X pins σ H s → t σ H Q →
    wpAny (model X.prog X.w) X.A (eval a X.env) (fun v s₁ => wpAny (model X.prog X.w) X.A (eval b X.env) (fun u s₂ => wpAny (model X.prog X.w) X.A (compareOp op v u) (EP X pins σ Q) X.xe s₂) X.xe s₁) X.xe s
def tCmp (p : Int → Int → Bool) (ta tb : TE) : TE := fun σ H Q => t2I ta tb (fun i j H2 => Q (.bl (p i j)) H2) σ H
abbrev tLt : TE → TE → TE := tCmp fun i j => decide (i < j)
abbrev tLe : TE → TE → TE := tCmp fun i j => decide (i ≤ j)
abbrev tGt : TE → TE → TE := tCmp fun i j => decide (j < i)
abbrev tGe : TE → TE → TE := tCmp fun i j => decide (j ≤ i)
abbrev tEqI : TE → TE → TE := tCmp fun i j => decide (i = j)
abbrev tNeI : TE → TE → TE := tCmp fun i j => !decide (i = j)
/-- is None -/
def tIsN (ta : TE) : TE := fun σ H Q => ta σ H fun x H1 => Q (.bl (decide (x = .non))) H1
def tNotN (ta : TE) : TE := fun σ H Q => ta σ H fun x H1 => Q (.bl (!decide (x = .non))) H1
/-- a comparison as a value, as a test -/
def tB (t : TE) : TT := fun σ H Q => t σ H fun x H1 => ∃ c, x = .bl c ∧ Q c H1
theorem pt_cmp {op : CmpOp} {t : TE} (h : PC X op a b t) (h1 : behindInMarks op b = false := by first | exact nobehind _ (by decide) (by decide) | rfl) : PT X (.Compare a [op] [b] pos) (tB t) := by
  intro pins s σ H Q I hw
  refine wpAny_isTrue_Compare1 (thn (h pins s σ H _ I hw) fun v s1 h1 => thn h1 fun u s2 h2 => thn h2 fun c s3 ⟨x, H1, I1, r1, q1⟩ => ?_) h1
  obtain ⟨d, rfl, q⟩ := q1
  cases r1
  exact wpAny_truthy_bool ⟨H1, I1, q⟩
/-- an expression whose value is a bool, as a test -/
theorem pt_val {e : Expr} {t : TE} (h : PE X e t) (he : ∀ whole, isTrue e X.env whole = (do let v ← whole; standAt e.pos; holding [v] (truthy v)) := by intro _; rfl) : PT X e (tB t) := by
  intro pins s σ H Q I hw
  refine isTrue_plain (thn (h pins s σ H _ I hw) fun v s1 ⟨x, H1, I1, r1, q1⟩ => ?_) (he _)
  obtain ⟨d, rfl, q⟩ := q1
  cases r1
  exact wpAny_truthy_bool ⟨H1, I1, q⟩

/-! ### and, or, not -/
variable {tA tB' : TT} {rest : List Expr}
def tAnd (t u : TT) : TT := fun σ H Q => t σ H fun c H1 => if c = true then u σ H1 Q else Q false H1
def tOr (t u : TT) : TT := fun σ H Q => t σ H fun c H1 => if c = true then Q true H1 else u σ H1 Q
def tNot (t : TT) : TT := fun σ H Q => t σ H fun c H1 => Q (!c) H1
theorem pw_and1 (ha : PT X a tA) : PW X (.BoolOp .And [a] pos) tA := by
  intro wh pins s σ H Q I h
  refine isTrue_and (thn (ha pins s σ H Q I h) fun c s1 e => ?_)
  cases c with
  | true => exact isTrue_and_nil e
  | false => exact e
theorem pw_or1 (ha : PT X a tA) : PW X (.BoolOp .Or [a] pos) tA := by
  intro wh pins s σ H Q I h
  refine isTrue_or (thn (ha pins s σ H Q I h) fun c s1 e => ?_)
  cases c with
  | false => exact isTrue_or_nil e
  | true => exact e
theorem pw_and (ha : PT X a tA) (hb : PW X (.BoolOp .And (b :: rest) pos) tB') : PW X (.BoolOp .And (a :: b :: rest) pos) (tAnd tA tB') := by
  intro wh pins s σ H Q I h
  refine isTrue_and (thn (ha pins s σ H _ I h) fun c s1 ⟨H1, I1, q1⟩ => ?_)
  cases c with
  | true => exact hb wh pins s1 σ H1 Q I1 q1
  | false => exact ⟨H1, I1, q1⟩
theorem pw_or (ha : PT X a tA) (hb : PW X (.BoolOp .Or (b :: rest) pos) tB') : PW X (.BoolOp .Or (a :: b :: rest) pos) (tOr tA tB') := by
  intro wh pins s σ H Q I h
  refine isTrue_or (thn (ha pins s σ H _ I h) fun c s1 ⟨H1, I1, q1⟩ => ?_)
  cases c with
  | true => exact ⟨H1, I1, q1⟩
  | false => exact hb wh pins s1 σ H1 Q I1 q1
theorem pt_not (ha : PT X a tA) : PT X (.UnaryOp .Not a pos) (tNot tA) := by
  intro pins s σ H Q I h
  exact isTrue_not (ha pins s σ H (fun c H1 => Q (!c) H1) I h)
/-- .. as values (bools) -/
def tAndV (ta tb : TE) : TE := fun σ H Q => ta σ H fun x H1 => ∃ c, x = .bl c ∧ if c = true then tb σ H1 Q else Q (.bl false) H1
def tOrV (ta tb : TE) : TE := fun σ H Q => ta σ H fun x H1 => ∃ c, x = .bl c ∧ if c = true then Q (.bl true) H1 else tb σ H1 Q
def tNotV (ta : TE) : TE := fun σ H Q => ta σ H fun x H1 => ∃ c, x = .bl c ∧ Q (.bl (!c)) H1
theorem pe_one {op} {t : TE} (h : PE X a t) : PE X (.BoolOp op [a] pos) t := fun pins s σ H Q I hw => BoolOp_one (h pins s σ H Q I hw)
theorem pe_and (ha : PE X a ta) (hb : PE X (.BoolOp .And (b :: rest) pos) tb) : PE X (.BoolOp .And (a :: b :: rest) pos) (tAndV ta tb) := by
  intro pins s σ H Q I h
  refine BoolOp_and (thn (ha pins s σ H _ I h) fun v s1 ⟨x, H1, I1, r1, q1⟩ => ?_)
  obtain ⟨c, rfl, q1⟩ := q1
  cases r1
  refine wpAny_truthy_bool ?_
  cases c with
  | true => exact hb pins s1 σ H1 Q I1 q1
  | false => exact ⟨.bl false, H1, I1, rfl, q1⟩
theorem pe_not (ha : PE X a ta) : PE X (.UnaryOp .Not a pos) (tNotV ta) := by
  intro pins s σ H Q I h
  refine UnaryOp_ (thn (ha pins s σ H _ I h) fun v s1 ⟨x, H1, I1, r1, q1⟩ => ?_)
  obtain ⟨c, rfl, q1⟩ := q1
  cases r1
  exact not_of (wpAny_truthy_bool ⟨.bl (!c), H1, I1, rfl, q1⟩)
/-- a if t else b -/
def tIf (t : TT) (ta tb : TE) : TE := fun σ H Q => t σ H fun c H1 => if c = true then ta σ H1 Q else tb σ H1 Q
end
end L2

namespace L2
open PySem PySem.Spec PyProof.Rows

/-! ### a list, a tuple that is read: tracked, frozen, or an object of the module -/
def SqL (K : PySem.W.Frag) (H : Hp) (a : Addr) (xs : List V) : Prop :=
  Rd H a (.lst xs) ∨
    ∃ (o : Obj) (its : Array Value) (n : Nat), K.lookup a = some o ∧ o.cls = .type "list" ∧ o.dict = none ∧ o.data = .seq its n ∧ its.size ≤ sizeLine ∧ Vals xs its.toList
def SqT (K : PySem.W.Frag) (H : Hp) (a : Addr) (xs : List V) : Prop :=
  Rd H a (.tup xs) ∨
    ∃ (o : Obj) (its : Array Value) (n : Nat), K.lookup a = some o ∧ o.cls = .type "tuple" ∧ o.data = .seq its n ∧ its.size ≤ sizeLine ∧ Vals xs its.toList
def absV : Value → Option V
  | .none => some .non
  | .bool b => some (.bl b)
  | .int i _ => some (.int i)
  | .str x _ => some (.str x)
  | .bytes b _ => some (.byt b)
  | .float b _ => some (.flt b)
  | .ref a => some (.ref a)
  | .type n => some (.ty n)
  | _ => none
theorem RelV.abs {x : V} {u : Value} (r : RelV x u) : absV u = some x := by
  cases x with
  | non => cases r; rfl
  | bl _ => cases r; rfl
  | int _ => obtain ⟨t, rfl⟩ := r; rfl
  | str _ => obtain ⟨t, rfl⟩ := r; rfl
  | byt _ => obtain ⟨t, rfl⟩ := r; rfl
  | flt _ => obtain ⟨t, rfl⟩ := r; rfl
  | ref _ => cases r; rfl
  | ty _ => cases r; rfl
theorem RelV.inj {x y : V} {u : Value} (r : RelV x u) (q : RelV y u) : x = y := Option.some.inj (r.abs.symm.trans q.abs)
theorem Vals.inj : ∀ {xs ys : List V} {us : List Value}, Vals xs us → Vals ys us → xs = ys
  | _, _, _, .nil, .nil => rfl
  | _, _, _, .cons r t, .cons r' t' => by rw [r.inj r', Vals.inj t t']
section
variable {X : Cx} {pins : List (Addr × Obj)} {σ : St} {H : Hp} {s : Shared} {a : Addr} {xs ys : List V}
theorem SqL.of {K : PySem.W.Frag} (h : H a = some (.lst xs)) : SqL K H a xs := .inl (.inl h)
theorem SqT.of {K : PySem.W.Frag} (h : H a = some (.tup xs)) : SqT K H a xs := .inl (.inl h)
theorem Inv.list (I : Inv X pins σ H s) (h : SqL X.K H a xs) : ∃ its : List Value, Vals xs its ∧ PlainL s.heap a its.toArray ∧ xs.length ≤ sizeLine := by
  rcases h with h | ⟨o, its, n, hk, hc, hd, hs, hz, r⟩
  · obtain ⟨z, its, n, r, e⟩ := h.ok I.hok
    exact ⟨its, r, ⟨_, n, e, rfl, rfl, rfl⟩, z⟩
  · refine ⟨its.toList, r, ⟨o, n, I.kIn a o hk, hc, hd, by simpa using hs⟩, ?_⟩
    have e := r.length
    simp only [Array.length_toList] at e
    omega
theorem Inv.tuple (I : Inv X pins σ H s) (h : SqT X.K H a xs) : ∃ its : List Value, Vals xs its ∧ IsTup s.heap a its.toArray ∧ xs.length ≤ sizeLine := by
  rcases h with h | ⟨o, its, n, hk, hc, hs, hz, r⟩
  · obtain ⟨z, its, r, p⟩ := h.ok I.hok
    exact ⟨its, r, p, z⟩
  · refine ⟨its.toList, r, ⟨o, I.kIn a o hk, hc, n, by simpa using hs⟩, ?_⟩
    have e := r.length
    simp only [Array.length_toList] at e
    omega
theorem Inv.list_inj (I : Inv X pins σ H s) (h : SqL X.K H a xs) (h' : SqL X.K H a ys) : xs = ys := by
  obtain ⟨its, r, ⟨o, n, e, _, _, d⟩, _⟩ := I.list h
  obtain ⟨its', r', ⟨o', n', e', _, _, d'⟩, _⟩ := I.list h'
  rw [e] at e'; cases e'
  rw [d] at d'
  injection d' with d1 _
  have : its = its' := by simpa using congrArg Array.toList d1
  subst this
  exact r.inj r'
theorem Inv.tuple_inj (I : Inv X pins σ H s) (h : SqT X.K H a xs) (h' : SqT X.K H a ys) : xs = ys := by
  obtain ⟨its, r, ⟨o, e, _, n, d⟩, _⟩ := I.tuple h
  obtain ⟨its', r', ⟨o', e', _, n', d'⟩, _⟩ := I.tuple h'
  rw [e] at e'; cases e'
  rw [d] at d'
  injection d' with d1 _
  have : its = its' := by simpa using congrArg Array.toList d1
  subst this
  exact r.inj r'
end

/-! ### another wish about exceptions -/
abbrev Cx.wish (X : Cx) (E : Value → Shared → Prop) : Cx := { X with xe := E }
/-- no exception leaves -/
abbrev Cx.nox (X : Cx) : Cx := X.wish fun _ _ => False
theorem Cx.Ok.wish {X : Cx} (ok : X.Ok) (E : Value → Shared → Prop) : (X.wish E).Ok :=
  ⟨ok.mod, ok.kind, ok.glob, ok.blt, ok.above, ok.inj, ok.has, ok.cab, ok.hd, ok.frames, ok.stk, ok.exf, ok.bs, ok.bsz, ok.noex, ok.exfs, ok.funs, ok.frf⟩
theorem Cx.Ok.unwish {X : Cx} {E : Value → Shared → Prop} (ok : (X.wish E).Ok) : X.Ok :=
  ⟨ok.mod, ok.kind, ok.glob, ok.blt, ok.above, ok.inj, ok.has, ok.cab, ok.hd, ok.frames, ok.stk, ok.exf, ok.bs, ok.bsz, ok.noex, ok.exfs, ok.funs, ok.frf⟩
section
variable {X : Cx} {pins : List (Addr × Obj)} {σ : St} {H : Hp} {s : Shared} {E : Value → Shared → Prop}
theorem Inv.wish (I : Inv X pins σ H s) (E : Value → Shared → Prop) : Inv (X.wish E) pins σ H s := ⟨I.ok.wish E, I.os, I.bare, I.base, I.loc, I.cell, I.free, I.freeC, I.pin, I.hok, I.len⟩
theorem Inv.unwish (I : Inv (X.wish E) pins σ H s) : Inv X pins σ H s := ⟨I.ok.unwish, I.os, I.bare, I.base, I.loc, I.cell, I.free, I.freeC, I.pin, I.hok, I.len⟩
theorem SP.unwish {D : Ends} {f : Flow} {s' : Shared} (h : SP (X.wish E) pins D f s') : SP X pins D f s' := by
  cases f with
  | next => obtain ⟨σ', H', I, q⟩ := h; exact ⟨σ', H', I.unwish, q⟩
  | brk => obtain ⟨σ', H', I, q⟩ := h; exact ⟨σ', H', I.unwish, q⟩
  | cont => obtain ⟨σ', H', I, q⟩ := h; exact ⟨σ', H', I.unwish, q⟩
  | ret u => obtain ⟨v, σ', H', I, r, q⟩ := h; exact ⟨v, σ', H', I.unwish, r, q⟩
theorem PSs.nox {st : List Stmt} {t : TS} (h : PSs X.nox st t) : PSs X st t := fun pins s σ H D I hw =>
  wpAny_mono (h pins s σ H D (I.wish _) hw) (fun _ _ q => q.unwish) fun _ _ z => False.elim z
end

/-! ### blocks and small statements -/
section
variable {X : Cx} {st : Stmt} {rest : List Stmt} {t u : TS} {e : Expr} {te : TE} {pos : Pos}
def tNext : TS := fun D σ H => D.nx σ H
def tSeq (t u : TS) : TS := fun D σ H => t { D with nx := u D } σ H
theorem pss_nil : PSs X [] tNext := fun _ _ σ H _ I h => wpAny_execs_nil ⟨σ, H, I, h⟩
theorem pss_cons (h1 : PS X st t) (h2 : PSs X rest u) : PSs X (st :: rest) (tSeq t u) := by
  intro pins s σ H D I h
  refine wpAny_execs_cons (thn (h1 pins s σ H { D with nx := u D } I h) fun f s1 q => ?_)
  cases f with
  | next =>
    obtain ⟨σ', H', I', q⟩ := q
    exact h2 pins s1 σ' H' D I' q
  | ret v => exact q
  | brk => exact q
  | cont => exact q
theorem pss_one (h1 : PS X st t) : PSs X [st] t := by
  intro pins s σ H D I h
  refine wpAny_execs_cons (thn (h1 pins s σ H D I h) fun f s1 q => ?_)
  cases f with
  | next => exact wpAny_execs_nil q
  | ret v => exact q
  | brk => exact q
  | cont => exact q
def tBreak : TS := fun D σ H => D.bk σ H
def tCont : TS := fun D σ H => D.ct σ H
/-- in a def's body nothing is shown -/
theorem Inv.quiet {pins : List (Addr × Obj)} {σ : St} {H : Hp} {s : Shared} (I : Inv X pins σ H s) : interactive X.env = false := by simp [interactive, I.ok.kind]
/-- an expression whose value is dropped -/
def tDrop (te : TE) : TS := fun D σ H => te σ H fun _ H1 => D.nx σ H1
theorem ps_expr (he : PE X e te) (hs : swapsWith e none pos.line X.env = pure false := by rfl) : PS X (.Expr e pos) (tDrop te) := by
  intro pins s σ H D I h
  exact wpAny_Expr_any (thn (he pins s σ H _ I h) fun v s1 ⟨x, H1, I1, r1, q1⟩ => ⟨σ, H1, I1, q1⟩) I.quiet hs
def tRet (te : TE) : TS := fun D σ H => te σ H D.rt
theorem ps_ret (he : PE X e te) : PS X (.Return (some e) pos) (tRet te) := by
  intro pins s σ H D I h
  exact wpAny_Return_some (thn (he pins s σ H _ I h) fun v s1 ⟨x, H1, I1, r1, q1⟩ => ⟨x, σ, H1, I1, r1, q1⟩)
def tRetN : TS := fun D _ H => D.rt .non H
def tIfS (c : TT) (t u : TS) : TS := fun D σ H => c σ H fun b H1 => if b = true then t D σ H1 else u D σ H1
theorem ps_if {c : Expr} {a b : List Stmt} {tc : TT} (hc : PT X c tc) (ha : PSs X a t) (hb : PSs X b u) : PS X (.If c a b pos) (tIfS tc t u) := by
  intro pins s σ H D I h
  refine wpAny_If (thn (hc pins s σ H _ I h) fun d s1 ⟨H1, I1, q1⟩ => ?_)
  cases d with
  | true => exact ha pins s1 σ H1 D I1 q1
  | false => exact hb pins s1 σ H1 D I1 q1
/-- code that the proof never comes to -/
def tNever : TS := fun _ _ _ => False
theorem ps_never : PS X st tNever := fun _ _ _ _ _ _ h => h.elim
end

/-! ### targets -/
abbrev TG := V → St → Hp → (St → Hp → Prop) → Prop
abbrev TGs := List V → St → Hp → (St → Hp → Prop) → Prop
def PG (X : Cx) (target : Expr) (t : TG) : Prop :=
  ∀ (pins : List (Addr × Obj)) (s : Shared) (σ : St) (H : Hp) (v : V) (u : Value) (Q : St → Hp → Prop), Inv X pins σ H s → RelV v u → t v σ H Q →
    wpAny (model X.prog X.w) X.A (assign target X.env u) (fun _ s' => ∃ σ' H', Inv X pins σ' H' s' ∧ Q σ' H') X.xe s
/-- several targets, one after another -/
def PGs (X : Cx) (ts : List Expr) (t : TGs) : Prop :=
  ∀ (pins : List (Addr × Obj)) (s : Shared) (σ : St) (H : Hp) (vs : List V) (us : List Value) (Q : St → Hp → Prop), Inv X pins σ H s → Vals vs us → t vs σ H Q →
    wpAny (model X.prog X.w) X.A (assignInOrder ((assignEach ts X.env).map (·.2)) us) (fun _ s' => ∃ σ' H', Inv X pins σ' H' s' ∧ Q σ' H') X.xe s
/-- o[i] = v, by values -/
abbrev TSet := V → V → V → Hp → (Hp → Prop) → Prop
def PSet (X : Cx) (t : TSet) : Prop :=
  ∀ (pins : List (Addr × Obj)) (s : Shared) (σ : St) (H : Hp) (o i v : V) (ov iv u : Value) (Q : Hp → Prop), Inv X pins σ H s → RelV o ov → RelV i iv → RelV v u → t o i v H Q →
    wpAny (model X.prog X.w) X.A (setItem ov iv u) (fun _ s' => ∃ H', Inv X pins σ H' s' ∧ Q H') X.xe s
/-- a op= b, by values -/
abbrev TIp := V → V → Hp → VK → Prop
def PIp (X : Cx) (op : Operator) (t : TIp) : Prop :=
  ∀ (pins : List (Addr × Obj)) (s : Shared) (σ : St) (H : Hp) (x y : V) (v u : Value) (Q : VK), Inv X pins σ H s → RelV x v → RelV y u → t x y H Q →
    wpAny (model X.prog X.w) X.A (inplaceOp op v u) (EP X pins σ Q) X.xe s
section
variable {X : Cx} {pos : Pos}
def gName (i : Nat) : TG := fun v σ H Q => Q (σ.set i (some v)) H
theorem pg_name {i : Nat} {x : Str} (hN : X.N.Nodup) (hi : X.N[i]? = some x) (hx : Loc X.env.scope x) (hf : X.fn x = true ∨ X.env.scope.names.lookup x = some .local := by first | exact .inl rfl | exact .inr rfl | assumption) : PG X (.Name x pos) (gName i) := by
  intro pins s σ H v u Q I r h
  exact wpAny_assign_Name (store_ok I hN hi hx r (fun s' I' => ⟨_, H, I', h⟩) hf)
def gNil : TGs := fun vs σ H Q => vs = [] ∧ Q σ H
def gCons (t : TG) (u : TGs) : TGs := fun vs σ H Q => ∃ v r, vs = v :: r ∧ t v σ H fun σ' H' => u r σ' H' Q
theorem pgs_nil : PGs X [] gNil := by
  intro pins s σ H vs us Q I r h
  obtain ⟨e, h⟩ := h
  subst e
  cases r
  exact assignInOrder_nil ⟨σ, H, I, h⟩
theorem pgs_cons {e : Expr} {es : List Expr} {t : TG} {u : TGs} (h1 : PG X e t) (h2 : PGs X es u)
    (hs : (assignEach (e :: es) X.env).map (·.2) = assign e X.env :: (assignEach es X.env).map (·.2) := by rfl) : PGs X (e :: es) (gCons t u) := by
  intro pins s σ H vs us Q I r h
  obtain ⟨v, vr, e1, h⟩ := h
  subst e1
  cases r with
  | cons r rr =>
    rw [hs]
    refine assignInOrder_cons (thn (h1 pins s σ H _ _ _ I r h) fun _ s1 ⟨σ1, H1, I1, q1⟩ => ?_)
    exact h2 pins s1 σ1 H1 _ _ Q I1 rr q1
/-- (a, b, ..) = a tuple of that length -/
def gTup (K : PySem.W.Frag) (n : Nat) (t : TGs) : TG := fun v σ H Q => ∃ a xs, v = .ref a ∧ SqT K H a xs ∧ xs.length = n ∧ t xs σ H Q
theorem pg_tup {es : List Expr} {k : Nat} {t : TGs} {n : Nat} (hc : X.calm = true) (h : PGs X es t)
    (hn : (assignEach es X.env).length = n := by rfl) (hst : (assignEach es X.env).findIdx? (·.1) = none := by rfl) : PG X (.Tuple es k pos) (gTup X.K n t) := by
  intro pins s σ H v u Q I r hw
  obtain ⟨a, xs, e1, hq, hl, hw⟩ := hw
  subst e1
  cases r
  obtain ⟨its, rv, ht, hz⟩ := I.tuple hq
  refine assign_Tuple_tuple (I.ok.hd hc) ht (by simp [hn, ← hl, rv.length]) hst fun h' hx => ?_
  have I1 : Inv X pins σ H { s with heap := h' } := I.kept (t' := s.toks) fun b o e => hx b o (Nat.ne_of_lt (Heap.lt_size e)) e
  exact h pins _ σ H xs _ Q I1 (by simpa using rv) hw
/-- o[i] = .. -/
def gSub (to ti : TE) (t : TSet) : TG := fun v σ H Q => to σ H fun o H1 => ti σ H1 fun i H2 => t o i v H2 fun H3 => Q σ H3
theorem pg_sub {o i : Expr} {to ti : TE} {t : TSet} (ho : PE X o to) (hi : PE X i ti) (hs : PSet X t)
    (ha : ∀ v, assign (.Subscript o i pos) X.env v = (do
      let ov ← holding [v] (eval o X.env)
      let iv ← holding [v, ov] (eval i X.env)
      standAt pos
      holding [v, ov, iv] (setItem ov iv v)
      release [v, ov, iv] []) := by intro _; rfl) : PG X (.Subscript o i pos) (gSub to ti t) := by
  intro pins s σ H v u Q I r h
  rw [ha]
  refine wpAny_bind (wpAny_holding (thn (ho pins s σ H _ I h) fun ov s1 ⟨x, H1, I1, r1, q1⟩ => ?_))
  refine wpAny_bind (wpAny_holding (thn (hi pins s1 σ H1 _ I1 q1) fun iv s2 ⟨y, H2, I2, r2, q2⟩ => ?_))
  refine wpAny_bind (wpAny_standAt (wpAny_bind (wpAny_holding (thn (hs pins s2 σ H2 x y v ov iv u _ I2 r1 r2 r q2) fun _ s3 ⟨H3, I3, q3⟩ => ?_))))
  exact wpAny_release ⟨σ, H3, I3, q3⟩
/-- target = value -/
def tAsg (te : TE) (g : TG) : TS := fun D σ H => te σ H fun x H1 => g x σ H1 D.nx
theorem ps_asg {tg e : Expr} {te : TE} {g : TG} (he : PE X e te) (hg : PG X tg g) (hs : swapsWithSole [tg] e pos.line X.env = pure false := by rfl) (hw : swappedStores [tg] e X.env = pure none := by rfl)
    (h1 : (assignEach [tg] X.env).map (·.2) = [assign tg X.env] := by rfl) : PS X (.Assign [tg] e pos) (tAsg te g) := by
  intro pins s σ H D I h
  refine wpAny_Assign_stores (thn (he pins s σ H _ I h) fun v s1 ⟨x, H1, I1, r1, q1⟩ => ?_) hs hw
  rw [h1]
  exact thn (hg pins s1 σ H1 x v _ I1 r1 q1) fun _ s2 q => q
/-- name = value -/
theorem ps_set {i : Nat} {x : Str} {e : Expr} {te : TE} {pos' : Pos} (hN : X.N.Nodup) (hi : X.N[i]? = some x) (hx : Loc X.env.scope x) (he : PE X e te) (hs : swapsWith e (some (.Name x pos')) pos.line X.env = pure false := by rfl) (hf : X.fn x = true ∨ X.env.scope.names.lookup x = some .local := by first | exact .inl rfl | exact .inr rfl | assumption) :
    PS X (.Assign [.Name x pos'] e pos) (tAsg te (gName i)) := by
  intro pins s σ H D I h
  refine wpAny_Assign_Name (thn (he pins s σ H _ I h) fun v s1 ⟨y, H1, I1, r1, q1⟩ => ?_) hs
  exact store_ok I1 hN hi hx r1 (fun s2 I2 => ⟨_, H1, I2, q1⟩) hf
/-- a, b = x, y with plain local names: stored from the right; the pair itself is not tracked (the opening rows as in PyProof/Rows/TupAssign.lean:23) -/
def tPar (i j : Nat) (ta : TA) : TS := fun D σ H => ta σ H fun vs H1 => ∃ v w, vs = [v, w] ∧ D.nx ((σ.set i (some v)).set j (some w)) H1
theorem ps_par {i j : Nat} {x y : Str} {a b : Expr} {ta : TA} {px py pt : Pos} {kt k2 pt2} (hc : X.calm = true) (hN : X.N.Nodup) (hi : X.N[i]? = some x) (hj : X.N[j]? = some y) (hij : i ≠ j)
    (hx : X.env.scope.names.lookup x = some .local) (hy : X.env.scope.names.lookup y = some .local) (ha : PA X [a, b] ta)
    (hw : swappedStores [.Tuple [.Name x px, .Name y py] kt pt] (.Tuple [a, b] k2 pt2) X.env = pure (some [x, y]))
    (hs : swapsWithSole [.Tuple [.Name x px, .Name y py] kt pt] (.Tuple [a, b] k2 pt2) pos.line X.env = pure false := by rfl) :
    PS X (.Assign [.Tuple [.Name x px, .Name y py] kt pt] (.Tuple [a, b] k2 pt2) pos) (tPar i j ta) := by
  intro pins s σ H D I h
  rw [exec_Assign_arm]
  refine wpAny_bind (wpAny_standAt ?_)
  rw [hs]
  refine wpAny_bind (wpAny_pure ?_)
  rw [if_neg (by decide)]
  refine wpAny_bind (Tuple_ (thn (ha _ pins s σ H _ I h) fun us s1 ⟨vs, H1, I1, r1, q1⟩ => ?_))
  obtain ⟨v, w, e1, q1⟩ := q1
  subst e1
  obtain ⟨u1, u2, rfl, rv, rw'⟩ : ∃ u1 u2, us = [u1, u2] ∧ RelV v u1 ∧ RelV w u2 := by
    cases r1 with
    | cons p q =>
      cases q with
      | cons p' q' =>
        cases q'
        exact ⟨_, _, rfl, p, p'⟩
  refine wpAny_newObj_type ?_ (by show 2 ≤ sizeLine; decide)
  have I2 : Inv X pins σ H1 { s1 with heap := s1.heap.push { cls := .type "tuple", data := .seq [u1, u2].toArray } } := I1.kept (t' := s1.toks) fun b o e => Heap.get?_push_of_some _ e
  rw [hw]
  refine wpAny_bind (wpAny_pure ?_)
  show wpAny (model X.prog X.w) X.A (do rule "assign.swapped-stores"; let items ← unpackItems (.ref s1.heap.objs.size) 2 none; assignInOrder [fun v => bindName X.env y v, fun v => bindName X.env x v] items.reverse; pure Flow.next) _ _ _
  refine wpAny_bind (wpAny_rule (wpAny_bind (unpackItems_tuple (items := #[u1, u2]) (I.ok.hd hc) (IsTup.new s1.heap _) fun h' hx' => ?_)))
  have I3 := I2.kept (h' := h') (t' := s1.toks) fun b o e => hx' b o (Nat.ne_of_lt (Heap.lt_size e)) e
  show wpAny _ _ (assignInOrder [fun v => bindName X.env y v, fun v => bindName X.env x v] [u2, u1] >>= fun _ => pure Flow.next) _ _ _
  refine wpAny_bind (assignInOrder_cons (wpAny_bindName (store_ok I3 hN hj (.inl hy) rw' (fun s2 I4 => ?_) (.inr hy))))
  refine assignInOrder_cons (wpAny_bindName (store_ok I4 hN hi (.inl hx) rv (fun s3 I5 => assignInOrder_nil (wpAny_pure ?_)) (.inr hx)))
  rw [List.set_comm _ _ (Ne.symm hij)] at I5
  exact ⟨_, H1, I5, q1⟩
/-- name op= e -/
def tAug (i : Nat) (te : TE) (ti : TIp) : TS := fun D σ H => ∃ x, σ[i]? = some (some x) ∧ te σ H fun y H1 => ti x y H1 fun z H2 => D.nx (σ.set i (some z)) H2
/-- o[i] op= e -/
def tAugS (to ti te : TE) (tget : V → V → Hp → VK → Prop) (tip : TIp) (tset : TSet) : TS := fun D σ H => to σ H fun o H1 => ti σ H1 fun i H2 => tget o i H2 fun x H3 => te σ H3 fun y H4 => tip x y H4 fun z H5 => tset o i z H5 fun H6 => D.nx σ H6
/-- o[i], by values -/
def PGet (X : Cx) (t : V → V → Hp → VK → Prop) : Prop :=
  ∀ (pins : List (Addr × Obj)) (s : Shared) (σ : St) (H : Hp) (o i : V) (ov iv : Value) (Q : VK), Inv X pins σ H s → RelV o ov → RelV i iv → t o i H Q →
    wpAny (model X.prog X.w) X.A (getItem ov iv) (EP X pins σ Q) X.xe s
/-- ints -/
def ipI (f : Int → Int → Int) : TIp := fun x y H Q => ∃ i j, x = .int i ∧ y = .int j ∧ Q (.int (f i j)) H
end

/-! ### while -/
section
variable {X : Cx} {pos : Pos}
/-- the invariant W with its measure -/
def tWhile (c : TT) (tb : TS) : TS := fun D σ H => ∃ W : Nat → St → Hp → Prop, (∃ m, W m σ H) ∧ ∀ m σ H, W m σ H →
  c σ H fun b H1 => if b = true then ∃ N : St → Hp → Prop, (∀ σ' H', N σ' H' → ∃ m', m' < m ∧ W m' σ' H') ∧ tb { D with nx := N, ct := N, bk := D.nx } σ H1 else D.nx σ H1
theorem ps_while {c : Expr} {body : List Stmt} {tc : TT} {tb : TS} (hp : PassesOwn (model X.prog X.w) X.A X.env X.xe) (hc : PT X c tc) (hb : PSs X body tb) : PS X (.While c body [] pos) (tWhile tc tb) := by
  intro pins s σ H D I h
  obtain ⟨W, ⟨m0, w0⟩, turn⟩ := h
  refine wpAny_While (codeAny_whileLoop (fun n s' => ∃ σ' H', Inv X pins σ' H' s' ∧ W n σ' H') ?_ m0 ⟨σ, H, I, w0⟩)
  rintro n s1 ⟨σ1, H1, I1, w1⟩
  refine wpAny_passesOwn hp (thn (hc pins s1 σ1 H1 _ I1 (turn n σ1 H1 w1)) fun b s2 ⟨H2, I2, q2⟩ => ?_)
  cases b with
  | true =>
    obtain ⟨N, hN, q2⟩ := q2
    rw [if_pos rfl]
    refine wpAny_passesOwn hp (thn (hb pins s2 σ1 H2 _ I2 q2) fun f s3 q3 => ?_)
    cases f with
    | next =>
      obtain ⟨σ3, H3, I3, n3⟩ := q3
      obtain ⟨m', hm, w3⟩ := hN σ3 H3 n3
      exact ⟨m', hm, σ3, H3, I3, w3⟩
    | cont =>
      obtain ⟨σ3, H3, I3, n3⟩ := q3
      obtain ⟨m', hm, w3⟩ := hN σ3 H3 n3
      exact ⟨m', hm, σ3, H3, I3, w3⟩
    | brk => exact q3
    | ret v => exact q3
  | false =>
    rw [if_neg Bool.false_ne_true]
    exact wpAny_execs_nil ⟨σ1, H2, I2, q2⟩
end

/-! ### what a loop or a comprehension walks -/
/-- at turn i: it yields x (the heap may grow), or it stops -/
structure It where
  go : Nat → Hp → Prop
  yld : Nat → Hp → V → Hp → Prop
  stop : Nat → Hp → Prop
/-- the iterator's own objects may turn: they are not the frame's, not pinned, younger than the entry (or a comprehension's own) -/
def FpOk (X : Cx) (pins : List (Addr × Obj)) (H : Hp) (b : Addr) : Prop :=
  H b = none ∧ b ≠ X.env.locals ∧ b ∉ X.fs ∧ (b ∈ X.ex ∨ X.s₀.heap.objs.size ≤ b) ∧ (∀ x c, X.env.cells.lookup x = some c → c ≠ b) ∧ ∀ p ∈ X.pn ++ pins, p.1 ≠ b
theorem Inv.fpOk {X : Cx} {pins : List (Addr × Obj)} {σ : St} {H H' : Hp} {s : Shared} {b : Addr} (I : Inv X pins σ H s) (hb : s.heap.objs.size ≤ b) (hn : H' b = none) : FpOk X pins H' b := by
  refine ⟨hn, Nat.ne_of_gt (Nat.lt_of_lt_of_le I.lt hb), I.nofs hb, .inr (Nat.le_trans I.sz hb), fun x c e z => ?_, fun p hp z => ?_⟩
  · obtain ⟨v, q⟩ := I.cell x c e
    exact absurd (Nat.lt_of_lt_of_le q.lt (by rw [z]; exact hb)) (Nat.lt_irrefl _)
  · exact absurd (Nat.lt_of_lt_of_le (Heap.lt_size (I.pin p hp).1) (by rw [z]; exact hb)) (Nat.lt_irrefl _)
structure Turn (P : Program) (w : World) (K : PySem.W.Frag) (tg : Expr) (J : It) (fp : List Addr) (it : Addr) (tn : Nat → Heap → Prop) : Prop where
  mem : it ∈ fp
  obj : ∀ i h, tn i h → ∀ b ∈ fp, ∃ o, h.get? b = some o ∧ ∀ v, o.data ≠ .cell v
  keep : ∀ i h h', tn i h → (∀ b ∈ fp, ∀ o, h.get? b = some o → h'.get? b = some o) → tn i h'
  item : ∀ (X : Cx), X.prog = P → X.w = w → X.K = K → X.calm = true → ∀ (i : Nat) (pins : List (Addr × Obj)) (s : Shared) (σ : St) (H : Hp) (E : Value → Shared → Prop), Inv X pins σ H s → (∀ b ∈ fp, FpOk X pins H b) → tn i s.heap → J.go i H →
    wpAny (model P w) X.A (pyNext (.ref it)) (fun r s1 => ∃ u, r = some u ∧
      wpAny (model P w) X.A (letOwnedTupleGo tg (.ref it) u) (fun _ s2 => ∃ x H', Inv X pins σ H' s2 ∧ RelV x u ∧ J.yld i H x H' ∧ tn (i + 1) s2.heap ∧ ∀ b ∈ fp, H' b = none) E s1) E s
  done : ∀ (X : Cx), X.prog = P → X.w = w → X.K = K → X.calm = true → ∀ (i : Nat) (pins : List (Addr × Obj)) (s : Shared) (σ : St) (H : Hp) (E : Value → Shared → Prop), Inv X pins σ H s → (∀ b ∈ fp, FpOk X pins H b) → tn i s.heap → J.stop i H →
    wpAny (model P w) X.A (pyNext (.ref it)) (fun r s1 => r = none ∧ Inv X pins σ H s1) E s
  self : ∀ (A : Around) (i : Nat) (s : Shared) (Q : Value → Shared → Prop) (E : Value → Shared → Prop), tn i s.heap → Q (.ref it) s → wpAny (model P w) A (pyIter (.ref it)) Q E s
abbrev TI := St → Hp → (It → Hp → Prop) → Prop
/-- an iterator has come -/
def PIE (X : Cx) (pins : List (Addr × Obj)) (σ : St) (tg : Expr) (R : It → Hp → Prop) (itv : Value) (s2 : Shared) : Prop :=
  ∃ (it : Addr) (fp : List Addr) (tn : Nat → Heap → Prop) (J : It) (H' : Hp), itv = .ref it ∧ Inv X pins σ H' s2 ∧ Turn X.prog X.w X.K tg J fp it tn ∧ tn 0 s2.heap ∧ (∀ b ∈ fp, FpOk X pins H' b) ∧ R J H'
def PI (X : Cx) (tg iter : Expr) (wi : TI) : Prop :=
  ∀ (pins : List (Addr × Obj)) (s : Shared) (σ : St) (H : Hp) (R : It → Hp → Prop), Inv X pins σ H s → wi σ H R →
    wpAny (model X.prog X.w) X.A (eval iter X.env) (fun v s1 => wpAny (model X.prog X.w) X.A (pyIter v) (PIE X pins σ tg R) X.xe s1) X.xe s

/-- the step ahead of the store is nothing for an iterator that keeps no tuple -/
theorem go_of {M : Model} {A : Around} {E : Value → Shared → Prop} {s : Shared} {tg : Expr} {it : Addr} {u : Value} {o : Obj} {n : String} {vs : Array Value} {Q : Unit → Shared → Prop} (ho : s.heap.get? it = some o) (hc : o.cls = .type n) (hd : o.data = .fields vs)
    (hn : ["enumerate", "zip", "dict_itemiterator", "dict_reverseitemiterator", "odict_iterator", "itertools.zip_longest", "itertools.pairwise"].contains n = false) (hQ : Q () s) : wpAny M A (letOwnedTupleGo tg (.ref it) u) Q E s := by
  unfold letOwnedTupleGo
  cases tg <;> first
    | exact wpAny_pure hQ
    | (cases u <;> first
        | exact wpAny_pure hQ
        | (refine wpAny_bind (wpAny_load ho ?_)
           rw [hc, hd]
           show wpAny M A (if (["enumerate", "zip", "dict_itemiterator", "dict_reverseitemiterator", "odict_iterator", "itertools.zip_longest", "itertools.pairwise"].contains n && vs[0]? == some (rawInt _)) = true then _ else _) Q E s
           rw [if_neg (by intro h; rw [hn, Bool.false_and] at h; cases h)]
           exact wpAny_pure hQ))

/-- the list at a, as it stands at each turn (a loop may append to it) -/
def Itl (K : PySem.W.Frag) (a : Addr) : It :=
  ⟨fun i H => ∃ xs x, SqL K H a xs ∧ xs[i]? = some x, fun i H x H' => H' = H ∧ ∀ xs, SqL K H a xs → xs[i]? = some x, fun i H => ∃ xs, SqL K H a xs ∧ xs.length ≤ i⟩
def Itt (K : PySem.W.Frag) (a : Addr) : It :=
  ⟨fun i H => ∃ xs x, SqT K H a xs ∧ xs[i]? = some x, fun i H x H' => H' = H ∧ ∀ xs, SqT K H a xs → xs[i]? = some x, fun i H => ∃ xs, SqT K H a xs ∧ xs.length ≤ i⟩
/-- lo, lo + 1, .. (n of them) -/
def Itr (lo : Int) (n : Nat) : It := ⟨fun i _ => i < n, fun i H x H' => H' = H ∧ x = .int (lo + i), fun i _ => n ≤ i⟩
theorem turn_list {P : Program} {w : World} {K : PySem.W.Frag} {tg : Expr} (a it : Addr) : Turn P w K tg (Itl K a) [it] it (fun i h => h.IsListIter it a i) where
  mem := by simp
  obj := fun i h st b hb => by
    have e : b = it := by simpa using hb
    subst e
    obtain ⟨o, e, c, d⟩ := st
    exact ⟨o, e, fun v z => by rw [d] at z; cases z⟩
  keep := fun i h h' st k => st.at fun o e => k it (by simp) o e
  item := by
    intro X hP hw hK hc i pins s σ H E I hf st hg
    subst hP hw hK
    obtain ⟨xs, x, hq, hx⟩ := hg
    obtain ⟨its, rv, p, hz⟩ := I.list hq
    obtain ⟨u, hu, ru⟩ := rv.get hx
    obtain ⟨f0, f1, f2, f3, f4, f5⟩ := hf it (by simp)
    refine wpAny_pyNext_list_item st p.isList (x := u) (by simpa using hu) fun h' st' sb => ?_
    have I1 : Inv X pins σ H { s with heap := h' } := I.turned (t' := s.toks) (fun b o hb e => (sb.2 b hb).trans e) f0 f1 f3 f4 f5
    obtain ⟨o, e, c, d⟩ := id st'
    exact ⟨u, rfl, go_of (s := { s with heap := h' }) e c d (by decide) ⟨x, H, I1, ru, ⟨rfl, fun ys hy => by rw [I.list_inj hy hq]; exact hx⟩, st', fun b hb => (hf b hb).1⟩⟩
  done := by
    intro X hP hw hK hc i pins s σ H E I hf st hg
    subst hP hw hK
    obtain ⟨xs, hq, hx⟩ := hg
    obtain ⟨its, rv, p, hz⟩ := I.list hq
    obtain ⟨f0, f1, f2, f3, f4, f5⟩ := hf it (by simp)
    have hl := rv.length
    exact wpAny_pyNext_list_end (I.ok.hd hc) st p.isList (by simp; omega) fun h' eb => ⟨rfl, I.turned (t' := s.toks) (fun b o hb e => eb b o hb e) f0 f1 f3 f4 f5⟩
  self := fun _ _ _ _ _ st h => wpAny_pyIter_listiter st h
theorem turn_tuple {P : Program} {w : World} {K : PySem.W.Frag} {tg : Expr} (a it : Addr) : Turn P w K tg (Itt K a) [it] it (fun i h => h.IsTupleIter it a i) where
  mem := by simp
  obj := fun i h st b hb => by
    have e : b = it := by simpa using hb
    subst e
    obtain ⟨o, e, c, d⟩ := st
    exact ⟨o, e, fun v z => by rw [d] at z; cases z⟩
  keep := fun i h h' st k => st.at fun o e => k it (by simp) o e
  item := by
    intro X hP hw hK hc i pins s σ H E I hf st hg
    subst hP hw hK
    obtain ⟨xs, x, hq, hx⟩ := hg
    obtain ⟨its, rv, p, hz⟩ := I.tuple hq
    obtain ⟨u, hu, ru⟩ := rv.get hx
    obtain ⟨f0, f1, f2, f3, f4, f5⟩ := hf it (by simp)
    refine wpAny_pyNext_tuple_item st (show s.heap.IsTuple a its.toArray from p) (x := u) (by simpa using hu) fun h' st' sb => ?_
    have I1 : Inv X pins σ H { s with heap := h' } := I.turned (t' := s.toks) (fun b o hb e => (sb.2 b hb).trans e) f0 f1 f3 f4 f5
    obtain ⟨o, e, c, d⟩ := id st'
    exact ⟨u, rfl, go_of (s := { s with heap := h' }) e c d (by decide) ⟨x, H, I1, ru, ⟨rfl, fun ys hy => by rw [I.tuple_inj hy hq]; exact hx⟩, st', fun b hb => (hf b hb).1⟩⟩
  done := by
    intro X hP hw hK hc i pins s σ H E I hf st hg
    subst hP hw hK
    obtain ⟨xs, hq, hx⟩ := hg
    obtain ⟨its, rv, p, hz⟩ := I.tuple hq
    obtain ⟨f0, f1, f2, f3, f4, f5⟩ := hf it (by simp)
    have hl := rv.length
    exact wpAny_pyNext_tuple_end (I.ok.hd hc) st (show s.heap.IsTuple a its.toArray from p) (by simp; omega) fun h' eb => ⟨rfl, I.turned (t' := s.toks) (fun b o hb e => eb b o hb e) f0 f1 f3 f4 f5⟩
  self := fun _ _ _ _ _ st h => wpAny_pyIter_tupleiter st h
theorem turn_range {P : Program} {w : World} {K : PySem.W.Frag} {tg : Expr} (it : Addr) (lo : Int) (n : Nat) : Turn P w K tg (Itr lo n) [it] it (fun i h => IsRangeIter h it (lo + (i : Nat) * 1) ((n : Int) - (i : Nat)) 1) where
  mem := by simp
  obj := fun i h st b hb => by
    have e : b = it := by simpa using hb
    subst e
    exact ⟨_, st, fun v z => by
      have z' : Data.fields _ = Data.cell v := z
      cases z'⟩
  keep := fun i h h' st k => k it (by simp) _ st
  item := by
    intro X hP hw hK hc i pins s σ H E I hf st hg
    subst hP hw hK
    obtain ⟨f0, f1, f2, f3, f4, f5⟩ := hf it (by simp)
    have W := Walks.range (prog := X.prog) (w := X.w) (I.ok.hd hc) it lo 1 n
    refine W.item i s _ _ hg st fun v h' tk hv st' kk => ?_
    obtain ⟨t, rfl⟩ := hv
    have I1 : Inv X pins σ H { s with heap := h', toks := tk } := I.turned (fun b o hb e => kk b o (by simpa using hb) e) f0 f1 f3 f4 f5
    refine ⟨_, rfl, go_of (s := { s with heap := h', toks := tk }) (n := "range_iterator") st' rfl rfl (by decide) ⟨.int (lo + i), H, I1, ⟨t, ?_⟩, ⟨rfl, rfl⟩, st', fun b hb => (hf b hb).1⟩⟩
    rw [Int.mul_one]
  done := by
    intro X hP hw hK hc i pins s σ H E I hf st hg
    subst hP hw hK
    obtain ⟨f0, f1, f2, f3, f4, f5⟩ := hf it (by simp)
    exact wpAny_pyNext_range_end (I.ok.hd hc) st (by have : n ≤ i := hg; omega) fun h' eb => ⟨rfl, I.turned (t' := s.toks) (fun b o hb e => eb b o hb e) f0 f1 f3 f4 f5⟩
  self := fun _ _ _ _ _ st h => wpAny_pyIter_rangeiter st h
end L2

namespace L2
open PySem PySem.Spec PyProof.Rows
section
variable {X : Cx} {tg : Expr}
def iList (K : PySem.W.Frag) (tl : TE) : TI := fun σ H R => tl σ H fun x H1 => ∃ a, x = .ref a ∧ (∃ xs, SqL K H1 a xs) ∧ R (Itl K a) H1
def iTup (K : PySem.W.Frag) (tl : TE) : TI := fun σ H R => tl σ H fun x H1 => ∃ a, x = .ref a ∧ (∃ xs, SqT K H1 a xs) ∧ R (Itt K a) H1
theorem pi_list {l : Expr} {tl : TE} (hl : PE X l tl) : PI X tg l (iList X.K tl) := by
  intro pins s σ H R I h
  refine thn (hl pins s σ H _ I h) fun v s1 ⟨x, H1, I1, r1, q1⟩ => ?_
  obtain ⟨a, e, ⟨xs, hq⟩, q⟩ := q1
  subst e
  cases r1
  obtain ⟨its, rv, p, hz⟩ := I1.list hq
  refine wpAny_pyIter_list p.isList ?_
  refine ⟨s1.heap.objs.size, [s1.heap.objs.size], _, _, H1, rfl, I1.kept (t' := s1.toks) fun b o e => Heap.get?_push_of_some _ e, turn_list a _, ⟨_, Heap.get?_push_size _ rfl, rfl, rfl⟩, fun b hb => ?_, q⟩
  have e : b = s1.heap.objs.size := by simpa using hb
  subst e
  exact I1.fpOk (Nat.le_refl _) (I1.hok.fresh (Nat.le_refl _))
theorem pi_tup {l : Expr} {tl : TE} (hl : PE X l tl) : PI X tg l (iTup X.K tl) := by
  intro pins s σ H R I h
  refine thn (hl pins s σ H _ I h) fun v s1 ⟨x, H1, I1, r1, q1⟩ => ?_
  obtain ⟨a, e, ⟨xs, hq⟩, q⟩ := q1
  subst e
  cases r1
  obtain ⟨its, rv, p, hz⟩ := I1.tuple hq
  refine wpAny_pyIter_tuple (show s1.heap.IsTuple a its.toArray from p) ?_
  refine ⟨s1.heap.objs.size, [s1.heap.objs.size], _, _, H1, rfl, I1.kept (t' := s1.toks) fun b o e => Heap.get?_push_of_some _ e, turn_tuple a _, ⟨_, Heap.get?_push_size _ rfl, rfl, rfl⟩, fun b hb => ?_, q⟩
  have e : b = s1.heap.objs.size := by simpa using hb
  subst e
  exact I1.fpOk (Nat.le_refl _) (I1.hok.fresh (Nat.le_refl _))
/-- a range object just made, walked -/
theorem range_it {pins : List (Addr × Obj)} {σ : St} {H : Hp} {s : Shared} {R : It → Hp → Prop} {E : Value → Shared → Prop} {lo hi : Int} {t u v : Tok} {tk : Nat} (I : Inv X pins σ H s) (h1 : -(2 ^ 62) ≤ lo) (h2 : lo < 2 ^ 62) (h3 : -(2 ^ 62) ≤ hi) (h4 : hi < 2 ^ 62)
    (q : R (Itr lo (hi - lo).toNat) H) : wpAny (model X.prog X.w) X.A (pyIter (.ref s.heap.objs.size)) (PIE X pins σ tg R) E { s with heap := s.heap.push { cls := .type "range", data := .fields #[.int lo t, .int hi u, .int 1 v] }, toks := tk } := by
  refine wpAny_pyIter_range (IsRange.new ..) (small_one h1 h2 h3 h4) ?_
  have I1 : Inv X pins σ H { s with heap := s.heap.push { cls := .type "range", data := .fields #[.int lo t, .int hi u, .int 1 v] }, toks := tk } := I.kept fun b o e => Heap.get?_push_of_some _ e
  refine ⟨(s.heap.push { cls := .type "range", data := .fields #[.int lo t, .int hi u, .int 1 v] }).objs.size, [(s.heap.push { cls := .type "range", data := .fields #[.int lo t, .int hi u, .int 1 v] }).objs.size], _, _, H, rfl,
    I1.kept (t' := tk) fun b o e => Heap.get?_push_of_some _ e, turn_range _ lo (hi - lo).toNat, ?_, fun b hb => ?_, q⟩
  · have e1 : lo + ((0 : Nat) : Int) * 1 = lo := by simp
    have e2 : (((hi - lo).toNat : Nat) : Int) - ((0 : Nat) : Int) = Builtin.Range.rangeSize lo hi 1 := by rw [rangeSize_one]; split <;> omega
    show IsRangeIter _ _ (lo + ((0 : Nat) : Int) * 1) ((((hi - lo).toNat : Nat) : Int) - ((0 : Nat) : Int)) 1
    rw [e1, e2]
    exact Heap.get?_push_size _ rfl
  · have e : b = (s.heap.push { cls := .type "range", data := .fields #[.int lo t, .int hi u, .int 1 v] }).objs.size := by simpa using hb
    subst e
    exact I1.fpOk (Nat.le_refl _) (I1.hok.fresh (Nat.le_refl _))
def iRng1 (ta : TA) : TI := fun σ H R => ta σ H fun vs H1 => ∃ j : Int, vs = [.int j] ∧ -(2 ^ 62) ≤ j ∧ j < 2 ^ 62 ∧ R (Itr 0 j.toNat) H1
def iRng2 (ta : TA) : TI := fun σ H R => ta σ H fun vs H1 => ∃ i j : Int, vs = [.int i, .int j] ∧ (-(2 ^ 62) ≤ i ∧ i < 2 ^ 62 ∧ -(2 ^ 62) ≤ j ∧ j < 2 ^ 62) ∧ R (Itr i (j - i).toNat) H1
theorem pi_range1 {a : Expr} {ta : TA} {p pos : Pos} (hg : Gl X "range") (hm : X.mg "range" = none) (ha : PA X [a] ta) (hs : starEach [a] X.env = [(false, eval a X.env)] := by rfl) : PI X tg (.Call (.Name "range" p) [a] [] pos) (iRng1 ta) := by
  intro pins s σ H R I h
  refine Call_ (ld_blt I hg hm boot_range (PyProof.Rows.callWith_type1 (thn (ha pos pins s σ H _ I h) fun us s1 ⟨vs, H1, I1, r1, q1⟩ => ?_) hs rfl))
  obtain ⟨j, e, q1, q2, q⟩ := q1
  subst e
  cases r1 with
  | cons r rr =>
    cases rr
    obtain ⟨t, rfl⟩ := r
    exact call_range_1 (range_it I1 (by omega) (by omega) q1 q2 (by simpa using q))
theorem pi_range2 {a b : Expr} {ta : TA} {p pos : Pos} (hg : Gl X "range") (hm : X.mg "range" = none) (ha : PA X [a, b] ta) (hs : starEach [a, b] X.env = [(false, eval a X.env), (false, eval b X.env)] := by rfl) (hs2 : starEach [b] X.env = [(false, eval b X.env)] := by rfl) :
    PI X tg (.Call (.Name "range" p) [a, b] [] pos) (iRng2 ta) := by
  intro pins s σ H R I h
  refine Call_ (ld_blt I hg hm boot_range (PyProof.Rows.callWith_type1 (thn (ha pos pins s σ H _ I h) fun us s1 ⟨vs, H1, I1, r1, q1⟩ => ?_) (by rw [hs, hs2]) (by rw [hs2]; rfl)))
  obtain ⟨i, j, e, ⟨q1, q2, q3, q4⟩, q⟩ := q1
  subst e
  cases r1 with
  | cons r rr =>
    cases rr with
    | cons r' rr =>
      cases rr
      obtain ⟨t, rfl⟩ := r
      obtain ⟨t', rfl⟩ := r'
      exact call_range_2 (range_it I1 q1 q2 q3 q4 q)

/-! ### for -/
/-- W: the invariant by the turn and a measure; N: what the body is to reach -/
def tFor (wi : TI) (g : TG) (tb : TS) : TS := fun D σ H => wi σ H fun J H1 => ∃ W : Nat → Nat → St → Hp → Prop, (∃ m, W 0 m σ H1) ∧ ∀ i m σ H, W i m σ H →
  (J.stop i H ∧ D.nx σ H) ∨ (J.go i H ∧ ∃ N : St → Hp → Prop, (∀ σ' H', N σ' H' → ∃ m', m' < m ∧ W (i + 1) m' σ' H') ∧ ∀ x H', J.yld i H x H' → g x σ H' fun σ2 H2 => tb { D with nx := N, ct := N, bk := D.nx } σ2 H2)
/-- the records at fp as they stand -/
def pinsAt (fp : List Addr) (h : Heap) : List (Addr × Obj) := fp.filterMap fun b => (h.get? b).map fun o => (b, o)
theorem mem_pinsAt {fp : List Addr} {h : Heap} {b : Addr} {o : Obj} (hb : b ∈ fp) (e : h.get? b = some o) : (b, o) ∈ pinsAt fp h := List.mem_filterMap.mpr ⟨b, hb, by rw [e]; rfl⟩
theorem of_pinsAt {fp : List Addr} {h : Heap} {p : Addr × Obj} (hp : p ∈ pinsAt fp h) : p.1 ∈ fp ∧ h.get? p.1 = some p.2 := by
  obtain ⟨b, hb, e⟩ := List.mem_filterMap.mp hp
  cases q : h.get? b with
  | none => rw [q] at e; cases e
  | some o =>
    rw [q] at e
    have e' : (b, o) = p := Option.some.inj e
    subst e'
    exact ⟨hb, q⟩
theorem Inv.pinned {pins : List (Addr × Obj)} {σ : St} {H : Hp} {s : Shared} {fp : List Addr} (I : Inv X pins σ H s) (hf : ∀ b ∈ fp, FpOk X pins H b) (ho : ∀ b ∈ fp, ∃ o, s.heap.get? b = some o ∧ ∀ v, o.data ≠ .cell v) : Inv X (pins ++ pinsAt fp s.heap) σ H s :=
  I.pins_of fun p hp => (List.mem_append.mp hp).elim (fun z => I.pin p (List.mem_append_right _ z)) fun z => by
    obtain ⟨hb, e⟩ := of_pinsAt z
    obtain ⟨f0, f1, f2, _⟩ := hf p.1 hb
    obtain ⟨o, e', d⟩ := ho p.1 hb
    rw [e] at e'; cases e'
    exact ⟨e, f0, f1, f2, d⟩
theorem Inv.unpinned {pins pl : List (Addr × Obj)} {σ : St} {H : Hp} {s : Shared} (I : Inv X (pins ++ pl) σ H s) : Inv X pins σ H s := I.pins_of fun p hp => I.pin p (List.mem_append_right _ (List.mem_append_left _ hp))
theorem ps_for {iter : Expr} {body : List Stmt} {wi : TI} {g : TG} {tb : TS} {pos : Pos} (hp : PassesOwn (model X.prog X.w) X.A X.env X.xe) (hc : X.calm = true) (hi : PI X tg iter wi) (hg : PG X tg g) (hb : PSs X body tb)
    (hs : ∀ x, foldedSetIterable iter X.env x = pure x := by intro _; rfl) : PS X (.For tg iter body [] pos) (tFor wi g tb) := by
  intro pins s σ H D I h
  refine wpAny_For (thn (hi pins s σ H _ I h) fun v s1 h1 => thn h1 fun itv s2 h2 => ?_) hs
  obtain ⟨it, fp, tn, J, H2, e, I2, T, st2, f2, W, ⟨m0, w0⟩, turn⟩ := h2
  subst e
  -- what stays true of the iterator's objects through the loop
  have stat : ∀ {H' : Hp}, (∀ b ∈ fp, H' b = none) → ∀ b ∈ fp, FpOk X pins H' b := fun hn b hb => ⟨hn b hb, (f2 b hb).2⟩
  refine codeAny_forLoop_any (fun n s' => ∃ i σ' H', Inv X pins σ' H' s' ∧ tn i s'.heap ∧ (∀ b ∈ fp, H' b = none) ∧ W i n σ' H') ?_ m0 ⟨0, σ, H2, I2, st2, fun b hb => (f2 b hb).1, w0⟩
  rintro n s3 ⟨i, σ3, H3, I3, st3, fr3, w3⟩
  rcases turn i n σ3 H3 w3 with ⟨stop, qn⟩ | ⟨go, N, hN, step⟩
  · refine wpAny_passesOwn hp (thn (T.done X rfl rfl rfl hc i pins s3 σ3 H3 X.xe I3 (stat fr3) st3 stop) fun r s4 ⟨hr, I4⟩ => ?_)
    subst hr
    exact wpAny_execs_nil ⟨σ3, H3, I4, qn⟩
  · refine wpAny_passesOwn hp (thn (T.item X rfl rfl rfl hc i pins s3 σ3 H3 X.xe I3 (stat fr3) st3 go) fun r s4 ⟨u, hr, h4⟩ => ?_)
    subst hr
    refine wpAny_passesOwn hp (thn h4 fun _ s5 ⟨x, H5, I5, r5, y5, st5, fr5⟩ => ?_)
    have I5' := I5.pinned (stat fr5) (T.obj _ _ st5)
    refine wpAny_passesOwn hp (thn (hg _ s5 σ3 H5 x u _ I5' r5 (step x H5 y5)) fun _ s6 ⟨σ6, H6, I6, q6⟩ => ?_)
    refine wpAny_passesOwn hp (thn (hb _ s6 σ6 H6 _ I6 q6) fun f s7 q7 => ?_)
    have again : ∀ {σ7 : St} {H7 : Hp}, Inv X (pins ++ pinsAt fp s5.heap) σ7 H7 s7 → N σ7 H7 → ∃ m, m < n ∧ ∃ i σ' H', Inv X pins σ' H' s7 ∧ tn i s7.heap ∧ (∀ b ∈ fp, H' b = none) ∧ W i m σ' H' := fun {σ7 H7} I7 n7 => by
      obtain ⟨m', hm, w7⟩ := hN σ7 H7 n7
      refine ⟨m', hm, i + 1, σ7, H7, I7.unpinned, T.keep _ _ _ st5 fun b hb o e => (I7.pin (b, o) (List.mem_append_right _ (List.mem_append_right _ (mem_pinsAt hb e)))).1, fun b hb => ?_, w7⟩
      obtain ⟨o, e, d⟩ := T.obj _ _ st5 b hb
      exact (I7.pin (b, o) (List.mem_append_right _ (List.mem_append_right _ (mem_pinsAt hb e)))).2.1
    cases f with
    | next => obtain ⟨σ7, H7, I7, n7⟩ := q7; exact again I7 n7
    | cont => obtain ⟨σ7, H7, I7, n7⟩ := q7; exact again I7 n7
    | brk => obtain ⟨σ7, H7, I7, q7⟩ := q7; exact ⟨σ7, H7, I7.unpinned, q7⟩
    | ret v => obtain ⟨x7, σ7, H7, I7, r7, q7⟩ := q7; exact ⟨x7, σ7, H7, I7.unpinned, r7, q7⟩
end

/-! ### the forms one uses -/
/-- over a list that the body leaves as it is -/
theorem for_list {K : PySem.W.Frag} {a : Addr} {xs : List V} {g : TG} {tb : TS} {D : Ends} {σ : St} {H : Hp} (Pv : Nat → St → Hp → Prop) (h0 : Pv 0 σ H) (hl : ∀ i σ H, i ≤ xs.length → Pv i σ H → SqL K H a xs)
    (hs : ∀ i x σ H, xs[i]? = some x → Pv i σ H → g x σ H fun σ2 H2 => tb { D with nx := Pv (i + 1), ct := Pv (i + 1), bk := D.nx } σ2 H2) (hd : ∀ σ H, Pv xs.length σ H → D.nx σ H) :
    ∃ W : Nat → Nat → St → Hp → Prop, (∃ m, W 0 m σ H) ∧ ∀ i m σ H, W i m σ H →
      ((Itl K a).stop i H ∧ D.nx σ H) ∨ ((Itl K a).go i H ∧ ∃ N : St → Hp → Prop, (∀ σ' H', N σ' H' → ∃ m', m' < m ∧ W (i + 1) m' σ' H') ∧ ∀ x H', (Itl K a).yld i H x H' → g x σ H' fun σ2 H2 => tb { D with nx := N, ct := N, bk := D.nx } σ2 H2) := by
  refine ⟨fun i m σ H => m = xs.length - i ∧ i ≤ xs.length ∧ Pv i σ H, ⟨xs.length, by simp, Nat.zero_le _, h0⟩, ?_⟩
  rintro i m σ H ⟨rfl, hi, p⟩
  have q := hl i σ H hi p
  by_cases hlt : i < xs.length
  · refine .inr ⟨⟨xs, xs[i], q, by simp [hlt]⟩, Pv (i + 1), fun σ' H' p' => ⟨xs.length - (i + 1), by omega, rfl, hlt, p'⟩, fun x H' y => ?_⟩
    obtain ⟨e, y⟩ := y
    subst e
    exact hs i x σ _ (y xs q) p
  · have e : i = xs.length := by omega
    subst e
    exact .inl ⟨⟨xs, q, Nat.le_refl _⟩, hd σ H p⟩
theorem for_tup {K : PySem.W.Frag} {a : Addr} {xs : List V} {g : TG} {tb : TS} {D : Ends} {σ : St} {H : Hp} (Pv : Nat → St → Hp → Prop) (h0 : Pv 0 σ H) (hl : ∀ i σ H, i ≤ xs.length → Pv i σ H → SqT K H a xs)
    (hs : ∀ i x σ H, xs[i]? = some x → Pv i σ H → g x σ H fun σ2 H2 => tb { D with nx := Pv (i + 1), ct := Pv (i + 1), bk := D.nx } σ2 H2) (hd : ∀ σ H, Pv xs.length σ H → D.nx σ H) :
    ∃ W : Nat → Nat → St → Hp → Prop, (∃ m, W 0 m σ H) ∧ ∀ i m σ H, W i m σ H →
      ((Itt K a).stop i H ∧ D.nx σ H) ∨ ((Itt K a).go i H ∧ ∃ N : St → Hp → Prop, (∀ σ' H', N σ' H' → ∃ m', m' < m ∧ W (i + 1) m' σ' H') ∧ ∀ x H', (Itt K a).yld i H x H' → g x σ H' fun σ2 H2 => tb { D with nx := N, ct := N, bk := D.nx } σ2 H2) := by
  refine ⟨fun i m σ H => m = xs.length - i ∧ i ≤ xs.length ∧ Pv i σ H, ⟨xs.length, by simp, Nat.zero_le _, h0⟩, ?_⟩
  rintro i m σ H ⟨rfl, hi, p⟩
  have q := hl i σ H hi p
  by_cases hlt : i < xs.length
  · refine .inr ⟨⟨xs, xs[i], q, by simp [hlt]⟩, Pv (i + 1), fun σ' H' p' => ⟨xs.length - (i + 1), by omega, rfl, hlt, p'⟩, fun x H' y => ?_⟩
    obtain ⟨e, y⟩ := y
    subst e
    exact hs i x σ _ (y xs q) p
  · have e : i = xs.length := by omega
    subst e
    exact .inl ⟨⟨xs, q, Nat.le_refl _⟩, hd σ H p⟩
theorem for_range {lo : Int} {n : Nat} {g : TG} {tb : TS} {D : Ends} {σ : St} {H : Hp} (Pv : Nat → St → Hp → Prop) (h0 : Pv 0 σ H)
    (hs : ∀ i σ H, i < n → Pv i σ H → g (.int (lo + i)) σ H fun σ2 H2 => tb { D with nx := Pv (i + 1), ct := Pv (i + 1), bk := D.nx } σ2 H2) (hd : ∀ σ H, Pv n σ H → D.nx σ H) :
    ∃ W : Nat → Nat → St → Hp → Prop, (∃ m, W 0 m σ H) ∧ ∀ i m σ H, W i m σ H →
      ((Itr lo n).stop i H ∧ D.nx σ H) ∨ ((Itr lo n).go i H ∧ ∃ N : St → Hp → Prop, (∀ σ' H', N σ' H' → ∃ m', m' < m ∧ W (i + 1) m' σ' H') ∧ ∀ x H', (Itr lo n).yld i H x H' → g x σ H' fun σ2 H2 => tb { D with nx := N, ct := N, bk := D.nx } σ2 H2) := by
  refine ⟨fun i m σ H => m = n - i ∧ i ≤ n ∧ Pv i σ H, ⟨n, by simp, Nat.zero_le _, h0⟩, ?_⟩
  rintro i m σ H ⟨rfl, hi, p⟩
  by_cases hlt : i < n
  · refine .inr ⟨hlt, Pv (i + 1), fun σ' H' p' => ⟨n - (i + 1), by omega, rfl, hlt, p'⟩, fun x H' y => ?_⟩
    obtain ⟨e, y⟩ := y
    subst e y
    exact hs i σ _ hlt p
  · have e : i = n := by omega
    subst e
    exact .inl ⟨Nat.le_refl _, hd σ H p⟩
/-- while, by a word and a measure of the state -/
theorem while_by {c : TT} {tb : TS} {D : Ends} {σ : St} {H : Hp} (Pv : St → Hp → Prop) (μ : St → Hp → Nat) (h0 : Pv σ H)
    (hs : ∀ σ H, Pv σ H → c σ H fun b H1 => if b = true then tb { D with nx := fun σ' H' => Pv σ' H' ∧ μ σ' H' < μ σ H, ct := fun σ' H' => Pv σ' H' ∧ μ σ' H' < μ σ H, bk := D.nx } σ H1 else D.nx σ H1)
    (mono : ∀ σ H Q Q', (∀ b H1, Q b H1 → Q' b H1) → c σ H Q → c σ H Q') : tWhile c tb D σ H := by
  refine ⟨fun m σ H => m = μ σ H ∧ Pv σ H, ⟨_, rfl, h0⟩, ?_⟩
  rintro m σ H ⟨rfl, p⟩
  refine mono σ H _ _ (fun b H1 q => ?_) (hs σ H p)
  cases b with
  | true => exact ⟨_, fun σ' H' ⟨p', l⟩ => ⟨_, l, rfl, p'⟩, q⟩
  | false => exact q
end L2

namespace L2
open PySem PySem.Spec PyProof.Rows

abbrev R2 := V → V → Hp → VK → Prop
/-- a two-place operation on values: f is binaryOp op, inplaceOp op or compareOp op -/
def OpR (X : Cx) (f : Value → Value → Sem Value) (r : R2) : Prop :=
  ∀ (pins : List (Addr × Obj)) (s : Shared) (σ : St) (H : Hp) (x y : V) (v u : Value) (Q : VK), Inv X pins σ H s → RelV x v → RelV y u → r x y H Q →
    wpAny (model X.prog X.w) X.A (f v u) (EP X pins σ Q) X.xe s
/-- a one-place operation -/
def UnR (X : Cx) (f : Value → Sem Value) (r : V → Hp → VK → Prop) : Prop :=
  ∀ (pins : List (Addr × Obj)) (s : Shared) (σ : St) (H : Hp) (x : V) (v : Value) (Q : VK), Inv X pins σ H s → RelV x v → r x H Q →
    wpAny (model X.prog X.w) X.A (f v) (EP X pins σ Q) X.xe s
/-- a call of a value that is known (a builtin, a type) with values -/
def CallR (X : Cx) (f : Value) (r : List V → Hp → VK → Prop) : Prop :=
  ∀ (pins : List (Addr × Obj)) (s : Shared) (σ : St) (H : Hp) (xs : List V) (us : List Value) (Q : VK), Inv X pins σ H s → Vals xs us → r xs H Q →
    wpAny (model X.prog X.w) X.A (call f us) (EP X pins σ Q) X.xe s
/-- a value's truth -/
def TruR (X : Cx) (r : V → Hp → (Bool → Hp → Prop) → Prop) : Prop :=
  ∀ (pins : List (Addr × Obj)) (s : Shared) (σ : St) (H : Hp) (x : V) (v : Value) (Q : Bool → Hp → Prop), Inv X pins σ H s → RelV x v → r x H Q →
    wpAny (model X.prog X.w) X.A (truthy v) (TP X pins σ Q) X.xe s

def tOp (r : R2) (ta tb : TE) : TE := fun σ H Q => ta σ H fun x H1 => tb σ H1 fun y H2 => r x y H2 Q
def tUn (r : V → Hp → VK → Prop) (ta : TE) : TE := fun σ H Q => ta σ H fun x H1 => r x H1 Q
/-- ints in, under C, and a value out -/
def rI (C : Int → Int → Prop) (g : Int → Int → V) : R2 := fun x y H Q => ∃ i j, x = .int i ∧ y = .int j ∧ C i j ∧ Q (g i j) H
def rI0 (g : Int → Int → V) : R2 := fun x y H Q => ∃ i j, x = .int i ∧ y = .int j ∧ Q (g i j) H
def rU (g : Int → V) : V → Hp → VK → Prop := fun x H Q => ∃ i, x = .int i ∧ Q (g i) H

section
variable {X : Cx} {a b c : Expr} {ta tb tc : TE} {pos : Pos}

theorem binT (ha : PE X a ta) (hb : PE X b tb) {pins : List (Addr × Obj)} {s : Shared} {σ : St} {H : Hp} {R : V → V → Hp → Prop} (I : Inv X pins σ H s)
    (h : ta σ H fun x H1 => tb σ H1 fun y H2 => R x y H2) {Q : Value → Shared → Prop} {f : Value → Value → Sem Value}
    (hf : ∀ v u s2 x y H2, Inv X pins σ H2 s2 → RelV x v → RelV y u → R x y H2 → wpAny (model X.prog X.w) X.A (f v u) Q X.xe s2) :
    wpAny (model X.prog X.w) X.A (eval a X.env) (fun v s₁ => wpAny (model X.prog X.w) X.A (eval b X.env) (fun u s₂ => wpAny (model X.prog X.w) X.A (f v u) Q X.xe s₂) X.xe s₁) X.xe s := by
  refine thn (ha pins s σ H _ I h) fun v s1 ⟨x, H1, I1, r1, q1⟩ => ?_
  refine thn (hb pins s1 σ H1 _ I1 q1) fun u s2 ⟨y, H2, I2, r2, q2⟩ => ?_
  exact hf v u s2 x y H2 I2 r1 r2 q2

theorem pe_op {op : Operator} {r : R2} (ho : OpR X (binaryOp op) r) (ha : PE X a ta) (hb : PE X b tb) : PE X (.BinOp a op b pos) (tOp r ta tb) := by
  intro pins s σ H Q I h
  exact wpAny_BinOp (binT ha hb I h fun v u s2 x y H2 I2 rx ry q => ho pins s2 σ H2 x y v u Q I2 rx ry q)
/-! ### ints -/
theorem opI {f : Value → Value → Sem Value} {C : Int → Int → Prop} {g : Int → Int → Int}
    (rule : ∀ (i j : Int) (t u : Tok) (s : Shared) (Q : Value → Shared → Prop) (E : Value → Shared → Prop), C i j → Q (.int (g i j) s.toks) { s with toks := s.toks + 1 } → wpAny (model X.prog X.w) X.A (f (.int i t) (.int j u)) Q E s) :
    OpR X f (rI C fun i j => .int (g i j)) := by
  intro pins s σ H x y v u Q I rx ry h
  obtain ⟨i, j, rfl, rfl, hc, q⟩ := h
  obtain ⟨t, rfl⟩ := rx
  obtain ⟨t', rfl⟩ := ry
  exact rule i j t t' s _ _ hc ⟨.int (g i j), H, I.tok _, ⟨_, rfl⟩, q⟩
theorem opI0 {f : Value → Value → Sem Value} {g : Int → Int → Int}
    (rule : ∀ (i j : Int) (t u : Tok) (s : Shared) (Q : Value → Shared → Prop) (E : Value → Shared → Prop), Q (.int (g i j) s.toks) { s with toks := s.toks + 1 } → wpAny (model X.prog X.w) X.A (f (.int i t) (.int j u)) Q E s) :
    OpR X f (rI0 fun i j => .int (g i j)) := by
  intro pins s σ H x y v u Q I rx ry h
  obtain ⟨i, j, rfl, rfl, q⟩ := h
  obtain ⟨t, rfl⟩ := rx
  obtain ⟨t', rfl⟩ := ry
  exact rule i j t t' s _ _ ⟨.int (g i j), H, I.tok _, ⟨_, rfl⟩, q⟩
theorem opB0 {f : Value → Value → Sem Value} {g : Int → Int → Bool}
    (rule : ∀ (i j : Int) (t u : Tok) (s : Shared) (Q : Value → Shared → Prop) (E : Value → Shared → Prop), Q (.bool (g i j)) s → wpAny (model X.prog X.w) X.A (f (.int i t) (.int j u)) Q E s) :
    OpR X f (rI0 fun i j => .bl (g i j)) := by
  intro pins s σ H x y v u Q I rx ry h
  obtain ⟨i, j, rfl, rfl, q⟩ := h
  obtain ⟨t, rfl⟩ := rx
  obtain ⟨t', rfl⟩ := ry
  exact rule i j t t' s _ _ ⟨.bl (g i j), H, I, rfl, q⟩

def CDiv (i j : Int) : Prop := 0 < j ∧ j < 1073741824
def CDivN (i j : Int) : Prop := j ≠ 0 ∧ j.natAbs < 1073741824
def CPow (i j : Int) : Prop := 0 ≤ j ∧ j ≤ 1000000 ∧ i.natAbs < 2 ^ 64
def CMul (i j : Int) : Prop := (-(2 ^ 64) < i ∧ i < 2 ^ 64) ∨ (-(2 ^ 64) < j ∧ j < 2 ^ 64)
theorem op_add : OpR X (binaryOp .Add) (rI0 fun i j => .int (i + j)) := opI0 fun _ _ _ _ _ _ _ q => add_int q
theorem op_sub : OpR X (binaryOp .Sub) (rI0 fun i j => .int (i - j)) := opI0 fun _ _ _ _ _ _ _ q => sub_int q
/-- % by a positive divisor of any size -/
theorem op_mod : OpR X (binaryOp .Mod) (rI (fun _ j => 0 < j) fun i j => .int (i % j)) := opI fun i j _ _ _ _ _ hc q => by
  have h1 : (0 : Int) < j := hc
  exact mod_int' (by omega) (by rw [Int.fmod_eq_emod_of_nonneg i (by omega)]; exact q)
/-! ### bools among ints: n += (a < b) -/
end

/-! ### comparisons -/
/-- the scalars that == tells apart as data does -/
def scal : V → V → Bool
  | .non, .non => true | .non, .int _ => true | .int _, .non => true | .non, .bl _ => true | .bl _, .non => true | .non, .str _ => true | .str _, .non => true
  | .int _, .int _ => true | .bl _, .bl _ => true | .str _, .str _ => true | .byt _, .byt _ => true
  | .int _, .str _ => true | .str _, .int _ => true | .bl _, .str _ => true | .str _, .bl _ => true
  | _, _ => false
def rEq : R2 := fun x y H Q => scal x y = true ∧ Q (.bl (decide (x = y))) H
def rNe : R2 := fun x y H Q => scal x y = true ∧ Q (.bl (!decide (x = y))) H

theorem dec_int {i j : Int} : decide (V.int i = V.int j) = (i == j) := by
  rw [Bool.eq_iff_iff]
  simp
theorem dec_bl {i j : Bool} : decide (V.bl i = V.bl j) = (i == j) := by
  rw [Bool.eq_iff_iff]
  simp
theorem dec_str {i j : Str} : decide (V.str i = V.str j) = (i == j) := by
  rw [Bool.eq_iff_iff]
  simp
theorem dec_byt {i j : Array UInt8} : decide (V.byt i = V.byt j) = (i.toList == j.toList) := by
  rw [Bool.eq_iff_iff]
  cases i
  cases j
  simp

section
variable {X : Cx} {a b c : Expr} {ta tb tc : TE} {pos : Pos}
theorem fin_bl {pins : List (Addr × Obj)} {σ : St} {H : Hp} {s : Shared} {Q : VK} {k k' : Bool} (I : Inv X pins σ H s) (q : Q (.bl k) H) (e : k = k') : EP X pins σ Q (.bool k') s := by
  subst e
  exact ⟨.bl k, H, I, rfl, q⟩
theorem op_eq : OpR X (compareOp .Eq) rEq := by
  intro pins s σ H x y v u Q I rx ry h
  obtain ⟨hs, q⟩ := h
  cases x with
  | non =>
    cases rx
    cases y with
    | non => cases ry; exact PySem.EqNone.eq_none_none (fin_bl I q (by simp))
    | bl j => cases ry; exact PySem.EqNone.eq_none_bool (fin_bl I q (by simp))
    | int j => obtain ⟨t', rfl⟩ := ry; exact PySem.EqNone.eq_none_int (fin_bl I q (by simp))
    | str j => obtain ⟨t', rfl⟩ := ry; exact PySem.EqNone.eq_none_str (fin_bl I q (by simp))
    | _ => exact absurd (show false = true from hs) Bool.false_ne_true
  | bl i =>
    cases rx
    cases y with
    | non => cases ry; exact PySem.EqNone.eq_bool_none (fin_bl I q (by simp))
    | bl j => cases ry; exact eq_bool (fin_bl I q dec_bl)
    | str j => obtain ⟨t', rfl⟩ := ry; exact PySem.EqMixed.eq_bool_str (fin_bl I q (by simp))
    | _ => exact absurd (show false = true from hs) Bool.false_ne_true
  | int i =>
    obtain ⟨t, rfl⟩ := rx
    cases y with
    | non => cases ry; exact PySem.EqNone.eq_int_none (fin_bl I q (by simp))
    | int j => obtain ⟨t', rfl⟩ := ry; exact eq_int (fin_bl I q dec_int)
    | str j => obtain ⟨t', rfl⟩ := ry; exact PySem.EqMixed.eq_int_str (fin_bl I q (by simp))
    | _ => exact absurd (show false = true from hs) Bool.false_ne_true
  | str i =>
    obtain ⟨t, rfl⟩ := rx
    cases y with
    | non => cases ry; exact PySem.EqNone.eq_str_none (fin_bl I q (by simp))
    | bl j => cases ry; exact PySem.EqMixed.eq_str_bool (fin_bl I q (by simp))
    | int j => obtain ⟨t', rfl⟩ := ry; exact PySem.EqMixed.eq_str_int (fin_bl I q (by simp))
    | str j => obtain ⟨t', rfl⟩ := ry; exact eq_str (fin_bl I q dec_str)
    | _ => exact absurd (show false = true from hs) Bool.false_ne_true
  | byt i =>
    obtain ⟨t, rfl⟩ := rx
    cases y with
    | byt j => obtain ⟨t', rfl⟩ := ry; exact PySem.W.eq_bytes (fin_bl I q dec_byt)
    | _ => exact absurd (show false = true from hs) Bool.false_ne_true
  | _ => cases y <;> exact absurd (show false = true from hs) Bool.false_ne_true
theorem op_ne : OpR X (compareOp .NotEq) rNe := by
  intro pins s σ H x y v u Q I rx ry h
  obtain ⟨hs, q⟩ := h
  cases x with
  | non =>
    cases rx
    cases y with
    | non => cases ry; exact PySem.EqNone.ne_none_none (fin_bl I q (by simp))
    | bl j => cases ry; exact PySem.EqNone.ne_none_bool (fin_bl I q (by simp))
    | int j => obtain ⟨t', rfl⟩ := ry; exact PySem.EqNone.ne_none_int (fin_bl I q (by simp))
    | str j => obtain ⟨t', rfl⟩ := ry; exact PySem.EqNone.ne_none_str (fin_bl I q (by simp))
    | _ => exact absurd (show false = true from hs) Bool.false_ne_true
  | bl i =>
    cases rx
    cases y with
    | non => cases ry; exact PySem.EqNone.ne_bool_none (fin_bl I q (by simp))
    | bl j => cases ry; exact ne_bool (fin_bl I q (congrArg not dec_bl))
    | str j => obtain ⟨t', rfl⟩ := ry; exact PySem.EqMixed.ne_bool_str (fin_bl I q (by simp))
    | _ => exact absurd (show false = true from hs) Bool.false_ne_true
  | int i =>
    obtain ⟨t, rfl⟩ := rx
    cases y with
    | non => cases ry; exact PySem.EqNone.ne_int_none (fin_bl I q (by simp))
    | int j => obtain ⟨t', rfl⟩ := ry; exact ne_int (fin_bl I q (congrArg not dec_int))
    | str j => obtain ⟨t', rfl⟩ := ry; exact PySem.EqMixed.ne_int_str (fin_bl I q (by simp))
    | _ => exact absurd (show false = true from hs) Bool.false_ne_true
  | str i =>
    obtain ⟨t, rfl⟩ := rx
    cases y with
    | non => cases ry; exact PySem.EqNone.ne_str_none (fin_bl I q (by simp))
    | bl j => cases ry; exact PySem.EqMixed.ne_str_bool (fin_bl I q (by simp))
    | int j => obtain ⟨t', rfl⟩ := ry; exact PySem.EqMixed.ne_str_int (fin_bl I q (by simp))
    | str j => obtain ⟨t', rfl⟩ := ry; exact ne_str (fin_bl I q (congrArg not dec_str))
    | _ => exact absurd (show false = true from hs) Bool.false_ne_true
  | byt i =>
    obtain ⟨t, rfl⟩ := rx
    cases y with
    | byt j => obtain ⟨t', rfl⟩ := ry; exact PySem.W.ne_bytes (fin_bl I q (congrArg not dec_byt))
    | _ => exact absurd (show false = true from hs) Bool.false_ne_true
  | _ => cases y <;> exact absurd (show false = true from hs) Bool.false_ne_true

theorem op_lt : OpR X (compareOp .Lt) (rI0 fun i j => .bl (decide (i < j))) := opB0 fun _ _ _ _ _ _ _ q => lt_int q
theorem op_gt : OpR X (compareOp .Gt) (rI0 fun i j => .bl (decide (j < i))) := opB0 fun _ _ _ _ _ _ _ q => gt_int q
/-- is None, is not None: the right side a value none -/
theorem op_isN : OpR X (compareOp .Is) (fun x y H Q => y = .non ∧ Q (.bl (decide (x = .non))) H) := by
  intro pins s σ H x y v u Q I rx ry h
  obtain ⟨rfl, q⟩ := h
  cases ry
  refine is_none_gen (fin_bl I q ?_)
  cases x <;> first
    | (cases rx; rfl)
    | (obtain ⟨t, rfl⟩ := rx; rfl)
/-- is, is not of two objects that are tracked lists or instances -/
def isObj : HO → Bool
  | .lst _ => true
  | .ins _ _ _ => true
  | _ => false
theorem nomark (b : Expr) {op : CmpOp} (h : op ≠ .In := by decide) (h2 : op ≠ .NotIn := by decide) : behindInMarks op b = false := by
  have e1 : (op == CmpOp.In) = false := by cases op <;> first | rfl | exact absurd rfl h
  have e2 : (op == CmpOp.NotIn) = false := by cases op <;> first | rfl | exact absurd rfl h2
  cases b <;> simp [behindInMarks, e1, e2]
/-- a comparison as a value; hm: nomark b, or (for in, not in) by with_unfolding_all rfl -/
theorem pe_cmpR {op : CmpOp} {r : R2} (ho : OpR X (compareOp op) r) (ha : PE X a ta) (hb : PE X b tb) (hm : behindInMarks op b = false) : PE X (.Compare a [op] [b] pos) (tOp r ta tb) := by
  intro pins s σ H Q I h
  exact wpAny_Compare1 (binT ha hb I h fun v u s2 x y H2 I2 rx ry q => ho pins s2 σ H2 x y v u Q I2 rx ry q) hm
/-- a reading of a value as a test -/
def tTest (t : TE) : TT := fun σ H Q => t σ H fun x H' => ∃ k, x = .bl k ∧ Q k H'
theorem pt_cmpR {op : CmpOp} {r : R2} (ho : OpR X (compareOp op) r) (ha : PE X a ta) (hb : PE X b tb) (hm : behindInMarks op b = false) : PT X (.Compare a [op] [b] pos) (tTest (tOp r ta tb)) := by
  intro pins s σ H Q I h
  refine wpAny_isTrue_Compare1 (thn (ha pins s σ H _ I h) fun v s1 ⟨x, H1, I1, r1, q1⟩ => thn (hb pins s1 σ H1 _ I1 q1) fun u s2 ⟨y, H2, I2, r2, q2⟩ =>
    thn (ho pins s2 σ H2 x y v u _ I2 r1 r2 q2) fun c s3 ⟨z, H3, I3, r3, k, e, q3⟩ => ?_) hm
  subst e
  cases r3
  exact wpAny_truthy_bool ⟨H3, I3, q3⟩
/-- a op1 b op2 c -/
def tChain (r r' : R2) (ta tb tc : TE) : TE := fun σ H Q => ta σ H fun x H1 => tb σ H1 fun y H2 => r x y H2 fun z H3 => ∃ k, z = .bl k ∧
  (if k = true then tc σ H3 fun w' H4 => r' y w' H4 Q else Q (.bl false) H3)
/-! ### truth -/
/-- a value's truth by the abstract heap -/
def TruV (K : PySem.W.Frag) (x : V) (H : Hp) (k : Bool) : Prop :=
  match x with
  | .non => k = false
  | .bl b => k = b
  | .int i => k = (i != 0)
  | .str y => y.length ≤ sizeLine ∧ k = ((y.length : Int) != 0)
  | .byt y => y.size ≤ sizeLine ∧ k = ((y.size : Int) != 0)
  | .ref p => (∃ xs, SqL K H p xs ∧ k = !xs.isEmpty) ∨ (∃ xs, SqT K H p xs ∧ k = !xs.isEmpty) ∨ ∃ kvs, H p = some (.dK kvs) ∧ k = !kvs.isEmpty
  | _ => False
theorem line63 : (sizeLine : Nat) < 2 ^ 63 := by rw [sizeLine_eq]; decide
/-! ### strs and bytes -/
theorem op_add_str : OpR X (binaryOp .Add) (fun x y H Q => ∃ i j, x = .str i ∧ y = .str j ∧ i.length + j.length ≤ sizeLine ∧ Q (.str (i ++ j)) H) := by
  intro pins s σ H x y v u Q I rx ry h
  obtain ⟨i, j, rfl, rfl, hz, q⟩ := h
  obtain ⟨t, rfl⟩ := rx
  obtain ⟨t', rfl⟩ := ry
  exact add_str (fun t' tk => ⟨.str (i ++ j), H, I.tok _, ⟨_, rfl⟩, q⟩) hz
def PlainIxT (b : Expr) : Prop := ∀ o i, subscripted b false o i = operate [o, i] (getItem o i)
/-! ### scalar builtins, by CallR -/
theorem vals1 {x : V} {us : List Value} (r : Vals [x] us) : ∃ u, us = [u] ∧ RelV x u := by
  cases r with
  | cons r1 r2 => cases r2; exact ⟨_, rfl, r1⟩
theorem vals2 {x y : V} {us : List Value} (r : Vals [x, y] us) : ∃ u w', us = [u, w'] ∧ RelV x u ∧ RelV y w' := by
  cases r with
  | cons r1 r2 =>
    cases r2 with
    | cons r3 r4 => cases r4; exact ⟨_, _, rfl, r1, r3⟩
theorem call_abs : CallR X (.builtin "abs") (fun xs H Q => ∃ i, xs = [.int i] ∧ Q (.int (if i < 0 then -i else i)) H) := by
  intro pins s σ H xs us Q I r h
  obtain ⟨i, rfl, q⟩ := h
  obtain ⟨u, rfl, t, rfl⟩ := vals1 r
  exact call_abs_int fun u tk => ⟨.int (if i < 0 then -i else i), H, I.tok _, ⟨_, rfl⟩, q⟩
theorem call_min2 (hc : X.calm = true) : CallR X (.builtin "min") (fun xs H Q => ∃ i j, xs = [.int i, .int j] ∧ Q (.int (if j < i then j else i)) H) := by
  intro pins s σ H xs us Q I r h
  obtain ⟨i, j, rfl, q⟩ := h
  obtain ⟨u, w', rfl, ⟨t, rfl⟩, ⟨t', rfl⟩⟩ := vals2 r
  refine min_two_ints (I.ok.hd hc) fun h' tk k => ⟨_, H, I.kept k, ?_, q⟩
  by_cases hj : j < i
  · rw [if_pos hj, if_pos hj]; exact ⟨_, rfl⟩
  · rw [if_neg hj, if_neg hj]; exact ⟨_, rfl⟩
theorem call_int1 : CallR X (.type "int") (fun xs H Q => (∃ i, xs = [.int i] ∧ Q (.int i) H) ∨ ∃ k, xs = [.bl k] ∧ Q (.int (if k then 1 else 0)) H) := by
  intro pins s σ H xs us Q I r h
  rcases h with ⟨i, rfl, q⟩ | ⟨k, rfl, q⟩
  · obtain ⟨u, rfl, t, rfl⟩ := vals1 r
    exact call_int_int ⟨.int i, H, I, ⟨_, rfl⟩, q⟩
  · obtain ⟨u, rfl, r1⟩ := vals1 r
    cases r1
    exact call_int_bool ⟨.int (if k then 1 else 0), H, I.tok _, ⟨_, rfl⟩, q⟩
/-- len of a str, a bytes, a list, a tuple -/
def LenV (K : PySem.W.Frag) (x : V) (H : Hp) (n : Nat) : Prop :=
  match x with
  | .str y => y.length ≤ sizeLine ∧ n = y.length
  | .byt y => y.size ≤ sizeLine ∧ n = y.size
  | .ref p => (∃ xs, SqL K H p xs ∧ n = xs.length) ∨ ∃ xs, SqT K H p xs ∧ n = xs.length
  | _ => False
end
end L2

namespace L2
open PySem PySem.Spec PyProof.Rows

/-! ### an instance, its attributes a map -/
structure ObjM (h : Heap) (x dx C : Addr) (mA : Str → Option Value) : Prop where
  obj : h.get? x = some (PySem.W.instObj C dx)
  ns : h.Ns1 dx mA
  ne : dx ≠ x

section
variable {prog : Program} {w : World} {A : Around} {E : Value → Shared → Prop} {s : Shared} {K : PySem.W.Frag} {x dx C f : Addr} {mA : Str → Option Value} {name : Str} {v : Value}

end

/-! ### the attributes as a list of pairs -/
def putF (f : Str) (v : V) : List (Str × V) → List (Str × V)
  | [] => [(f, v)]
  | (g, x) :: r => if g = f then (g, v) :: r else (g, x) :: putF f v r
theorem RelO.some_of {v : V} {o : Option Value} (r : RelO (some v) o) : ∃ u, o = some u ∧ RelV v u := by
  cases o with
  | none => exact (show False from r).elim
  | some u => exact ⟨u, rfl, r⟩
theorem handed_of {v : V} {u : Value} (r : RelV v u) : PySem.W.handedIn u = true := by
  cases v with
  | non => cases (show u = Value.none from r); rfl
  | bl b => cases (show u = Value.bool b from r); rfl
  | int i => obtain ⟨t, e⟩ := (show ∃ t, u = Value.int i t from r); cases e; rfl
  | str x => obtain ⟨t, e⟩ := (show ∃ t, u = Value.str x t from r); cases e; rfl
  | byt b => obtain ⟨t, e⟩ := (show ∃ t, u = Value.bytes b t from r); cases e; rfl
  | flt b => obtain ⟨t, e⟩ := (show ∃ t, u = Value.float b t from r); cases e; rfl
  | ref a => cases (show u = Value.ref a from r); rfl
  | ty n => cases (show u = Value.type n from r); rfl

section
variable {P : Program} {w : World} {H H' : Hp} {h h' : Heap} {a C dx : Addr} {fs fs' : List (Str × V)}
end

/-! ### what of the text a class must have -/
structure Cls (K : PySem.W.Frag) (C : Addr) : Prop where
  pg : PySem.W.plainGet K C Str.empty = true
  hd : PySem.W.hasDictIn K C = true
  po : PySem.W.plainOver K C = true
  sa : PySem.W.findIn K (.ref C) "__setattr__" = some (some (.builtin "object.__setattr__"))
/-- no class of it has the name -/
def NoAttr (K : PySem.W.Frag) (C : Addr) (f : Str) : Prop := PySem.W.findIn K (.ref C) f = some none
/-- a constant of the class -/
structure Con (K : PySem.W.Frag) (C : Addr) (f : Str) (v : V) (u : Value) : Prop where
  at_ : PySem.W.findIn K (.ref C) f = some (some u)
  rel : RelV v u
  get : PySem.W.specialIn K u "__get__" = some none
  cp : PySem.W.copiedNames.contains f = false
/-- a method: a plain def of the class or of one above it -/
structure Meth (K : PySem.W.Frag) (C : Addr) (m : Str) (f : Addr) : Prop where
  at_ : PySem.W.findIn K (.ref C) m = some (some (.ref f))
  fn : PySem.W.isFn K (.ref f) = true
  kp : PySem.W.keepIn K (.ref f) = true

section
variable {X : Cx} {pins : List (Addr × Obj)} {σ : St} {H : Hp} {s : Shared} {a C dx : Addr} {fs : List (Str × V)} {f : Str} {v : V} {A : Around} {E : Value → Shared → Prop}

/-- e.f where nothing but the object is asked: through attributeBase (super) and the last hold -/
theorem attr_of {prog : Program} {w : World} {env : Env} {e : Expr} {f : Str} {pos : Pos} {s : Shared} {Q : Value → Shared → Prop} (hb : attributeBase e f env (eval e env) = eval e env)
    (h : wpAny (model prog w) A (eval e env) (fun o s₁ => wpAny (model prog w) A (getAttr o f true) Q E s₁) E s) : wpAny (model prog w) A (eval (.Attribute e f pos) env) Q E s :=
  Attribute_any_ h (by rw [arm_eval_Attribute, hb])
end

/-! ### readings and rules -/
/-- e.f, an attribute of the instance -/
def tFld (K : PySem.W.Frag) (ta : TE) (f : Str) : TE := fun σ H Q => ta σ H fun x H1 => ∃ a C dx fs v, x = .ref a ∧ H1 a = some (.ins C dx fs) ∧ Cls K C ∧ NoAttr K C f ∧ fs.lookup f = some v ∧ Q v H1
/-- e.f, a constant of the class -/
def tCon (K : PySem.W.Frag) (ta : TE) (f : Str) : TE := fun σ H Q => ta σ H fun x H1 => ∃ a C dx fs v u, x = .ref a ∧ H1 a = some (.ins C dx fs) ∧ Cls K C ∧ Con K C f v u ∧ fs.lookup f = none ∧ Q v H1
/-- e.f = value -/
def sFld (K : PySem.W.Frag) (ta tv : TE) (f : Str) : TS := fun D σ H => tv σ H fun y H1 => ta σ H1 fun x H2 => ∃ a C dx fs, x = .ref a ∧ H2 a = some (.ins C dx fs) ∧ Cls K C ∧ NoAttr K C f ∧ fs.length < 1000 ∧
  D.nx σ (upd H2 a (.ins C dx (putF f y fs)))
/-- an augmented operator on two values -/
def InOp (X : Cx) (op : Operator) (rd : V → V → Hp → VK → Prop) : Prop :=
  ∀ (pins : List (Addr × Obj)) (s : Shared) (σ : St) (H : Hp) (x y : V) (u v : Value) (Q : VK), Inv X pins σ H s → RelV x u → RelV y v → rd x y H Q → wpAny (model X.prog X.w) X.A (inplaceOp op u v) (EP X pins σ Q) X.xe s
/-- e.f op= value -/
def sFldAug (K : PySem.W.Frag) (ta tv : TE) (rd : V → V → Hp → VK → Prop) (f : Str) : TS := fun D σ H => ta σ H fun x H1 => ∃ a C dx fs v, x = .ref a ∧ H1 a = some (.ins C dx fs) ∧ Cls K C ∧ NoAttr K C f ∧ fs.lookup f = some v ∧
  tv σ H1 fun y H2 => rd v y H2 fun z H3 => ∃ dx' fs', H3 a = some (.ins C dx' fs') ∧ fs'.length < 1000 ∧ D.nx σ (upd H3 a (.ins C dx' (putF f z fs')))

section
variable {X : Cx} {o e value : Expr} {f : Str} {pos pos' tpos : Pos} {ta tv : TE}
def rAdd : V → V → Hp → VK → Prop := fun x y H Q => ∃ i j, x = .int i ∧ y = .int j ∧ Q (.int (i + j)) H
def rSub : V → V → Hp → VK → Prop := fun x y H Q => ∃ i j, x = .int i ∧ y = .int j ∧ Q (.int (i - j)) H
end

/-! ### isinstance -/
section
variable {X : Cx} {pins : List (Addr × Obj)} {σ : St} {H : Hp} {s : Shared} {A : Around} {E : Value → Shared → Prop} {Q : Value → Shared → Prop} {c : Value} {b : Bool}
/-- the type of a value, as the fragment's deciders take it; for an instance its class -/
inductive TyOf (K : PySem.W.Frag) (H : Hp) : V → Value → Prop where
  | non : TyOf K H .non (.type "NoneType")
  | bl (x : Bool) : TyOf K H (.bl x) (.type "bool")
  | int (i : Int) : TyOf K H (.int i) (.type "int")
  | str (x : Str) : TyOf K H (.str x) (.type "str")
  | flt (x : UInt64) : TyOf K H (.flt x) (.type "float")
  | lst {a : Addr} {xs : List V} (e : H a = some (.lst xs)) : TyOf K H (.ref a) (.type "list")
  | frz {a : Addr} {o : Obj} {xs : List V} (e : H a = some (.frz o (.lst xs))) : TyOf K H (.ref a) (.type "list")
  | tup {a : Addr} {xs : List V} (e : H a = some (.tup xs)) : TyOf K H (.ref a) (.type "tuple")
  | dK {a : Addr} {kvs : List (Key × V)} (e : H a = some (.dK kvs)) : TyOf K H (.ref a) (.type "dict")
  | dT {a : Addr} {kvs : List (List Key × V)} (e : H a = some (.dT kvs)) : TyOf K H (.ref a) (.type "dict")
  | ins {a C dx : Addr} {fs : List (Str × V)} (e : H a = some (.ins C dx fs)) (cl : Cls K C) (ha : PySem.W.findIn K (.ref C) "__class__" = some (some (.builtin "object.__class__")))
      (hn : PySem.W.specialIn K (.builtin "object.__class__") "__get__" = some (some (.builtin "getset_descriptor.__get__"))) (htk : PySem.W.takesIn K (.builtin "object.__class__") = some true)
      (hm : PySem.W.mroIn K C (.type "object") = some true) : TyOf K H (.ref a) (.ref C)
end
end L2

namespace L2
open PySem PySem.Spec PyProof.Rows

/-! ### room -/
structure Room (k : Nat) (A : Around) : Prop where
  hd : A.handled = none
  dp : A.depth + 3 * k + 5 < recursionLimit
  un : A.units + 16 * k + 200 < cLine
theorem Room.mono {j k : Nat} {A : Around} (r : Room k A) (h : j ≤ k) : Room j A := ⟨r.hd, by have := r.dp; omega, by have := r.un; omega⟩
theorem Room.deeper {k : Nat} {A : Around} (r : Room (k + 1) A) (env : Env) : Room k (A.deeper env) :=
  ⟨r.hd, by have := r.dp; show A.depth + 1 + 3 * k + 5 < _; omega, by have := r.un; show A.units + 3 + 16 * k + 200 < _; omega⟩
theorem make_depth {A : Around} {C : Addr} {us : List Value} {kw : List (Str × Value)} : (A.under (.builtin "type.__call__" ⟨.ref C :: us, kw⟩)).depth = A.depth + 1 := by
  first | rfl | simp [Around.under, Code.weight, Code.isCreation, Code.isGuard, Code.isCaller, Code.frames, Code.isFrame, guardIds]
theorem make_units {A : Around} {C : Addr} {us : List Value} {kw : List (Str × Value)} : (A.under (.builtin "type.__call__" ⟨.ref C :: us, kw⟩)).units = A.units + 1 := by
  first | rfl | simp [Around.under, Code.cUnits, Code.frames, Code.isFrame]
theorem Room.make {k : Nat} {A : Around} (r : Room (k + 1) A) (C : Addr) (us : List Value) (kw : List (Str × Value)) : Room k (A.under (.builtin "type.__call__" ⟨.ref C :: us, kw⟩)) :=
  ⟨r.hd, by have := r.dp; rw [make_depth]; omega, by have := r.un; rw [make_units]; omega⟩
theorem Room.depth {k : Nat} {A : Around} (r : Room k A) : A.depth < recursionLimit := by have := r.dp; omega
theorem Room.units {k : Nat} {A : Around} (r : Room k A) : A.units + 64 < cLine := by have := r.un; omega
/-! ### argument lists and displays -/
def tNil : TA := fun _ H Q => Q [] H
def tCons (ta : TE) (tr : TA) : TA := fun σ H Q => ta σ H fun x H1 => tr σ H1 fun xs H2 => Q (x :: xs) H2
section
variable {X : Cx} {e : Expr} {es : List Expr} {te : TE} {t : TA} {pos : Pos}
theorem pa_nil : PA X [] tNil := fun _ _ _ _ H Q I h => Calls.spliced_nil ⟨[], H, I, .nil, h⟩
theorem pa_cons (ha : PE X e te) (hr : PA X es t) (hs : starEach (e :: es) X.env = (false, eval e X.env) :: starEach es X.env := by rfl) : PA X (e :: es) (tCons te t) := by
  intro pos pins s σ H Q I h
  rw [hs]
  show wpAny _ _ (spliced ((false, eval e X.env) :: backTo pos (starEach es X.env))) _ _ s
  refine Calls.spliced_cons (thn (ha pins s σ H _ I h) fun u s1 ⟨x, H1, I1, r1, q1⟩ => ?_)
  exact thn (hr pos pins s1 σ H1 _ I1 q1) fun us s2 ⟨xs, H2, I2, r2, q2⟩ => ⟨x :: xs, H2, I2, .cons r1 r2, q2⟩

/-- a tuple, a list of written items -/
def tTup (t : TA) : TE := fun σ H Q => t σ H fun xs H1 => xs.length ≤ sizeLine ∧ ∀ p, H1 p = none → Q (.ref p) (upd H1 p (.tup xs))
def tLst (t : TA) : TE := fun σ H Q => t σ H fun xs H1 => xs.length ≤ sizeLine ∧ ∀ p, H1 p = none → Q (.ref p) (upd H1 p (.lst xs))
theorem pe_tup {x1} (h : PA X es t) : PE X (.Tuple es x1 pos) (tTup t) := by
  intro pins s σ H Q I hq
  refine wpAny_Tuple_spliced (thn (h pos pins s σ H _ I hq) fun us s1 ⟨xs, H1, I1, r, z, q⟩ => ⟨by rw [← r.length]; exact z, ?_⟩)
  have hf : H1 s1.heap.objs.size = none := I1.hok.fresh (Nat.le_refl _)
  refine ⟨.ref s1.heap.objs.size, upd H1 s1.heap.objs.size (.tup xs), I1.laid (t' := s1.toks) (fun b u e => Heap.get?_push_of_some _ e) (Nat.le_refl _) ?_, rfl, q _ hf⟩
  exact ⟨z, us, r, ⟨_, Heap.get?_push_size _ rfl, rfl, _, rfl⟩⟩
theorem pe_lst (h : PA X es t) : PE X (.List es pos) (tLst t) := by
  intro pins s σ H Q I hq
  refine wpAny_List_spliced (thn (h pos pins s σ H _ I hq) fun us s1 ⟨xs, H1, I1, r, z, q⟩ => ⟨by rw [← r.length]; exact z, ?_⟩)
  have hf : H1 s1.heap.objs.size = none := I1.hok.fresh (Nat.le_refl _)
  refine ⟨.ref s1.heap.objs.size, upd H1 s1.heap.objs.size (.lst xs), I1.laid (t' := s1.toks) (fun b u e => Heap.get?_push_of_some _ e) (Nat.le_refl _) ?_, rfl, q _ hf⟩
  exact ⟨z, us, 0, r, Heap.get?_push_size _ rfl⟩
end

/-! ### what a def promises -/
/-- a def's promise: the bound arguments in the parameters' order, the heap, the wanted end, the wanted exception -/
abbrev Sp := List V → Hp → VK → XK → Prop
/-- how an exception lies behind a call (file 08 gives it): the callers' frames, abstract heap and state ahead of the call, the wish, the exception, the state -/
abbrev CXT := List Env → Hp → Shared → XK → Value → Shared → Prop

/-- the state at a call -/
structure Env0 (P : Program) (w : World) (K : PySem.W.Frag) (mg : Str → Option Value) (base : Heap) (A : Around) (outer : List Env) (s : Shared) (H : Hp) : Prop where
  frames : A.frames = some outer
  mod : Mod K mg base
  bs : ∀ b o, base.get? b = some o → s.heap.get? b = some o ∧ H b = none
  bsz : base.objs.size ≤ s.heap.objs.size
  funs : s.heap.FunFrames base outer
  frf : ∀ b ∈ frs outer, H b = none
  hok : HOk P w H s.heap
  bare : AllBare s.gens
/-- a call's end -/
def CE (outer : List Env) (P : Program) (w : World) (H : Hp) (s : Shared) (Q : VK) (u : Value) (s' : Shared) : Prop :=
  ∃ v H', s'.os = s.os ∧ AllBare s'.gens ∧ Un (frs outer) [] H H' s.heap s'.heap ∧ HOk P w H' s'.heap ∧ RelV v u ∧ Q v H'
def CR (CX : CXT) (outer : List Env) (P : Program) (w : World) (H : Hp) (s : Shared) (Q : VK) (E : XK) (r : Result) (s' : Shared) : Prop :=
  match r with
  | .ok (.ret u) => CE outer P w H s Q u s'
  | .ok _ => False
  | .error e => CX outer H s E e s'
structure FnOk (P : Program) (w : World) (K : PySem.W.Frag) (mg : Str → Option Value) (base : Heap) (CX : CXT) (k : Nat) (f : Addr) (fd : FuncData) (ps : List Str) (sp : Sp) : Prop where
  len : ∀ vs H Q E, sp vs H Q E → vs.length = ps.length
  run : ∀ (A : Around) (outer : List Env) (s : Shared) (H : Hp) (args : Args) (us : List Value) (vs : List V) (Q : VK) (E : XK), Room k A → Env0 P w K mg base A outer s H → BindsTo s fd args (ps.zip us) → Vals vs us → sp vs H Q E →
    codeAny (model P w) A (.call (.ref f) args) (CR CX outer P w H s Q E) s
theorem FnOk.mono {P : Program} {w : World} {K : PySem.W.Frag} {mg : Str → Option Value} {base : Heap} {CX : CXT} {j k : Nat} {f : Addr} {fd : FuncData} {ps : List Str} {sp : Sp} (F : FnOk P w K mg base CX j f fd ps sp) (h : j ≤ k) :
    FnOk P w K mg base CX k f fd ps sp := ⟨F.len, fun A outer s H args us vs Q E hr => F.run A outer s H args us vs Q E (hr.mono h)⟩
theorem Env0.make {P : Program} {w : World} {K : PySem.W.Frag} {mg : Str → Option Value} {base : Heap} {A : Around} {outer : List Env} {s : Shared} {H : Hp} (e : Env0 P w K mg base A outer s H) (C : Addr) (us : List Value) (kw : List (Str × Value)) :
    Env0 P w K mg base (A.under (.builtin "type.__call__" ⟨.ref C :: us, kw⟩)) outer s H := ⟨by first | exact e.frames | (simpa [Around.under, Code.envs, Code.isFrame, pushEnvs] using e.frames), e.mod, e.bs, e.bsz, e.funs, e.frf, e.hok, e.bare⟩
section
variable {X : Cx} {pins : List (Addr × Obj)} {σ : St} {H : Hp} {s s' : Shared}
/-- from a body: what a callee wants -/
theorem Inv.env0 (I : Inv X pins σ H s) : Env0 X.prog X.w X.K X.mg X.base X.A X.stack s H :=
  ⟨I.ok.frames, I.ok.mod, I.bs, Nat.le_trans I.ok.bsz I.sz, I.stack, I.stkFree, I.hok, I.bare⟩
/-- behind a call -/
theorem Inv.after {Q : VK} {u : Value} (I : Inv X pins σ H s) (h : CE X.stack X.prog X.w H s Q u s') : EP X pins σ Q u s' := by
  obtain ⟨v, H', os, bare, un, hok, r, q⟩ := h
  obtain ⟨hh, g, d, t, os'⟩ := s'
  obtain rfl : os' = s.os := os
  exact ⟨v, H', I.call (h' := hh) (g' := g) (d' := d) (t' := t) (ch := []) un hok bare (fun b z => absurd z (by simp)), r, q⟩
end

/-! ### calls -/
/-- f(..): the written arguments, then the defaults dvs; E: what is wanted of an exception -/
def tCall (sp : Sp) (dvs : List V) (E : XK) (t : TA) : TE := fun σ H Q => t σ H fun vs H1 => sp (vs ++ dvs) H1 Q E
/-- o.m(..) of an instance of the class at C -/
def tMeth (C : Addr) (m : Str) (sp : Sp) (dvs : List V) (E : XK) (ta : TE) (t : TA) : TE := fun σ H Q => ta σ H fun x H1 => ∃ a dx fs, x = .ref a ∧ H1 a = some (.ins C dx fs) ∧ fs.lookup m = none ∧
  t σ H1 fun vs H2 => sp (x :: (vs ++ dvs)) H2 Q E
/-- C(..): a new instance and its dict, then __init__ -/
def tMake (C : Addr) (sp : Sp) (dvs : List V) (E : XK) (t : TA) : TE := fun σ H Q => t σ H fun vs H1 => ∀ x dx, H1 x = none → H1 dx = none → dx ≠ x →
  sp (.ref x :: (vs ++ dvs)) (upd (upd H1 dx (.own x)) x (.ins C dx [])) (fun v H2 => v = .non ∧ Q (.ref x) H2) E

/-- how the parameters are bound: us the positional arguments, kw the keywords' values by name, ds the defaults that fill up -/
def Binds (K : PySem.W.Frag) (fd : FuncData) (ps : List Str) (ds : List Value) : Prop :=
  ∀ (s : Shared) (us : List Value), K.In s.heap → (us ++ ds).length = ps.length → BindsTo s fd ⟨us, []⟩ (ps.zip (us ++ ds))
/-- every parameter is given -/
theorem Binds.all {K : PySem.W.Frag} {fd : FuncData} {ps : List Str} (h : ∀ us : List Value, us.length = ps.length → bindArgs fd ⟨us, []⟩ = pure (ps.zip us)) : Binds K fd ps [] := fun s us _ hl => by
  rw [List.append_nil] at hl ⊢
  exact .of_eq (h us hl)

/-- an exception of a callee reaches what this body wants of exceptions -/
def Passes (CX : CXT) (X : Cx) (E : XK) : Prop := ∀ (pins : List (Addr × Obj)) (σ : St) (H : Hp) (s : Shared) (e : Value) (s' : Shared), Inv X pins σ H s → CX X.stack H s E e s' → X.xe e s'

section
variable {X : Cx} {CX : CXT} {k : Nat} {f C : Addr} {fd : FuncData} {ps : List Str} {sp : Sp} {dvs : List V} {ds : List Value} {E : XK} {x m : Str} {p pos apos : Pos} {e o : Expr} {es : List Expr} {ta : TE} {t : TA}

/-- the callee runs -/
theorem run_fn {pins : List (Addr × Obj)} {σ : St} {H : Hp} {s : Shared} {Q : VK} {us : List Value} {vs : List V} (F : FnOk X.prog X.w X.K X.mg X.base CX k f fd ps sp) (hr : Room k X.A) (hb : Binds X.K fd ps ds) (hd : Vals dvs ds) (hx : Passes CX X E)
    (I : Inv X pins σ H s) (r : Vals vs us) (h : sp (vs ++ dvs) H Q E) : wpAny (model X.prog X.w) X.A (call (.ref f) us) (EP X pins σ Q) X.xe s := by
  have r2 : Vals (vs ++ dvs) (us ++ ds) := r.append hd
  have hl : (us ++ ds).length = ps.length := by rw [← r2.length]; exact F.len _ _ _ _ h
  refine wpAny_call (codeAny_mono (F.run X.A X.stack s H ⟨us, []⟩ (us ++ ds) (vs ++ dvs) Q E hr I.env0 (hb s us I.kIn hl) r2 h) fun r s' hq => ?_)
  cases r with
  | error e => exact hx pins σ H s e s' I hq
  | ok fl =>
    cases fl with
    | ret u => exact I.after hq
    | next => exact False.elim hq
    | brk => exact False.elim hq
    | cont => exact False.elim hq

theorem pe_call (F : FnOk X.prog X.w X.K X.mg X.base CX k f fd ps sp) (hr : Room k X.A) (hg : Gl X x) (hm : X.mg x = some (.ref f)) (hk : PySem.W.keepIn X.K (.ref f) = true) (hb : Binds X.K fd ps ds) (hd : Vals dvs ds) (hx : Passes CX X E)
    (ha : PA X (e :: es) t) (hdb : (x == ("__debug__" : Str)) = false := by decide) (he : starEach (e :: es) X.env = (false, eval e X.env) :: starEach es X.env := by rfl) (hpl : (backTo pos (starEach es X.env)).any (·.1) = false := by rfl) :
    PE X (.Call (.Name x p) (e :: es) [] pos) (tCall sp dvs E t) := by
  intro pins s σ H Q I h
  refine wpAny_Call_Name_kw (ld_glob I hg hm ?_ hdb)
  refine PySem.W.callWith_K (h₀ := X.base) I.ok.mod.kin hk (thn (ha pos pins s σ H _ I h) fun us s1 ⟨vs, H1, I1, r, q⟩ => ⟨I1.kIn, ?_⟩) he hpl
  exact run_fn F hr hb hd hx I1 r q
/-- what a class must have to be made -/
structure Mk (K : PySem.W.Frag) (C f : Addr) : Prop where
  makes : PySem.W.makesIn K C = true
  init : PySem.W.findIn K (.ref C) "__init__" = some (some (.ref f))
  fn : PySem.W.isFn K (.ref f) = true
  kp : PySem.W.keepIn K (.ref C) = true

end

/-! ### keywords -/
/-- the values of the keywords, from the left -/
def PK (X : Cx) (kws : List Keyword) (t : TA) : Prop :=
  ∀ (pos : Pos) (pins : List (Addr × Obj)) (s : Shared) (σ : St) (H : Hp) (Q : List V → Hp → Prop), Inv X pins σ H s → t σ H Q → wpAny (model X.prog X.w) X.A (evalAll ((backToKw pos (keywordEach kws X.env)).map (·.2))) (AP X pins σ Q) X.xe s
section
variable {X : Cx} {CX : CXT} {k : Nat} {f C : Addr} {fd : FuncData} {ps ks : List Str} {sp : Sp} {E : XK} {x m : Str} {p pos apos kpos : Pos} {e o : Expr} {es : List Expr} {kws : List Keyword} {te ta : TE} {t tk : TA} {nm : Option Str}
/-- how a call with keywords binds: g puts the positional values us and the keywords' values ws (names ks) in the parameters' order, defaults among them -/
structure KBinds (K : PySem.W.Frag) (fd : FuncData) (ps ks : List Str) (g : List Value → List Value → List Value) (gV : List V → List V → List V) : Prop where
  to : ∀ (s : Shared) (us ws : List Value), K.In s.heap → (g us ws).length = ps.length → BindsTo s fd ⟨us, ks.zip ws⟩ (ps.zip (g us ws))
  rel : ∀ {vs : List V} {us : List Value} {zs : List V} {ws : List Value}, Vals vs us → Vals zs ws → Vals (gV vs zs) (g us ws)
def tCallK (sp : Sp) (gV : List V → List V → List V) (E : XK) (t tk : TA) : TE := fun σ H Q => t σ H fun vs H1 => tk σ H1 fun zs H2 => sp (gV vs zs) H2 Q E
variable {g : List Value → List Value → List Value} {gV : List V → List V → List V}
end

/-! ### a def's body keeps its promise -/
/-- names: the parameters first -/
structure FnScope (N P : List Str) (sc : Scope) : Prop where
  kind : sc.kind = .function
  co : sc.isCoroutine = false
  gen : sc.isGenerator = false
  nd : N.Nodup
  pre : N.take P.length = P
  par : ∀ x ∈ P, sc.names.lookup x = some .local ∨ sc.names.lookup x = some .cell
  nofree : ∀ y ∈ sc.names, y.2 ≠ .free

theorem bindL_out {kindOf : Str → Option NameKind} {x : Str} : ∀ {binds : List (Str × Value)} {m : Str → Option Value}, (∀ v, (x, v) ∉ binds) → bindL kindOf binds m x = m x
  | [], _, _ => rfl
  | (n, v) :: r, m, h => by
    unfold bindL
    rw [bindL_out fun w hw => h w (List.mem_cons_of_mem _ hw)]
    split
    · have : x ≠ n := by rintro rfl; exact h v List.mem_cons_self
      simp [this]
    · rfl
theorem bindC_out {kindOf : Str → Option NameKind} {x : Str} : ∀ {binds : List (Str × Value)} {m : Str → Option Value}, (∀ v, (x, v) ∉ binds) → bindC kindOf binds m x = m x
  | [], _, _ => rfl
  | (n, v) :: r, m, h => by
    unfold bindC
    rw [bindC_out fun w hw => h w (List.mem_cons_of_mem _ hw)]
    split
    · rfl
    · have : x ≠ n := by rintro rfl; exact h v List.mem_cons_self
      simp [this]
theorem bindL_get {kindOf : Str → Option NameKind} {x : Str} {v : Value} : ∀ {P : List Str} {vs : List Value} {i : Nat} {m : Str → Option Value}, P.Nodup → P[i]? = some x → vs[i]? = some v → kindOf x = some .local →
    bindL kindOf (P.zip vs) m x = some v
  | [], _, _, _, _, h, _, _ => by simp at h
  | _ :: _, [], _, _, _, _, h, _ => by simp at h
  | p :: P, w :: vs, 0, m, nd, h1, h2, hk => by
    simp at h1 h2; subst h1; subst h2
    show bindL kindOf ((p, w) :: P.zip vs) m p = _
    unfold bindL
    rw [bindL_out fun v hv => (List.nodup_cons.mp nd).1 (List.of_mem_zip hv).1, if_pos hk]
    simp
  | p :: P, w :: vs, i + 1, m, nd, h1, h2, hk => by
    show bindL kindOf ((p, w) :: P.zip vs) m x = _
    unfold bindL
    exact bindL_get (i := i) (List.nodup_cons.mp nd).2 (by simpa using h1) (by simpa using h2) hk
theorem bindC_get {kindOf : Str → Option NameKind} {x : Str} {v : Value} : ∀ {P : List Str} {vs : List Value} {i : Nat} {m : Str → Option Value}, P.Nodup → P[i]? = some x → vs[i]? = some v → kindOf x ≠ some .local →
    bindC kindOf (P.zip vs) m x = some v
  | [], _, _, _, _, h, _, _ => by simp at h
  | _ :: _, [], _, _, _, _, h, _ => by simp at h
  | p :: P, w :: vs, 0, m, nd, h1, h2, hk => by
    simp at h1 h2; subst h1; subst h2
    show bindC kindOf ((p, w) :: P.zip vs) m p = _
    unfold bindC
    rw [bindC_out fun v hv => (List.nodup_cons.mp nd).1 (List.of_mem_zip hv).1, if_neg hk]
    simp
  | p :: P, w :: vs, i + 1, m, nd, h1, h2, hk => by
    show bindC kindOf ((p, w) :: P.zip vs) m x = _
    unfold bindC
    exact bindC_get (i := i) (List.nodup_cons.mp nd).2 (by simpa using h1) (by simpa using h2) hk

/-- the names' values at the entry -/
def start (N : List Str) (vs : List V) : St := vs.map some ++ List.replicate (N.length - vs.length) none

/-- the context of a def's body, at its entry; an exception leaves the frame, then lies as CX says -/
def cxOf (CX : CXT) (P : Program) (w : World) (K : PySem.W.Frag) (mg : Str → Option Value) (base : Heap) (N : List Str) (qual : Str) (scope : Scope) (f : Addr) (cd : Value) (A : Around) (outer : List Env) (s : Shared) (H : Hp) (E : XK) : Cx where
  prog := P
  w := w
  K := K
  mg := mg
  base := base
  A := A.deeper (envOfC qual scope s.heap.objs.size f cd)
  N := N
  s₀ := s
  H₀ := H
  env := envOfC qual scope s.heap.objs.size f cd
  outer := outer
  stack := envOfC qual scope s.heap.objs.size f cd :: outer
  ex := []
  calm := true
  fn := fun _ => true
  pn := []
  xe := fun e s' => wpAny (model P w) (A.deeper (envOfC qual scope s.heap.objs.size f cd)) (leaving (envOfC qual scope s.heap.objs.size f cd) e) (fun _ s'' => CX outer H s E e s'') (fun e' s'' => CX outer H s E e' s'') s'

theorem cell_has {sc : Scope} {n : Nat} {x : Str} (h : sc.names.lookup x = some .cell) : ∃ c, (cellsFrom n sc.names []).lookup x = some c := by
  have q := PySem.W.cellsFrom_some sc.names n [] (.inl h)
  exact Option.isSome_iff_exists.mp q

theorem inv_start {CX : CXT} {P : Program} {w : World} {K : PySem.W.Frag} {mg : Str → Option Value} {base : Heap} {N ps : List Str} {qual : Str} {scope : Scope} {f : Addr} {cd : Value} {A : Around} {outer : List Env} {s s1 : Shared} {H : Hp} {E : XK} {us : List Value} {vs : List V}
    (S : FnScope N ps scope) (hd : A.handled = none) (e0 : Env0 P w K mg base A outer s H) (hl : vs.length = ps.length) (r : Vals vs us)
    (x : InCallC s s.heap.objs.size (bindL (envOfC qual scope s.heap.objs.size f cd).kindOf (ps.zip us) fun _ => none) (cellsFrom (s.heap.objs.size + 1) scope.names []) (bindC (envOfC qual scope s.heap.objs.size f cd).kindOf (ps.zip us) fun _ => none) s1) :
    Inv (cxOf CX P w K mg base N qual scope f cd A outer s H E) [] (start N vs) H s1 := by
  have hpl : ps.length ≤ N.length := by have := congrArg List.length S.pre; rw [List.length_take] at this; omega
  obtain ⟨h1, tk, rfl, hk⟩ := x.done
  have noA : ∀ b : Addr, b ∉ (cxOf CX P w K mg base N qual scope f cd A outer s H E).ex := fun b z => absurd (show b ∈ ([] : List Addr) from z) (by simp)
  refine ⟨⟨e0.mod, S.kind, rfl, rfl, Nat.le_refl _, fun y z c h1 h2 => ?_, fun y hy => ?_, fun y c _ h => ?_, fun _ => hd, Around.frames_deeper e0.frames, .inr ⟨rfl, rfl⟩, fun b z => absurd z (noA b), e0.bs, e0.bsz, fun b _ _ => noA b, fun b z => absurd z (noA b), e0.funs, e0.frf⟩,
    rfl, e0.bare, Un.kept hk, ⟨_, x.toInCall.ns, fun i y v h1 h2 h3 => ?_⟩, fun y c h => ⟨_, x.cell y c h⟩, e0.hok.fresh (Nat.le_refl _), fun y c h => ?_, fun p hp => absurd (show p ∈ ([] : List (Addr × Obj)) from hp) (by simp), e0.hok.kept hk, ?_⟩
  · exact name_of_addr x.apart (PySem.mem_of_lookup h1) (PySem.mem_of_lookup h2)
  · have hy : scope.names.lookup y = some .cell ∨ scope.names.lookup y = some .free := hy
    rcases hy with hy | hy
    · exact cell_has hy
    · exact absurd rfl (S.nofree _ (PySem.mem_of_lookup hy))
  · exact Nat.le_of_lt (x.above y c (PySem.mem_of_lookup h))
  · have hi : i < vs.length := by
      unfold start at h2
      by_cases hi : i < vs.length
      · exact hi
      · rw [List.getElem?_append_right (by simpa using hi)] at h2
        rw [List.getElem?_replicate] at h2
        split at h2 <;> cases h2
    have ha : vs[i]? = some v := by
      unfold start at h2
      rw [List.getElem?_append_left (by simpa using hi), List.getElem?_map] at h2
      cases e : vs[i]? with
      | none => rw [e] at h2; cases h2
      | some a => rw [e] at h2; cases h2; rfl
    obtain ⟨u, hu, rv⟩ := r.get ha
    have hp : ps[i]? = some y := by
      rw [← S.pre, List.getElem?_take_of_lt (by omega)]; exact h1
    have ndP : ps.Nodup := by rw [← S.pre]; exact S.nd.sublist (List.take_sublist _ _)
    refine ⟨u, rv, ?_⟩
    rcases S.par y (List.mem_of_getElem? hp) with k | k
    · exact .inl ⟨k, bindL_get ndP hp hu k⟩
    · obtain ⟨c, e⟩ := cell_has (n := s.heap.objs.size + 1) k
      refine .inr ⟨.inl k, c, e, ?_⟩
      have q := x.cell y c e
      rw [bindC_get ndP hp hu (by show scope.names.lookup y ≠ _; rw [k]; decide)] at q
      exact q
  · exact e0.hok.fresh (Nat.le_of_lt (x.above y c (PySem.mem_of_lookup h)))
  · unfold start
    show _ = N.length
    rw [List.length_append, List.length_map, List.length_replicate]
    omega

/-- THE RULE: a def (or a method) of the text, by its body. The body's reading t is chosen for each entry; it is run at the parameters' values -/
theorem fn_of {CX : CXT} {P : Program} {w : World} {K : PySem.W.Frag} {mg : Str → Option Value} {base : Heap} {k : Nat} {f : Addr} {name qual : Str} {params : Arguments} {body : List Stmt} {scope : Scope} {dV kV doc pm cdv ct oc : Value} {an od : Option Addr}
    {osl : Array (Option Value)} {N ps : List Str} {sp : Sp} (lk : K.lookup f = some ⟨oc, od, .func (PySem.W.fnOf name qual params body scope dV kV doc pm an cdv ct), osl⟩) (hcd : PySem.W.codeIn K cdv qual = true) (S : FnScope N ps scope)
    (len : ∀ vs H Q E, sp vs H Q E → vs.length = ps.length)
    (hbody : ∀ (A : Around) (outer : List Env) (s : Shared) (H : Hp) (vs : List V) (Q : VK) (E : XK), Room k (A.deeper (envOfC qual scope s.heap.objs.size f cdv)) → sp vs H Q E →
      ∃ t, PSs (cxOf CX P w K mg base N qual scope f cdv A outer s H E) body t ∧ t { nx := fun _ H' => Q .non H', rt := Q } (start N vs) H) :
    FnOk P w K mg base CX (k + 1) f (PySem.W.fnOf name qual params body scope dV kV doc pm an cdv ct) ps sp := by
  refine ⟨len, fun A outer s H args us vs Q E hr e0 hb r hsp => ?_⟩
  have hl := len _ _ _ _ hsp
  have KX : K.In s.heap := e0.mod.kin.keeps fun b o e => (e0.bs b o e).1
  have lim : s.heap.NoLimit := e0.mod.nolimit.keeps fun b o e => (e0.bs b o e).1
  have hkind : ∀ y ∈ ps.zip us, scope.names.lookup y.1 = some .local ∨ (scope.names.lookup y.1 = some .cell ∧ ((cellsFrom (s.heap.objs.size + 1) scope.names []).lookup y.1).isSome = true) := fun ⟨n, v⟩ hy => by
    rcases S.par n (List.of_mem_zip hy).1 with q | q
    · exact .inl q
    · exact .inr ⟨q, PySem.W.cellsFrom_some _ _ _ (.inl q)⟩
  refine codeAny_call_function hr.depth (KX _ _ lk) rfl S.co S.gen rfl (PySem.W.codeRec_of KX hcd) (hb _ _ _ _ ?_)
  refine wpAny_newFunctionEnv_cells S.kind hkind fun env he s1 x => ?_
  subst he
  refine ⟨lim.keeps x.toInCall.keep, codeAny_func ?_⟩
  obtain ⟨t, ht, hq⟩ := hbody A outer s H vs Q E (hr.deeper _) hsp
  have I : Inv (cxOf CX P w K mg base N qual scope f cdv A outer s H E) [] (start N vs) H s1 := inv_start S hr.hd e0 hl r x
  refine wpAny_mono (ht [] s1 (start N vs) H _ I hq) (fun fl s' hs => ?_) fun e s' hs => hs
  have fin : ∀ {σ' : St} {H' : Hp} {v : V} {u : Value}, Inv (cxOf CX P w K mg base N qual scope f cdv A outer s H E) [] σ' H' s' → RelV v u → Q v H' → CE outer P w H s Q u s' :=
    fun {σ' H' v u} J rv q => ⟨v, H', J.os, J.bare, J.base, J.hok, rv, q⟩
  cases fl with
  | ret u =>
    obtain ⟨v, σ', H', J, rv, q⟩ := hs
    exact fin J rv q
  | next =>
    obtain ⟨σ', H', J, q⟩ := hs
    exact fin (v := V.non) (u := Value.none) J rfl q
  | brk =>
    obtain ⟨_, _, _, q⟩ := hs
    exact False.elim q
  | cont =>
    obtain ⟨_, _, _, q⟩ := hs
    exact False.elim q
end L2

namespace L2
open PySem PySem.Spec PyProof.Rows
section
variable {X : Cx} {x : Str} {p pos : Pos} {e : Expr} {es : List Expr} {t : TA} {id T : String} {r : List V → Hp → VK → Prop}

def tCB (r : List V → Hp → VK → Prop) (t : TA) : TE := fun σ H Q => t σ H fun vs H1 => r vs H1 Q
/-- f(e, ..), f a built-in function -/
theorem pe_callB (hc : CallR X (.builtin id) r) (hg : Gl X x) (hm : X.mg x = none) (hv : bootBuiltins x = some (.builtin id)) (ha : PA X (e :: es) t) (hn : x ≠ "__name__" := by decide) (hdb : (x == ("__debug__" : Str)) = false := by decide)
    (he : starEach (e :: es) X.env = (false, eval e X.env) :: starEach es X.env := by rfl) (hpl : (backTo pos (starEach es X.env)).any (·.1) = false := by rfl) : PE X (.Call (.Name x p) (e :: es) [] pos) (tCB r t) := by
  intro pins s σ H Q I h
  refine wpAny_Call_Name_kw (ld_blt I hg hm hv ?_ hn hdb)
  exact PyProof.Rows.callWith_builtin1 (thn (ha pos pins s σ H _ I h) fun us s1 ⟨vs, H1, I1, r1, q1⟩ => hc pins s1 σ H1 vs us Q I1 r1 q1) he hpl
/-- T(e, ..), T a built-in type -/
theorem pe_callTy (hc : CallR X (.type T) r) (hg : Gl X x) (hm : X.mg x = none) (hv : bootBuiltins x = some (.type T)) (ha : PA X (e :: es) t) (hn : x ≠ "__name__" := by decide) (hdb : (x == ("__debug__" : Str)) = false := by decide)
    (he : starEach (e :: es) X.env = (false, eval e X.env) :: starEach es X.env := by rfl) (hpl : (backTo pos (starEach es X.env)).any (·.1) = false := by rfl) : PE X (.Call (.Name x p) (e :: es) [] pos) (tCB r t) := by
  intro pins s σ H Q I h
  refine wpAny_Call_Name_kw (ld_blt I hg hm hv ?_ hn hdb)
  exact PyProof.Rows.callWith_type1 (thn (ha pos pins s σ H _ I h) fun us s1 ⟨vs, H1, I1, r1, q1⟩ => hc pins s1 σ H1 vs us Q I1 r1 q1) he hpl
end
end L2

namespace HT
open PySem PyProof.Rows

/-- t < u of tuples of ints -/
def lexLt : List Int → List Int → Bool
  | [], [] => false
  | [], _ :: _ => true
  | _ :: _, [] => false
  | x :: xs, y :: ys => if x = y then lexLt xs ys else decide (x < y)
section
open PySem.SeqAt
open PySem.AutoSeq1 (wpAny_loadPart')
open PySem.MeetsSeq PySem.MeetsSeq2 PySem.MeetsSeq3

end

section
variable {prog : Program} {w : World} {A : Around} {E : Value → Shared → Prop} {s : Shared}

/-! ### t[a:b], not the whole -/
/-- a slice's bound as a place among n (d where it is left out) -/
def sIx (n d : Nat) : Option Int → Nat
  | none => d
  | some v => if v < 0 then (v + (n : Int)).toNat else min v.toNat n
end
end HT

namespace L2
open PySem PySem.Spec PyProof.Rows

/-! ### the parts of a slice -/
abbrev TO := St → Hp → (Option Int → Hp → Prop) → Prop
/-- a slice's part (left out, or an int) -/
def PO (X : Cx) (e : Option Expr) (t : TO) : Prop :=
  ∀ (pins : List (Addr × Obj)) (s : Shared) (σ : St) (H : Hp) (Q : Option Int → Hp → Prop), Inv X pins σ H s → t σ H Q →
    wpAny (model X.prog X.w) X.A (evalPart e X.env) (fun u s' => ∃ o H', Inv X pins σ H' s' ∧ IsPart u o ∧ Q o H') X.xe s
def tNoPart : TO := fun _ H Q => Q none H
def tPart (t : TE) : TO := fun σ H Q => t σ H fun x H1 => ∃ i, x = .int i ∧ Q (some i) H1

section
variable {X : Cx} {e : Expr} {te : TE} {lo hi : Option Expr} {tl th : TO} {pos p2 : Pos}

theorem po_none : PO X none tNoPart := by
  intro pins s σ H Q I h
  rw [evalPart_none]
  exact wpAny_pure ⟨none, H, I, .none, h⟩
theorem po_some (h : PE X e te) : PO X (some e) (tPart te) := by
  intro pins s σ H Q I hw
  rw [evalPart_some]
  refine thn (h pins s σ H _ I hw) fun u s1 ⟨x, H1, I1, r1, q1⟩ => ?_
  obtain ⟨i, rfl, q⟩ := q1
  obtain ⟨t, rfl⟩ := r1
  exact ⟨some i, H1, I1, .int i t, q⟩

/-- what a slice of a value is, by values: the slice object stands at sl -/
def SlR (X : Cx) (r : V → Option Int → Option Int → Hp → VK → Prop) : Prop :=
  ∀ (pins : List (Addr × Obj)) (s : Shared) (σ : St) (H : Hp) (x : V) (v vl vu : Value) (lo hi : Option Int) (sl : Addr) (Q : VK), Inv X pins σ H s → RelV x v → s.heap.IsSliceOf sl vl vu .none → IsPart vl lo → IsPart vu hi → r x lo hi H Q →
    ∃ T id, typeLookup (.type T) "__getitem__" = pure (some (.builtin id)) ∧ s.TypeIs v T ∧ wpAny (model X.prog X.w) X.A (getItem v (.ref sl)) (EP X pins σ Q) X.xe s
def tSl (r : V → Option Int → Option Int → Hp → VK → Prop) (te : TE) (tl th : TO) : TE := fun σ H Q => te σ H fun x H1 => tl σ H1 fun l H2 => th σ H2 fun u H3 => r x l u H3 Q
/-- a[lo:hi], any a -/
theorem pe_slice {r : V → Option Int → Option Int → Hp → VK → Prop} (hr : SlR X r) (he : PE X e te) (hl : PO X lo tl) (hu : PO X hi th) : PE X (.Subscript e (.Slice lo hi none p2) pos) (tSl r te tl th) := by
  intro pins s σ H Q I h
  refine Subscript_ (thn (he pins s σ H _ I h) fun v s1 ⟨x, H1, I1, r1, q1⟩ => ?_)
  refine wpAny_Slice (thn (hl pins s1 σ H1 _ I1 q1) fun vl s2 ⟨l, H2, I2, pl, q2⟩ => thn (hu pins s2 σ H2 _ I2 q2) fun vu s3 ⟨u, H3, I3, pu, q3⟩ => ?_)
  rw [evalPart_none]
  refine wpAny_pure ?_
  have I4 : Inv X pins σ H3 { s3 with heap := s3.heap.push { cls := .type "slice", data := .fields #[vl, vu, .none] } } := I3.kept (t' := s3.toks) fun b ob q => Heap.get?_push_of_some _ q
  obtain ⟨T, id, hT, ht, hg⟩ := hr pins { s3 with heap := s3.heap.push { cls := .type "slice", data := .fields #[vl, vu, .none] } } σ H3 x v vl vu l u s3.heap.objs.size Q I4 r1 (Heap.IsSliceOf.new ..) pl pu q3
  show wpAny (model X.prog X.w) X.A (subscriptTail e (.Slice lo hi none p2) v (.ref s3.heap.objs.size)) (EP X pins σ Q) X.xe { s3 with heap := s3.heap.push { cls := .type "slice", data := .fields #[vl, vu, .none] } }
  exact tail_any (ops := [.ref s3.heap.objs.size, v]) ht hT hg (by with_unfolding_all rfl)

/-- the items of xs[lo:hi] -/
def cutV (xs : List V) (lo hi : Option Int) : List V := (xs.drop (HT.sIx xs.length 0 lo)).take (HT.sIx xs.length xs.length hi - HT.sIx xs.length 0 lo)
/-- t[lo:hi], not the whole of it (the whole would be t itself) -/
def rSlT (K : PySem.W.Frag) : V → Option Int → Option Int → Hp → VK → Prop := fun x lo hi H Q => ∃ a xs, x = .ref a ∧ SqT K H a xs ∧
  ¬ (HT.sIx xs.length 0 lo = 0 ∧ HT.sIx xs.length xs.length hi = xs.length) ∧ ∀ p, H p = none → Q (.ref p) (upd H p (.tup (cutV xs lo hi)))
/-! ### t < u, t + u -/
def rLtT (K : PySem.W.Frag) : R2 := fun x y H Q => ∃ a b ns ms, x = .ref a ∧ y = .ref b ∧ SqT K H a (ns.map V.int) ∧ SqT K H b (ms.map V.int) ∧ Q (.bl (HT.lexLt ns ms)) H
/-- t + u, t not empty: u empty gives t itself -/
def rCatT (K : PySem.W.Frag) : R2 := fun x y H Q => ∃ a b xs ys, x = .ref a ∧ y = .ref b ∧ SqT K H a xs ∧ SqT K H b ys ∧ xs ≠ [] ∧ xs.length + ys.length ≤ sizeLine ∧
  (ys = [] → Q (.ref a) H) ∧ (ys ≠ [] → ∀ p, H p = none → Q (.ref p) (upd H p (.tup (xs ++ ys))))
end
end L2

namespace L2
open PySem PySem.Spec PyProof.Rows

/-! ### places -/
/-- the place that an index of any sign means -/
def ixN (n : Nat) (i : Int) : Option Nat := if 0 ≤ i then (if i < n then some i.toNat else none) else if -(n : Int) ≤ i then some (i + n).toNat else none
def atI {α : Type} (xs : List α) (i : Int) : Option α := (ixN xs.length i).bind fun j => xs[j]?
theorem ixN_seq {n : Nat} {i : Int} {j : Nat} (h : ixN n i = some j) : seqIndex? i n = some j ∧ j < n ∧ -(n : Int) ≤ i ∧ i < n := by
  unfold ixN at h
  by_cases h0 : 0 ≤ i
  · rw [if_pos h0] at h
    by_cases h1 : i < n
    · rw [if_pos h1] at h
      have e : i.toNat = j := Option.some.inj h
      exact ⟨by rw [seqIndex_of h0 h1, e], by omega, by omega, h1⟩
    · rw [if_neg h1] at h; cases h
  · rw [if_neg h0] at h
    by_cases h1 : -(n : Int) ≤ i
    · rw [if_pos h1] at h
      have e : (i + n).toNat = j := Option.some.inj h
      exact ⟨by rw [seqIndex_neg (by omega) h1, e], by omega, h1, by omega⟩
    · rw [if_neg h1] at h; cases h
theorem atI_get {α : Type} {xs : List α} {i : Int} {v : α} (h : atI xs i = some v) : ∃ j, seqIndex? i xs.length = some j ∧ xs[j]? = some v ∧ j < xs.length ∧ -(xs.length : Int) ≤ i ∧ i < xs.length := by
  unfold atI at h
  cases e : ixN xs.length i with
  | none => rw [e] at h; cases h
  | some j =>
    rw [e] at h
    obtain ⟨h1, h2, h3, h4⟩ := ixN_seq e
    exact ⟨j, h1, h, h2, h3, h4⟩
theorem atI_nat {α : Type} {xs : List α} {j : Nat} {v : α} (h : xs[j]? = some v) : atI xs (j : Int) = some v := by
  have hj : j < xs.length := (List.getElem?_eq_some_iff.mp h).1
  have e : ixN xs.length (j : Int) = some j := by
    unfold ixN
    rw [if_pos (by omega), if_pos (by omega)]; simp
  unfold atI; rw [e]; exact h
/-! ### what may be subscripted -/
/-- what stands as an index of a plain subscript -/
def PlainIx (b : Expr) : Prop := ∀ o i, subscripted b false o i = operate [o, i] (getItem o i)
/-- a subscript by values -/
def IxR (X : Cx) (r : R2) : Prop :=
  ∀ (value slice : Expr) (pins : List (Addr × Obj)) (s : Shared) (σ : St) (H : Hp) (x y : V) (v u : Value) (Q : VK), Inv X pins σ H s → RelV x v → RelV y u → r x y H Q →
    subscripted slice false v u = operate [v, u] (getItem v u) → wpAny (model X.prog X.w) X.A (subscriptTail value slice v u) (EP X pins σ Q) X.xe s
/-- a call of a builtin's method by values: the receiver, the arguments -/
def MtR (X : Cx) (id : String) (r : V → List V → Hp → VK → Prop) : Prop :=
  ∀ (pins : List (Addr × Obj)) (s : Shared) (σ : St) (H : Hp) (x : V) (xs : List V) (v : Value) (us : List Value) (Q : VK), Inv X pins σ H s → RelV x v → Vals xs us → r x xs H Q →
    wpAny (model X.prog X.w) X.A (call (.builtin id) (v :: us)) (EP X pins σ Q) X.xe s
section
variable {X : Cx} {a b : Expr} {ta tb : TE} {pos : Pos}
/-- a[b] -/
theorem pe_ix {r : R2} (hr : IxR X r) (ha : PE X a ta) (hb : PE X b tb) (hs : PlainIx b) : PE X (.Subscript a b pos) (tOp r ta tb) := by
  intro pins s σ H Q I h
  exact Subscript_ (binT ha hb I h fun v u s2 x y H2 I2 rx ry q => hr a b pins s2 σ H2 x y v u Q I2 rx ry q (hs _ _))

def rIxL (K : PySem.W.Frag) : R2 := fun x y H Q => ∃ p xs i v, x = .ref p ∧ y = .int i ∧ SqL K H p xs ∧ atI xs i = some v ∧ Q v H
def rIxT (K : PySem.W.Frag) : R2 := fun x y H Q => ∃ p xs i v, x = .ref p ∧ y = .int i ∧ SqT K H p xs ∧ atI xs i = some v ∧ Q v H
def rIxS : R2 := fun x y H Q => ∃ z i c, x = .str z ∧ y = .int i ∧ z.length ≤ sizeLine ∧ atI z.cps.toList i = some c ∧ Q (.str ⟨#[c]⟩) H
theorem ix_list : IxR X (rIxL X.K) := by
  intro value slice pins s σ H x y v u Q I rx ry h hs
  obtain ⟨p, xs, i, z, rfl, rfl, hq, he, q⟩ := h
  cases rx
  obtain ⟨t, rfl⟩ := ry
  obtain ⟨its, r, pl, hz⟩ := I.list hq
  obtain ⟨j, h1, h2, h3, h4, h5⟩ := atI_get he
  obtain ⟨w, ew, rw'⟩ := r.get h2
  have hl := r.length
  have hn := line63
  have fin : EP X pins σ Q w s := ⟨z, H, I, rw', q⟩
  by_cases h0 : 0 ≤ i
  · have hj : i.toNat = j := by
      rw [seqIndex_of h0 h5] at h1
      exact Option.some.inj h1
    exact item_listR pl.isList h0 (by omega) (by rw [hj]; simpa using ew) fin hs
  · have hj : (i + (its.toArray.size : Int)).toNat = j := by
      rw [seqIndex_neg (by omega) h4] at h1
      rw [List.size_toArray, ← hl]
      exact Option.some.inj h1
    exact subscriptTail_builtinR (x := w) pl.isList.typeIs slot_list_getitem.lookup
      (wpAny_getItem_list_neg (Q := fun r s' => r = w ∧ EP X pins σ Q r s') pl.isList (by omega) (by rw [List.size_toArray] <;> omega) (by omega) (by rw [hj]; simpa using ew) ⟨rfl, fin⟩) hs
theorem ix_tup : IxR X (rIxT X.K) := by
  intro value slice pins s σ H x y v u Q I rx ry h hs
  obtain ⟨p, xs, i, z, rfl, rfl, hq, he, q⟩ := h
  cases rx
  obtain ⟨t, rfl⟩ := ry
  obtain ⟨its, r, pl, hz⟩ := I.tuple hq
  obtain ⟨j, h1, h2, h3, h4, h5⟩ := atI_get he
  obtain ⟨w, ew, rw'⟩ := r.get h2
  have hl := r.length
  have hn := line63
  have fin : EP X pins σ Q w s := ⟨z, H, I, rw', q⟩
  exact subscriptTail_builtinR (x := w) pl.typeIs slot_tuple_getitem.lookup
    (getItem_tuple (j := j) (Q := fun r s' => r = w ∧ EP X pins σ Q r s') pl (by omega) (by omega) (by rw [List.size_toArray, ← hl]; exact h1) (by simpa using ew) ⟨rfl, fin⟩) hs
theorem ix_str : IxR X rIxS := by
  intro value slice pins s σ H x y v u Q I rx ry h hs
  obtain ⟨z, i, c, rfl, rfl, hz, he, q⟩ := h
  obtain ⟨t, rfl⟩ := rx
  obtain ⟨t', rfl⟩ := ry
  obtain ⟨j, h1, h2, h3, h4, h5⟩ := atI_get he
  have hl : z.cps.toList.length = z.length := by simp [Str.length]
  rw [hl] at h1 h4 h5
  have hn := line63
  exact tail_any (typeIs_str s z t) slot_str_getitem.lookup (getItem_str (c := c) (by
    have e1 : decide (i < -(2 ^ 63 : Int)) = false := decide_eq_false (by omega)
    have e2 : decide (i ≥ 2 ^ 63) = false := decide_eq_false (by omega)
    rw [e1, e2, Bool.or_false]) (by rw [h1]; simpa using h2) ⟨.str ⟨#[c]⟩, H, I.tok _, ⟨_, rfl⟩, q⟩) hs
/-- list, tuple or str -/
def rIx (K : PySem.W.Frag) : R2 := fun x y H Q => rIxL K x y H Q ∨ rIxT K x y H Q ∨ rIxS x y H Q
/-! ### xs[i] = v, any sign -/
/-- the list's object behind a store -/
theorem mapSeq_set (its : List Value) (n j : Nat) (u : Value) : Obj.mapSeq (·.setIfInBounds j u) { cls := .type "list", data := .seq its.toArray n } = { cls := .type "list", data := .seq (its.set j u).toArray n } := by
  simp [Obj.mapSeq]
theorem Inv.lst {pins : List (Addr × Obj)} {σ : St} {H : Hp} {s : Shared} {p : Addr} {xs : List V} (I : Inv X pins σ H s) (h : H p = some (.lst xs)) :
    ∃ (its : List Value) (n : Nat), Vals xs its ∧ s.heap.get? p = some { cls := .type "list", data := .seq its.toArray n } ∧ xs.length ≤ sizeLine := by
  obtain ⟨z, its, n, r, e⟩ := I.hok p _ h
  exact ⟨its, n, r, e, z⟩
/-- the list at p is written by an update of its object -/
theorem Inv.lstUpd {pins : List (Addr × Obj)} {σ : St} {H : Hp} {s : Shared} {p : Addr} {xs ys : List V} {its its' : List Value} {n n' : Nat} {f : Obj → Obj} (I : Inv X pins σ H s) (h : H p = some (.lst xs))
    (ho : s.heap.get? p = some { cls := .type "list", data := .seq its.toArray n }) (hf : f { cls := .type "list", data := .seq its.toArray n } = { cls := .type "list", data := .seq its'.toArray n' }) (r : Vals ys its') (hz : ys.length ≤ sizeLine) (t : Nat) :
    Inv X pins σ (upd H p (.lst ys)) { s with heap := s.heap.update p f, toks := t } := by
  have e : (s.heap.update p f).get? p = some { cls := .type "list", data := .seq its'.toArray n' } := by
    rw [Heap.get?_update_self f ho (by rw [hf] <;> rfl), hf]
  refine I.write (x := p) (e := p) (by rw [h]; trivial) (.inl rfl) (fun b u hb q => (Heap.get?_update_other _ _ (Ne.symm hb)).trans q) ⟨_, e⟩ ?_
  exact ⟨hz, its', n', r, e⟩
def rSetL : V → V → V → Hp → (Hp → Prop) → Prop := fun o i v H Q => ∃ p xs k j, o = .ref p ∧ i = .int k ∧ H p = some (.lst xs) ∧ ixN xs.length k = some j ∧ Q (upd H p (.lst (xs.set j v)))
theorem set_list : PSet X rSetL := by
  intro pins s σ H o i v ov iv u Q I ro ri rv h
  obtain ⟨p, xs, k, j, rfl, rfl, hp, hj, q⟩ := h
  cases ro
  obtain ⟨t, rfl⟩ := ri
  obtain ⟨its, n, r, ho, hz⟩ := I.lst hp
  obtain ⟨h1, h2, h3, h4⟩ := ixN_seq hj
  have hl := r.length
  have hn := line63
  have I' : Inv X pins σ (upd H p (.lst (xs.set j v))) { s with heap := s.heap.update p (Obj.mapSeq (·.setIfInBounds j u)) } :=
    I.lstUpd hp ho (mapSeq_set its n j u) (r.set rv j) (by rw [List.length_set]; exact hz) s.toks
  by_cases h0 : 0 ≤ k
  · have hk : k.toNat = j := by
      rw [seqIndex_of h0 h4] at h1
      exact Option.some.inj h1
    exact PySem.W.ki_setAt ho h0 (by omega) (by rw [List.size_toArray, ← hl]; exact h4) (by rw [hk]; exact ⟨_, I', q⟩)
  · have hk : (k + (its.toArray.size : Int)).toNat = j := by
      rw [seqIndex_neg (by omega) h3] at h1
      rw [List.size_toArray, ← hl]
      exact Option.some.inj h1
    exact PySem.W.ki_setBack ho (by omega) (by rw [List.size_toArray, ← hl]; exact h3) (by omega) (by rw [hk]; exact ⟨_, I', q⟩)

/-! ### slices -/
/-- xs[lo:hi] of a list: a new list -/
def rSlL (K : PySem.W.Frag) : V → Option Int → Option Int → Hp → VK → Prop := fun x lo hi H Q => ∃ a xs, x = .ref a ∧ SqL K H a xs ∧ ∀ p, H p = none → Q (.ref p) (upd H p (.lst (cutV xs lo hi)))
/-! ### in, not in: flat items -/
def flatV : V → Bool
  | .non => true
  | .bl _ => true
  | .int _ => true
  | .str _ => true
  | _ => false
/-- == of flat values -/
def eqV : V → V → Bool
  | .non, .non => true
  | .bl a, .bl b => a == b
  | .bl a, .int b => (if a then 1 else 0) == b
  | .int a, .bl b => a == (if b then 1 else 0)
  | .int a, .int b => a == b
  | .str a, .str b => a == b
  | _, _ => false
theorem eqAt_V {A : Around} {s : Shared} {y x : V} {u v : Value} (ry : RelV y u) (rx : RelV x v) (fy : flatV y = true) (fx : flatV x = true) : SeqAt.EqAt A s u v (eqV y x) := by
  cases y with
  | non =>
    cases ry
    cases x with
    | non => cases rx; exact SeqAt.EqAt.same _
    | bl b => cases rx; exact SeqAt.EqAt.none_bool b
    | int b => obtain ⟨t, rfl⟩ := rx; exact SeqAt.EqAt.none_int b t
    | str b => obtain ⟨t, rfl⟩ := rx; exact SeqAt.EqAt.none_str b t
    | _ => exact absurd (show false = true from fx) Bool.false_ne_true
  | bl a =>
    cases ry
    cases x with
    | non => cases rx; exact SeqAt.EqAt.bool_none a
    | bl b => cases rx; exact SeqAt.EqAt.bool_bool a b
    | int b => obtain ⟨t, rfl⟩ := rx; exact SeqAt.EqAt.bool_int a b t
    | str b => obtain ⟨t, rfl⟩ := rx; exact SeqAt.EqAt.bool_str a b t
    | _ => exact absurd (show false = true from fx) Bool.false_ne_true
  | int a =>
    obtain ⟨t', rfl⟩ := ry
    cases x with
    | non => cases rx; exact SeqAt.EqAt.int_none a t'
    | bl b => cases rx; exact SeqAt.EqAt.int_bool a t' b
    | int b => obtain ⟨t, rfl⟩ := rx; exact SeqAt.EqAt.int_int a t' b t
    | str b => obtain ⟨t, rfl⟩ := rx; exact SeqAt.EqAt.int_str a t' b t
    | _ => exact absurd (show false = true from fx) Bool.false_ne_true
  | str a =>
    obtain ⟨t', rfl⟩ := ry
    cases x with
    | non => cases rx; exact SeqAt.EqAt.str_none a t'
    | bl b => cases rx; exact SeqAt.EqAt.str_bool a t' b
    | int b => obtain ⟨t, rfl⟩ := rx; exact SeqAt.EqAt.str_int a t' b t
    | str b => obtain ⟨t, rfl⟩ := rx; exact SeqAt.EqAt.str_str a t' b t
    | _ => exact absurd (show false = true from fx) Bool.false_ne_true
  | _ => exact absurd (show false = true from fy) Bool.false_ne_true
/-- the items' answers, read off the values (a value's own answer does not lean on its token) -/
def eqU (x : V) (u : Value) : Bool := match u with
  | .none => eqV .non x
  | .bool b => eqV (.bl b) x
  | .int i _ => eqV (.int i) x
  | .str z _ => eqV (.str z) x
  | _ => false
theorem eqU_of {x y : V} {u : Value} (r : RelV y u) (f : flatV y = true) : eqU x u = eqV y x := by
  cases y with
  | non => cases r; rfl
  | bl b => cases r; rfl
  | int i => obtain ⟨t, rfl⟩ := r; rfl
  | str z => obtain ⟨t, rfl⟩ := r; rfl
  | _ => exact absurd (show false = true from f) Bool.false_ne_true
theorem any_eqU {x : V} : ∀ {xs : List V} {us : List Value}, Vals xs us → xs.all flatV = true → us.any (eqU x) = xs.any fun y => eqV y x
  | _, _, .nil, _ => rfl
  | y :: xs, u :: us, .cons r t, f => by
    rw [List.all_cons, Bool.and_eq_true] at f
    rw [List.any_cons, List.any_cons, eqU_of r f.1, any_eqU t f.2]
theorem mem_eqAt {A : Around} {s : Shared} {x : V} {v : Value} (rx : RelV x v) (fx : flatV x = true) : ∀ {xs : List V} {us : List Value}, Vals xs us → xs.all flatV = true → ∀ u ∈ us, SeqAt.EqAt A s u v (eqU x u)
  | _, _, .nil, _ => fun u hu => by cases hu
  | y :: xs, u :: us, .cons r t, f => fun u' hu => by
    rw [List.all_cons, Bool.and_eq_true] at f
    rcases List.mem_cons.mp hu with rfl | hu
    · rw [eqU_of r f.1]; exact eqAt_V r rx f.1 fx
    · exact mem_eqAt rx fx t f.2 u' hu
def inV (x : V) (xs : List V) : Bool := xs.any fun y => eqV y x
/-- x in a list or tuple of flat items -/
def rIn (K : PySem.W.Frag) (neg : Bool) : R2 := fun x y H Q => ∃ p xs, y = .ref p ∧ (SqL K H p xs ∨ SqT K H p xs) ∧ flatV x = true ∧ xs.all flatV = true ∧ Q (.bl (if neg then !inV x xs else inV x xs)) H
theorem op_in_seq : OpR X (compareOp .In) (rIn X.K false) := by
  intro pins s σ H x y v u Q I rx ry h
  obtain ⟨p, xs, rfl, hq, fx, fs, q⟩ := h
  cases ry
  rcases hq with hq | hq
  · obtain ⟨its, r, pl, hz⟩ := I.list hq
    refine SeqAt.in_listAt (eqU x) pl.isList (fun w hw => mem_eqAt rx fx r fs w (by simpa using hw)) ⟨.bl _, H, I, rfl, ?_⟩
    rw [show its.toArray.any (eqU x) = its.any (eqU x) by simp, any_eqU r fs]
    exact q
  · obtain ⟨its, r, pl, hz⟩ := I.tuple hq
    refine SeqAt.in_tupleAt (eqU x) pl (fun w hw => mem_eqAt rx fx r fs w (by simpa using hw)) ⟨.bl _, H, I, rfl, ?_⟩
    rw [show its.toArray.any (eqU x) = its.any (eqU x) by simp, any_eqU r fs]
    exact q
/-! ### len, list(x), tuple(x) of any list or tuple that is read -/
theorem call_len_seq : CallR X (.builtin "len") (fun xs H Q => ∃ p ys, xs = [.ref p] ∧ (SqL X.K H p ys ∨ SqT X.K H p ys) ∧ Q (.int ys.length) H) := by
  intro pins s σ H xs us Q I r h
  obtain ⟨p, ys, rfl, hq, q⟩ := h
  obtain ⟨u, rfl, rx⟩ := vals1 r
  cases rx
  have hn := line63
  rcases hq with hq | hq
  · obtain ⟨its, r', pl, hz⟩ := I.list hq
    have hlen := r'.length
    exact Calls.call_len_list pl.isList (by simp only [List.size_toArray] <;> omega) ⟨.int ys.length, H, I.tok _, ⟨s.toks + 1, by rw [List.size_toArray, hlen]⟩, q⟩
  · obtain ⟨its, r', pl, hz⟩ := I.tuple hq
    have hlen := r'.length
    exact len_tuple pl (by simp only [List.size_toArray] <;> omega) ⟨.int ys.length, H, I.tok _, ⟨s.toks + 1, by rw [List.size_toArray, hlen]⟩, q⟩
theorem call_list_of : CallR X (.type "list") (fun xs H Q => ∃ p ys, xs = [.ref p] ∧ (SqL X.K H p ys ∨ SqT X.K H p ys) ∧ ∀ l, H l = none → Q (.ref l) (upd H l (.lst ys))) := by
  intro pins s σ H xs us Q I r h
  obtain ⟨p, ys, rfl, hq, q⟩ := h
  obtain ⟨u, rfl, rx⟩ := vals1 r
  cases rx
  have fin : ∀ (its : List Value), Vals ys its → ys.length ≤ sizeLine → ∀ (h' : Heap) (c' : Nat), (∀ b o', s.heap.get? b = some o' → h'.get? b = some o') →
      h'.get? s.heap.objs.size = some { cls := .type "list", dict := none, data := .seq its.toArray c', slots := #[] } → EP X pins σ Q (.ref s.heap.objs.size) { s with heap := h' } := fun its r' hz h' c' kp e =>
    ⟨.ref s.heap.objs.size, _, I.laid (t' := s.toks) kp (Nat.le_refl _) (show ObjOk X.prog X.w _ h' _ (.lst ys) from ⟨hz, its, c', r', e⟩), rfl, q _ (I.hok.fresh (Nat.le_refl _))⟩
  rcases hq with hq | hq
  · obtain ⟨its, r', pl, hz⟩ := I.list hq
    have hlen := r'.length
    obtain ⟨o, ho, hc, n, hd⟩ := pl.isList
    exact call_list_seq p (.inl rfl) ho hc hd (fun h' c' kp e => fin its r' hz h' c' kp e) (by simp only [List.size_toArray] <;> omega)
  · obtain ⟨its, r', pl, hz⟩ := I.tuple hq
    have hlen := r'.length
    obtain ⟨o, ho, hc, n, hd⟩ := pl
    exact call_list_seq p (.inr rfl) ho hc hd (fun h' c' kp e => fin its r' hz h' c' kp e) (by simp only [List.size_toArray] <;> omega)
theorem call_tuple_of : CallR X (.type "tuple") (fun xs H Q => ∃ p ys, xs = [.ref p] ∧ ((SqL X.K H p ys ∧ ∀ l, H l = none → Q (.ref l) (upd H l (.tup ys))) ∨ (SqT X.K H p ys ∧ Q (.ref p) H))) := by
  intro pins s σ H xs us Q I r h
  obtain ⟨p, ys, rfl, h⟩ := h
  obtain ⟨u, rfl, rx⟩ := vals1 r
  cases rx
  rcases h with ⟨hq, q⟩ | ⟨hq, q⟩
  · obtain ⟨its, r', pl, hz⟩ := I.list hq
    have hlen := r'.length
    refine call_tuple_list pl.isList (fun h' kp => ?_) (by simp only [List.size_toArray] <;> omega)
    have I1 : Inv X pins σ H { s with heap := h' } := I.kept (t' := s.toks) kp
    have I2 : Inv X pins σ (upd H h'.objs.size (.tup ys)) { s with heap := h'.push { cls := .type "tuple", data := .seq its.toArray } } :=
      I1.laid (t' := s.toks) (fun b o e => Heap.get?_push_of_some _ e) (Nat.le_refl _) (show ObjOk X.prog X.w _ _ _ (.tup ys) from ⟨hz, its, r', IsTup.new _ _⟩)
    exact ⟨.ref h'.objs.size, _, I2, rfl, q _ (I1.hok.fresh (Nat.le_refl _))⟩
  · obtain ⟨its, r', pl, hz⟩ := I.tuple hq
    exact call_tuple_same pl ⟨.ref p, H, I, rfl, q⟩

/-! ### the call of a builtin's method: o.m(..) -/
/-- the value is of that builtin type -/
def tyV (K : PySem.W.Frag) (T : String) (x : V) (H : Hp) : Prop := match x with
  | .str _ => T = "str"
  | .int _ => T = "int"
  | .ref p => (T = "list" ∧ ∃ xs, SqL K H p xs) ∨ (T = "tuple" ∧ ∃ o, K.lookup p = some o ∧ o.cls = .type "tuple" ∧ o.dict = none) ∨
      (T = "dict" ∧ ((∃ kvs, H p = some (.dK kvs)) ∨ ∃ kvs, H p = some (.dT kvs))) ∨ (T = "set" ∧ ∃ S n, H p = some (.set S n))
  | _ => False
theorem tyV_is {pins : List (Addr × Obj)} {σ : St} {H : Hp} {s : Shared} {T : String} {x : V} {v : Value} (I : Inv X pins σ H s) (r : RelV x v) (ty : tyV X.K T x H) :
    s.TypeIs v T ∧ ∀ a, v = .ref a → ∃ ob, s.heap.get? a = some ob ∧ ob.dict = none := by
  cases x with
  | str z =>
    obtain ⟨t, rfl⟩ := r
    cases (show T = "str" from ty)
    exact ⟨typeIs_str s z t, fun _ e => nomatch e⟩
  | int i =>
    obtain ⟨t, rfl⟩ := r
    cases (show T = "int" from ty)
    exact ⟨typeIs_int s i t, fun _ e => nomatch e⟩
  | ref p =>
    cases r
    rcases ty with ⟨rfl, xs, hq⟩ | ⟨rfl, o, hk, hc, hd⟩ | ⟨rfl, hk⟩ | ⟨rfl, S, n, hk⟩
    · obtain ⟨its, _, pl, _⟩ := I.list hq
      refine ⟨pl.isList.typeIs, fun a e => ?_⟩
      cases e
      obtain ⟨o, n, e, c, hd, _⟩ := pl
      exact ⟨o, e, hd⟩
    · refine ⟨⟨o, I.kIn p o hk, hc⟩, fun a e => ?_⟩
      cases e
      exact ⟨o, I.kIn _ o hk, hd⟩
    · have z : ∃ o, s.heap.get? p = some o ∧ o.ExactDict := by
        rcases hk with ⟨kvs, hk⟩ | ⟨kvs, hk⟩
        · obtain ⟨_, _, _, _, o, _, _, e, ex, _⟩ := I.hok p _ hk
          exact ⟨o, e, ex⟩
        · obtain ⟨_, _, _, _, o, _, _, e, ex, _⟩ := I.hok p _ hk
          exact ⟨o, e, ex⟩
      obtain ⟨o, e, ex⟩ := z
      refine ⟨⟨o, e, ex.1⟩, fun a e2 => ?_⟩
      cases e2
      exact ⟨o, e, ex.2.1⟩
    · obtain ⟨o, _, _, _, e, ex, _⟩ := I.hok p _ hk
      refine ⟨⟨o, e, ex.1⟩, fun a e2 => ?_⟩
      cases e2
      exact ⟨o, e, ex.2.1⟩
  | _ => exact False.elim ty
def tBM0 (K : PySem.W.Frag) (T : String) (r : V → List V → Hp → VK → Prop) (to : TE) : TE := fun σ H Q => to σ H fun x H1 => tyV K T x H1 ∧ r x [] H1 Q
def tBM (K : PySem.W.Frag) (T : String) (r : V → List V → Hp → VK → Prop) (to : TE) (t : TA) : TE := fun σ H Q => to σ H fun x H1 => tyV K T x H1 ∧ t σ H1 fun xs H2 => r x xs H2 Q
variable {o e : Expr} {es : List Expr} {to : TE} {t : TA} {name : Str} {apos cpos : Pos} {T id : String} {r : V → List V → Hp → VK → Prop}
theorem pe_bm (pa : PlainAttrs T) (slot : Slot T name id) (hty : typeOf (.builtin id) = pure (.type "method_descriptor")) (hm : MtR X id r) (ho : PE X o to) (ha : PA X (e :: es) t)
    (hbase : attributeBase o name X.env (eval o X.env) = eval o X.env := by rfl)
    (hfew : ((backTo cpos (starEach (e :: es) X.env)).all (fun x => !x.1) && (backToKw cpos (keywordEach [] X.env)).all (fun x => x.1.isSome)
      && decide ((e :: es).length + ([] : List Keyword).length + (if ([] : List Keyword).isEmpty then 0 else 1) < 30)) = true := by rfl)
    (hline : (apos.endLine == cpos.line) = true := by rfl) (hs : starEach (e :: es) X.env = (false, eval e X.env) :: starEach es X.env := by rfl) (hplain : (backTo cpos (starEach es X.env)).any (·.1) = false := by rfl) :
    PE X (.Call (.Attribute o name apos) (e :: es) [] cpos) (tBM X.K T r to t) := by
  intro pins s σ H Q I h
  refine wpAny_Call_method_late hbase hfew hline rfl (thn (ho pins s σ H _ I h) fun v s1 ⟨x, H1, I1, r1, ty, q1⟩ => ?_)
  obtain ⟨h1, h2⟩ := tyV_is I1 r1 ty
  refine ⟨T, id, pa, slot, hty, h1, h2, ?_⟩
  have hA := ha cpos pins s1 σ H1 _ I1 q1
  rw [hs] at hA ⊢
  refine Calls.callWith_builtin (by show (false || (backTo cpos (starEach es X.env)).any (·.1)) = false; rw [hplain] <;> rfl) (Calls.evalArgs_plain ?_)
  exact thn hA fun us s2 ⟨vs, H2, I2, r2, q2⟩ => hm pins s2 σ H2 x vs v us Q I2 r1 r2 q2
/- xs.append(e), list.index on a module's tuple .. are MtR facts of 06m -/
end
end L2

namespace L2
open PySem PySem.Spec PyProof.Rows

def MtM (X : Cx) (id : String) (r : V → List V → Hp → VK → Prop) : Prop :=
  ∀ (pins : List (Addr × Obj)) (s : Shared) (σ : St) (H : Hp) (x : V) (xs : List V) (v : Value) (us : List Value) (Q : VK), Inv X pins σ H s → RelV x v → Vals xs us → r x xs H Q →
    wpAny (model X.prog X.w) X.A (call (.builtin id) (v :: us)) (EP X pins σ Q) X.xe s

/-! ### lists of values -/
theorem Vals.one : ∀ {x : V} {us : List Value}, Vals [x] us → ∃ u, us = [u] ∧ RelV x u
  | _, _, .cons r .nil => ⟨_, rfl, r⟩
theorem Vals.two : ∀ {x y : V} {us : List Value}, Vals [x, y] us → ∃ u v, us = [u, v] ∧ RelV x u ∧ RelV y v
  | _, _, _, .cons r (.cons q .nil) => ⟨_, _, rfl, r, q⟩
section
variable {X : Cx} {pins : List (Addr × Obj)} {σ : St} {H : Hp} {s : Shared} {l b : Addr} {xs ys zs : List V}

/-! ### the two steps: a tracked list is rewritten, a new list is laid -/
theorem Inv.lset {its its' : List Value} {n : Nat} {f : Array Value → Array Value} {t' : Nat} (I : Inv X pins σ H s) (hH : H l = some (.lst xs))
    (e : s.heap.get? l = some { cls := .type "list", data := .seq its.toArray n }) (hf : f its.toArray = its'.toArray) (hv : Vals ys its') (hz : ys.length ≤ sizeLine) :
    Inv X pins σ (upd H l (.lst ys)) { s with heap := s.heap.update l (Obj.mapSeq f), toks := t' } := by
  have q := PySem.IsL.update e f
  rw [hf] at q
  refine I.write (x := l) (e := l) (by rw [hH]; exact trivial) (.inl rfl) (fun b' u hb hu => (Heap.get?_update_other s.heap (Obj.mapSeq f) (Ne.symm hb)).trans hu) ⟨_, q⟩ ?_
  exact ⟨hz, its', _, hv, q⟩
theorem Inv.lnew {its : List Value} {t' : Nat} (I : Inv X pins σ H s) (hv : Vals ys its) (hz : ys.length ≤ sizeLine) :
    Inv X pins σ (upd H s.heap.objs.size (.lst ys)) { s with heap := s.heap.push { cls := .type "list", data := .seq its.toArray }, toks := t' } :=
  I.laid (fun _ _ q => Heap.get?_push_of_some _ q) (Nat.le_refl _) ⟨hz, its, 0, hv, Heap.get?_push_size _ rfl⟩
theorem Inv.fresh (I : Inv X pins σ H s) : H s.heap.objs.size = none := I.hok.fresh (Nat.le_refl _)
theorem Inv.lstM (I : Inv X pins σ H s) (hH : H l = some (.lst xs)) : xs.length ≤ sizeLine ∧ ∃ (its : List Value) (n : Nat), Vals xs its ∧ xs.length = its.length ∧ s.heap.get? l = some { cls := .type "list", data := .seq its.toArray n } := by
  obtain ⟨z, its, n, r, e⟩ := I.hok l _ hH
  exact ⟨z, its, n, r, r.length, e⟩

end

section
variable {X : Cx}

/-! ### methods -/
def rAppend : V → List V → Hp → VK → Prop := fun x vs H Q => ∃ l xs y, x = .ref l ∧ vs = [y] ∧ H l = some (.lst xs) ∧ xs.length < sizeLine ∧ Q .non (upd H l (.lst (xs ++ [y])))
theorem mt_append : MtM X "list.append" rAppend := by
  intro pins s σ H x vs v us Q I rx rv h
  obtain ⟨l, xs, y, rfl, rfl, hH, hz, q⟩ := h
  cases rx
  obtain ⟨u, rfl, ru⟩ := rv.one
  obtain ⟨z, its, n, r, hl, e⟩ := I.lstM hH
  refine call_meets F.slot_list_append ⟨_, e, rfl⟩ F.entry_list_append (F.args_list_append_2 _ _) (PySem.list_append l its.toArray n u (by rw [List.size_toArray]; omega)) ⟨e, ?_⟩
  refine ⟨.non, _, I.lset (its' := its ++ [u]) hH e (by simp) (r.append (.cons ru .nil)) ?_, rfl, q⟩
  rw [List.length_append, List.length_singleton]
  omega

def rExtend : V → List V → Hp → VK → Prop := fun x vs H Q => ∃ l b xs zs, x = .ref l ∧ vs = [.ref b] ∧ H l = some (.lst xs) ∧ H b = some (.lst zs) ∧ xs.length + zs.length ≤ sizeLine ∧ Q .non (upd H l (.lst (xs ++ zs)))
def rPop : V → List V → Hp → VK → Prop := fun x vs H Q => ∃ l xs y, x = .ref l ∧ vs = [] ∧ H l = some (.lst xs) ∧ xs[xs.length - 1]? = some y ∧ Q y (upd H l (.lst xs.dropLast))
def rPopAt : V → List V → Hp → VK → Prop := fun x vs H Q => ∃ l xs i k y, x = .ref l ∧ vs = [.int i] ∧ H l = some (.lst xs) ∧ -(2 ^ 63) ≤ i ∧ i < 2 ^ 63 ∧ seqIndex? i xs.length = some k ∧ xs[k]? = some y ∧ Q y (upd H l (.lst (xs.eraseIdx k)))
def rReverse : V → List V → Hp → VK → Prop := fun x vs H Q => ∃ l xs, x = .ref l ∧ vs = [] ∧ H l = some (.lst xs) ∧ Q .non (upd H l (.lst xs.reverse))
def rClear : V → List V → Hp → VK → Prop := fun x vs H Q => ∃ l xs, x = .ref l ∧ vs = [] ∧ H l = some (.lst xs) ∧ Q .non (upd H l (.lst []))
/-! ### list + list, list += list, list * int -/
def rCat : R2 := fun x y H Q => ∃ l b xs zs, x = .ref l ∧ y = .ref b ∧ H l = some (.lst xs) ∧ H b = some (.lst zs) ∧ xs.length + zs.length ≤ sizeLine ∧ ∀ p, H p = none → Q (.ref p) (upd H p (.lst (xs ++ zs)))
theorem op_cat : OpR X (binaryOp .Add) rCat := by
  intro pins s σ H x y v u Q I rx ry h
  obtain ⟨l, b, xs, zs, rfl, rfl, hH, hB, hz, q⟩ := h
  cases rx
  cases ry
  obtain ⟨z, its, n, r, hl, e⟩ := I.lstM hH
  obtain ⟨z2, its2, n2, r2, hl2, e2⟩ := I.lstM hB
  refine PySem.P.add_list e e2 ?_ (by rw [List.size_toArray, List.size_toArray]; omega)
  have ea : its.toArray ++ its2.toArray = (its ++ its2).toArray := by simp
  rw [ea]
  exact ⟨.ref _, _, I.lnew (t' := s.toks) (r.append r2) (by rw [List.length_append]; omega), rfl, q _ I.fresh⟩
/-- a list times an int (a negative one is nothing) -/
def rRep : R2 := fun x y H Q => ∃ l k xs, x = .ref l ∧ y = .int k ∧ H l = some (.lst xs) ∧ -(2 ^ 63) ≤ k ∧ k < 2 ^ 63 ∧ xs.length * k.toNat ≤ sizeLine ∧
  ∀ p, H p = none → Q (.ref p) (upd H p (.lst (List.replicate k.toNat xs).flatten))
/-! ### del xs[i] -/
end

/-! ### xs[a:b] = ys -/
section
variable {prog : Program} {w : World} {A : Around} {E : Value → Shared → Prop} {s : Shared}
set_option maxRecDepth 100000 in
end

section
variable {X : Cx}
end
end L2

namespace Att
open PySem PySem.W PySem.Calls PyProof.Rows

/-! ### the script -/
theorem ints_of_wellAll {P : Params} {h : Heap} : ∀ (ns : List Int) (vs : List Value), WellAll P h vs (ns.map WData.int) → IntsAre vs ns := by
  intro ns
  induction ns with
  | nil =>
    intro vs w
    rw [List.map_nil] at w
    cases w
    exact .nil
  | cons n ns ih =>
    intro vs w
    rw [List.map_cons] at w
    cases w with
    | cons a b =>
      cases a
      exact .cons _ _ (ih _ b)

theorem script_of {l : OpenLaw} {n : Nat} (hn : l.most = some n) {P : Params} {h : Heap} {args : List WData} {vals : List Value}
    (hpre : l.row.toRowW.claim.pre args = true) (hwl : WellAll P h vals args) :
    ∃ a vs ns, vals = [Value.ref a] ∧ args = [WData.list (ns.map WData.int)] ∧ h.get? a = some { cls := .type "list", data := .seq vs.toArray } ∧ IntsAre vs ns ∧ ns.length ≤ n := by
  have hsh : WShape.hasAll [] args [.list .int] = true := (pre_splitW hpre).1
  have hc : l.pre.holds [] { args := args } = true := (pre_splitW hpre).2
  obtain ⟨d, r, rfl, h1, h2⟩ := hasAllW_cons hsh
  obtain rfl := hasAllW_nil h2
  obtain ⟨xs, rfl, h3⟩ := hasW_list h1
  obtain ⟨ns, rfl⟩ := items_int h3
  have hlen : ns.length ≤ n := by
    unfold OpenLaw.pre at hc
    have h4 : (WTm.not (.lt (.lit (.int (n : Int))) (.len (.arg 0)))).holds [] { args := [.list (ns.map .int)] } = true := by
      have h4 := (holds_andW hc).1
      rw [hn] at h4
      exact h4
    have h5 := condW_of h4 (w_not (w_lt w_lit (w_len_list (w_arg rfl))))
    rw [List.length_map] at h5
    refine Nat.le_of_not_lt fun q => ?_
    have q' : (n : Int) < ((ns.length : Nat) : Int) := by omega
    first
      | (rw [decide_eq_true q'] at h5; exact absurd h5 (by decide))
      | (simp at h5; omega)
  cases hwl with
  | cons w1 w2 =>
    cases w2
    cases w1 with
    | list ho hall => exact ⟨_, _, ns, rfl, rfl, ho, ints_of_wellAll ns _ hall, hlen⟩

theorem post_true (l : OpenLaw) (args : List WData) : l.row.toRowW.claim.post args (.bool true) args = true :=
  postW_of (r := l.row.toRowW) (X := (true == true))
    (show WShape.has [] (.bool true) .bool = true by first | rfl | decide | simp [WShape.has, WShape.arms, WShape.armsAll])
    (show (WTm.eq .res (.lit (.bool true))).value [] { args := args, res := some (.bool true), after := args } = some (.bool (true == true)) from w_eq_bool (w_res rfl) w_lit) rfl

/-! ### the attachment: holds_open's last premise (the goal 'hc' behind k_head) from a wpAny of the law's body -/
/-- the same from a codeAny of the CALL (for a layer whose function contracts speak of calls) -/
theorem attach_call {l : OpenLaw} {n : Nat} {q : Program} {loose : List Str} {XP : (Str → Option Value) → Heap → Prop} {YP : World → Heap → Prop} {d : DefRec}
    (hn : l.most = some n) (hdf : d.params.defaults = [])
    (call : ∀ (w : World) (s₀ s₁ : Shared) (mg mb : Str → Option Value) (fa : Addr) (o : Obj) (pm cd doc : Value) (a : Addr) (vs : List Value) (ns : List Int),
      Ground q loose [] XP w s₀ mg mb s₁.heap → YP w s₁.heap →
      s₁.heap.get? fa = some o → o.data = .func (docDef d.name d.params d.body d.scope pm cd doc) → s₁.heap.CodeRec cd d.name → mg d.name = some (.ref fa) →
      s₁.heap.get? a = some { cls := .type "list", data := .seq vs.toArray } → IntsAre vs ns → ns.length ≤ n → s₁.gens = #[] →
      codeAny (model l.prog w) callerA (.call (.ref fa) ⟨[.ref a], []⟩) (fun r s' => r = .ok (.ret (.bool true)) ∧ OldK s₁.heap s'.heap ∧ s'.os = s₁.os ∧ AllBare s'.gens) s₁) :
    WalkO q loose XP YP l.row.toRowW d [] (fun f vs => PySem.call f vs) := by
  intro w s₀ s₁ mg mb G Y fa o pm cd doc dV kV ho hd hcd hD hmg hg args vals as hpre hlay hrd hwl hlo
  obtain rfl : dV = .none := Dflts.none hD hdf
  obtain rfl : kV = .none := Dflts.noKw hD
  obtain ⟨a, vs, ns, rfl, rfl, hobj, hints, hlen⟩ := script_of hn hpre hwl
  refine enter_call (codeAny_mono (call w s₀ s₁ mg mb fa o pm cd doc a vs ns G Y ho (fd_plain hd) hcd hmg hobj hints hlen hg) fun r s' hq => ?_)
  obtain ⟨rfl, h2, h3, h4⟩ := hq
  exact ⟨.inl ⟨.bool true, .bool true, [], rfl, fun _ => rfl, .bool true, post_true l _, fun _ => ⟨List.Pairwise.nil, fun _ hm => (nomatch hm)⟩⟩, h2, h3, h4⟩

/-! ### rules over ANY heap (no ledger) from facts about the written part K: the library's own take a ledger (News) for what they write -/
section
variable {prog : Program} {w : World} {A : Around} {E : Value → Shared → Prop} {s : Shared} {K : Frag}

/-! the whole heap as the ledger: makes every rule that writes through a ledger a rule over any heap -/
def noObjs (h : Heap) : Heap := { h with objs := #[] }
def ledger (h : Heap) (L d : Addr) : List (Addr × Obj) := (List.range h.objs.size).filterMap fun a => if a = L ∨ a = d then none else (h.get? a).map fun o => (a, o)
end
end Att

namespace L2
open PySem PySem.Spec PyProof.Rows

theorem vals_ints : ∀ {vs : List Value} {ns : List Int}, IntsAre vs ns → Vals (ns.map V.int) vs
  | _, _, .nil => .nil
  | _, _, .cons n t h => .cons ⟨t, rfl⟩ (vals_ints h)

/-- nothing is tracked but the script, known to the object (or it is an object of the module) -/
def Only (H : Hp) : Prop := ∀ b, H b = none ∨ ∃ o xs, H b = some (.frz o (.lst xs))

/-- THE HEAD: the law's promise, at the heap behind the top. F, the promise of the law's def, may use that base is part of the heap (so K.In base, base.Ns mainGlobals mg stand in Mod) -/
theorem law_call {P : Program} {w : World} {K : PySem.W.Frag} {mg mb : Str → Option Value} {CX : CXT} {k : Nat} {fa a : Addr} {fd : FuncData} {x : Str} {sp : Sp} {s₁ : Shared} {vs : List Value} {ns : List Int}
    (KX : K.In s₁.heap) (hns : s₁.heap.Ns mainGlobals mg) (hb : s₁.heap.Ns builtinsNs mb) (hbb : ∀ x : Str, x ≠ "__name__" → mb x = bootBuiltins x) (hlim : s₁.heap.NoLimit) (hg : s₁.gens = #[])
    (ha : s₁.heap.get? a = some { cls := .type "list", data := .seq vs.toArray }) (hi : IntsAre vs ns) (hl : ns.length ≤ sizeLine) (hr : Room k callerA)
    (F : ∀ base : Heap, K.In base → base.Ns mainGlobals mg → FnOk P w K mg base CX k fa fd [x] sp) (hbind : ∀ (s : Shared) (u : Value), BindsTo s fd ⟨[u], []⟩ [(x, u)])
    (hsp : ∀ H : Hp, Only H → SqL K H a (ns.map V.int) → sp [.ref a] H (fun v _ => v = .bl true) fun _ _ _ => False)
    (hCX : ∀ H e s', CX [] H s₁ (fun _ _ _ => False) e s' → False) :
    codeAny (model P w) callerA (.call (.ref fa) ⟨[.ref a], []⟩) (fun r s' => r = .ok (.ret (.bool true)) ∧ OldK s₁.heap s'.heap ∧ s'.os = s₁.os ∧ AllBare s'.gens) s₁ := by
  have rv := vals_ints hi
  have lenV := hi.length
  -- from an abstract heap in which nothing but the script may be tracked
  have core : ∀ H : Hp, Only H → SqL K H a (ns.map V.int) → HOk P w H s₁.heap → (∀ b, H b ≠ none → b = a) → (H a ≠ none → K.lookup a = none) →
      codeAny (model P w) callerA (.call (.ref fa) ⟨[.ref a], []⟩) (fun r s' => r = .ok (.ret (.bool true)) ∧ OldK s₁.heap s'.heap ∧ s'.os = s₁.os ∧ AllBare s'.gens) s₁ := by
    intro H hO hS hok hA hK
    have base_of : ∀ {b : Addr} {o : Obj}, s₁.heap.get? b = some o → H b = none → (hidT s₁.heap H).get? b = some o := fun e n => hidT_get e n
    have noA : ∀ {b : Addr} {o : Obj} {es : Array DictEntry} {ep : Nat}, s₁.heap.get? b = some o → o.data = .dict es ep → H b = none := fun {b o es ep} e d => by
      cases q : H b with
      | none => rfl
      | some u =>
        have e' : b = a := hA b (by rw [q]; simp)
        subst e'
        rw [ha] at e; cases e
        have d' : Data.seq vs.toArray _ = Data.dict es ep := d
        cases d'
    have nsK : ∀ {b : Addr} {m : Str → Option Value}, s₁.heap.Ns b m → (hidT s₁.heap H).Ns b m := fun {b m} ⟨o, es, ep, e, d, r⟩ => ⟨o, es, ep, base_of e (noA e d), d, r⟩
    have hKb : K.In (hidT s₁.heap H) := fun b o e => base_of (KX b o e) (by
      cases q : H b with
      | none => rfl
      | some u =>
        have e' : b = a := hA b (by rw [q]; simp)
        subst e'
        rw [hK (by rw [q]; simp)] at e; cases e)
    have hM : Mod K mg (hidT s₁.heap H) := ⟨hKb, nsK hns, ⟨mb, nsK hb, hbb⟩, let ⟨mc, h1, h2⟩ := hlim; ⟨mc, nsK h1, h2⟩⟩
    have e0 : Env0 P w K mg (hidT s₁.heap H) callerA [] s₁ H := ⟨rfl, hM, fun b o e => of_hidT e, Nat.le_of_eq (hidT_size _ _), trivial, fun b hb => absurd (show b ∈ ([] : List Addr) from hb) (by simp), hok, .of_eq hg⟩
    refine codeAny_mono ((F _ hKb (nsK hns)).run callerA [] s₁ H ⟨[.ref a], []⟩ [.ref a] [.ref a] _ _ hr e0 (hbind s₁ (.ref a)) (.cons rfl .nil) (hsp H hO hS)) fun r s' h => ?_
    cases r with
    | error e => exact (hCX H e s' h).elim
    | ok fl =>
      cases fl with
      | next => exact False.elim h
      | brk => exact False.elim h
      | cont => exact False.elim h
      | ret u =>
        obtain ⟨v, H', os, bare, un, hok', r', q⟩ := h
        have q' : v = .bl true := q
        subst q'
        obtain rfl : u = Value.bool true := r'
        refine ⟨rfl, OldK.of_keep fun b o e => ?_, os, bare⟩
        cases q : H b with
        | none => exact un.keep b o e q (by intro z; exact absurd (show b ∈ ([] : List Addr) from z) (by simp)) (by simp)
        | some u =>
          rcases hO b with z | ⟨ob, xs, z⟩
          · rw [q] at z; cases z
          · have z2 := un.frzs b ob _ z
            obtain ⟨e1, _⟩ := hok b _ z
            obtain ⟨e2, _⟩ := hok' b _ z2
            rw [e] at e1; cases e1
            exact e2
  cases hk : K.lookup a with
  | some o =>
    -- the script is one of the module's own objects
    have e := KX a o hk
    rw [ha] at e
    cases e
    refine core (fun _ => none) (fun _ => .inl rfl) (.inr ⟨_, vs.toArray, _, hk, rfl, rfl, rfl, by rw [List.size_toArray, lenV]; exact hl, by simpa using rv⟩) (fun b u z => by have z' : (none : Option HO) = some u := z; cases z') (fun b z => absurd rfl z) fun z => absurd rfl z
  | none =>
    refine core (fun b => if b = a then some (.frz { cls := .type "list", data := .seq vs.toArray } (.lst (ns.map V.int))) else none) (fun b => ?_) (.inl (.inr ⟨{ cls := .type "list", data := .seq vs.toArray }, if_pos rfl⟩)) (fun b u z => ?_) (fun b z => ?_) fun _ => hk
    · by_cases hb : b = a
      · exact .inr ⟨_, _, if_pos hb⟩
      · exact .inl (if_neg hb)
    · by_cases hb : b = a
      · have z' := (if_pos hb).symm.trans z
        cases z'
        subst hb
        exact ⟨ha, by rw [List.length_map]; exact hl, vs, _, rv, ha⟩
      · have z' := (if_neg hb).symm.trans z
        cases z'
    · by_cases hb : b = a
      · exact hb
      · exact absurd (if_neg hb) z
end L2

namespace L2
open PySem PySem.Spec PyProof.Rows

abbrev KOf {K : PySem.W.Frag} {h : Heap} (_ : K.In h) : PySem.W.Frag := K

/-- the goal that k_head leaves (case hc), from the law's promise. F gives the function object fd (K's own) once, then the promise over every base -/
theorem walk_of {l : PySem.W.OpenLaw} {n k : Nat} {q : Program} {loose : List Str} {XP : (Str → Option Value) → Heap → Prop} {YP : World → Heap → Prop} {d : DefRec} {K : Params → PySem.W.Frag} {CX : World → CXT} {sp : World → Sp} {x : Str}
    (hn : l.most = some n) (hn2 : n ≤ sizeLine) (hdf : d.params.defaults = []) (hr : Room k callerA)
    (hY : ∀ (w : World) (h : Heap), YP w h → (K w.params).In h)
    (F : ∀ (w : World) (mg : Str → Option Value) (fa : Addr) (h : Heap), (K w.params).In h → h.Ns mainGlobals mg → mg d.name = some (.ref fa) →
      ∃ fd : FuncData, (∀ (s : Shared) (u : Value), BindsTo s fd ⟨[u], []⟩ [(x, u)]) ∧
        ∀ base : Heap, (K w.params).In base → base.Ns mainGlobals mg → FnOk l.prog w (K w.params) mg base (CX w) k fa fd [x] (sp w))
    (hsp : ∀ (w : World) (H : Hp) (a : Addr) (ns : List Int), ns.length ≤ n → Only H → SqL (K w.params) H a (ns.map V.int) → sp w [.ref a] H (fun v _ => v = .bl true) fun _ _ _ => False)
    (hCX : ∀ (w : World) (H : Hp) (s : Shared) (e : Value) (s' : Shared), CX w [] H s (fun _ _ _ => False) e s' → False) :
    PySem.W.WalkO q loose XP YP l.row.toRowW d [] (fun f vs => PySem.call f vs) := by
  refine Att.attach_call hn hdf fun w s₀ s₁ mg mb fa o pm cd doc a vs ns G Y ho hd hcd hmg hobj hints hlen hg => ?_
  have KX := hY w _ Y
  obtain ⟨fd, hb, hF⟩ := F w mg fa _ KX G.T.g hmg
  exact law_call KX G.T.g G.T.b G.T.builtins G.T.nolimit hg hobj hints (Nat.le_trans hlen hn2) hr hF hb (fun H hO hS => hsp w H a ns hlen hO hS) fun H e s' => hCX w H s₁ e s'
end L2

/- THE LAST THEOREM (shape; LID, My.* are yours):
   My.Adr: a structure of the addresses that your layer names (classes, functions); My.Txt K t: a structure (Prop) of the equations over K;
   My.txt_mk : {K} {implicit addresses ..} (e1 : nsIn K mainGlobals "law" = some (some (.ref f))) (e2 : K.lookup f = some ⟨oc, od, .func (fnOf "law" "law" params body scope dV kV doc pm an cdv ct), sl⟩) (e3 : codeIn K cdv "law" = true) .. : ∃ t, My.Txt K t

set_option maxRecDepth 100000 in
set_option maxHeartbeats 0 in
theorem PySem.Challenge.cw_LID_holds : PySem.Challenge.rw_LID.Holds := by
  w_on; o_law; k_head; (case hw => w_witness2)
  k_fill
  refine L2.walk_of (l := PySem.Challenge.rw_LID) (n := 63) (k := 40) (x := "script") (CX := fun w => ..) (sp := fun _ => My.sp_law) rfl (by decide) rfl ⟨rfl, by decide, by decide⟩ (fun w h Y => PySem.W.kIn_of Y) ?F ?S ?C
  case F =>
    intro w mg fa h KX G hmg
    have T : ∃ t, My.Txt (L2.KOf KX) t := by
      dsimp only [L2.KOf]                          -- K must stand as «<heap const> w.params» for k_is
      refine' My.txt_mk ?e1 ?e2 ?e3 ..
      (case e1 => PySem.W.k_is)                    -- in the order: a name -> its address -> its object -> its parts
      (case e2 => PySem.W.k_is)
      ..
    obtain ⟨t, T⟩ := T
    have e0 := hmg.symm.trans (PySem.W.mg_of KX G T.law)
    cases e0                                       -- fa is the law's own address
    exact ⟨_, fun s u => .of_eq rfl, fun base kb nb => My.law_fn T kb nb⟩     -- if «.of_eq rfl» comes too early: refine' ⟨_, ?b, fun base kb nb => My.law_fn T kb nb⟩; exact fun s u => .of_eq rfl
  case S => exact fun w H a ns hl hO hS => ..
  case C => exact ..
(the tactic k_is has no namespace: write k_is) -/

/-! SHORT WORDS over the layer: a def of the text, its body, what a loop and a test want. -/
namespace L2
open PySem PySem.Spec PyProof.Rows

/-! ### the text by places -/
/-- the j-th statement of a class's body -/
def inClass (s : Stmt) (j : Nat) : Stmt := match s with
  | .ClassDef _ _ _ body _ _ _ _ _ _ _ => body.getD j (.Pass ⟨0, 0, 0, 0⟩)
  | _ => .Pass ⟨0, 0, 0, 0⟩
def defArgs (s : Stmt) : Arguments := match s with
  | .FunctionDef _ a _ _ _ _ _ _ _ _ => a
  | _ => { posonlyargs := [], args := [], vararg := none, kwonlyargs := [], kw_defaults := [], kwarg := none, defaults := [] }
def defBody (s : Stmt) : List Stmt := match s with
  | .FunctionDef _ _ b _ _ _ _ _ _ _ => b
  | _ => []
def defScope (s : Stmt) : Scope := match s with
  | .FunctionDef _ _ _ _ _ _ sc _ _ _ => sc
  | _ => { kind := .function, names := [], isGenerator := false, isCoroutine := false }

/-! ### no exception leaves a def -/
abbrev CX0 : CXT := fun _ _ _ _ _ _ => False
abbrev E0 : XK := fun _ _ _ => False
theorem pass0 {X : Cx} : Passes CX0 X E0 := fun _ _ _ _ _ _ _ h => h.elim

/-! ### a def (or method) of the text as it stands behind the top -/
structure Fun (K : PySem.W.Frag) (x qual : Str) (st : Stmt) (f : Addr) (fd : FuncData) : Prop where
  ex : ∃ (oc : Value) (od : Option Addr) (kV doc pm : Value) (an : Option Addr) (cdv ct : Value) (osl : Array (Option Value)),
    fd = PySem.W.fnOf x qual (defArgs st) (defBody st) (defScope st) .none kV doc pm an cdv ct ∧ K.lookup f = some ⟨oc, od, .func fd, osl⟩ ∧ PySem.W.codeIn K cdv qual = true
  kp : PySem.W.keepIn K (.ref f) = true
section
variable {P : Program} {w : World} {K : PySem.W.Frag} {mg : Str → Option Value} {base : Heap}
/-- THE RULE for a def: its body as a term of rules, and the reading of that term -/
theorem Fun.ok {x qual : Str} {st : Stmt} {f : Addr} {fd : FuncData} {N ps : List Str} {k : Nat} {sp : Sp} (F : Fun K x qual st f fd) (S : FnScope N ps (defScope st)) (len : ∀ vs H Q E, sp vs H Q E → vs.length = ps.length)
    (hbody : ∀ (cdv : Value) (A : Around) (outer : List Env) (s : Shared) (H : Hp) (vs : List V) (Q : VK) (E : XK), Room k (A.deeper (envOfC qual (defScope st) s.heap.objs.size f cdv)) → sp vs H Q E →
      ∃ t, PSs (cxOf CX0 P w K mg base N qual (defScope st) f cdv A outer s H E).nox (defBody st) t ∧ t { nx := fun _ H' => Q .non H', rt := Q } (start N vs) H) : FnOk P w K mg base CX0 (k + 1) f fd ps sp := by
  obtain ⟨oc, od, kV, doc, pm, an, cdv, ct, osl, rfl, lk, hcd⟩ := F.ex
  refine fn_of lk hcd S len fun A outer s H vs Q E hr hsp => ?_
  obtain ⟨t, h, q⟩ := hbody cdv A outer s H vs Q E hr hsp
  exact ⟨t, h.nox, q⟩
/-- how its arguments bind (no defaults): h is «fun _ _ _ _ _ _ us hl => match us, hl with | [_, _], _ => rfl», one _ a parameter -/
theorem Fun.binds {x qual : Str} {st : Stmt} {f : Addr} {fd : FuncData} {ps : List Str} (F : Fun K x qual st f fd)
    (h : ∀ (kV doc pm : Value) (an : Option Addr) (cdv ct : Value) (us : List Value), us.length = ps.length → bindArgs (PySem.W.fnOf x qual (defArgs st) (defBody st) (defScope st) .none kV doc pm an cdv ct) ⟨us, []⟩ = pure (ps.zip us)) : Binds K fd ps [] := by
  obtain ⟨oc, od, kV, doc, pm, an, cdv, ct, osl, rfl, lk, hcd⟩ := F.ex
  exact .all (h kV doc pm an cdv ct)
theorem fun_mk {x qual : Str} {st : Stmt} {f : Addr} {oc : Value} {od an : Option Addr} {osl : Array (Option Value)} {kV doc pm cdv ct : Value} (l : K.lookup f = some ⟨oc, od, .func (PySem.W.fnOf x qual (defArgs st) (defBody st) (defScope st) .none kV doc pm an cdv ct), osl⟩)
    (c : PySem.W.codeIn K cdv qual = true) (k : PySem.W.keepIn K (.ref f) = true) : Fun K x qual st f (PySem.W.fnOf x qual (defArgs st) (defBody st) (defScope st) .none kV doc pm an cdv ct) := ⟨⟨oc, od, kV, doc, pm, an, cdv, ct, osl, rfl, l, c⟩, k⟩
end
theorem hu_of {A : Around} {k : Nat} (hr : Room k A) : A.units + 1 < cLine := Nat.lt_of_le_of_lt (Nat.add_le_add_left (by decide : 1 ≤ 64) _) hr.units
theorem small1000 {n : Nat} (h : n ≤ 1000) : n < sizeLine := Nat.lt_of_le_of_lt h (by decide)

/-! ### expressions in short: the name that stands in the i-th slot -/
section
variable {X : Cx}
theorem pv (i : Nat) {x : Str} {pos : Pos} (hN : X.N[i]? = some x := by rfl) (hv : Vis X.env.scope x := by first | exact Or.inl rfl | exact Or.inr (Or.inl rfl) | exact Or.inr (Or.inr rfl)) (hd : (x == ("__debug__" : Str)) = false := by decide)
    (hcd : (x == ("__classdict__" : Str)) = false := by decide) : PE X (.Name x pos) (tVar i) := pe_var hN hv hd hcd
end

/-! ### tests -/
theorem iteF {A B : Prop} (h : B) : if false = true then A else B := by
  rw [if_neg Bool.false_ne_true]
  exact h
theorem iteT {A B : Prop} (h : A) : if true = true then A else B := by
  rw [if_pos rfl]
  exact h
theorem ite2 {c A B : Prop} [Decidable c] (h1 : c → A) (h2 : ¬ c → B) : if c then A else B := by
  by_cases h : c
  · rw [if_pos h]
    exact h1 h
  · rw [if_neg h]
    exact h2 h
/-! ### heaps -/
/-- all that was tracked is as it was -/
def Same (H H' : Hp) : Prop := ∀ b o, H b = some o → H' b = some o
theorem Same.refl (H : Hp) : Same H H := fun _ _ h => h
theorem Same.trans {H H1 H2 : Hp} (a : Same H H1) (b : Same H1 H2) : Same H H2 := fun c o h => b c o (a c o h)
theorem Same.seq {K : PySem.W.Frag} {H H' : Hp} {a : Addr} {xs : List V} (e : Same H H') (h : SqL K H a xs) : SqL K H' a xs := by
  rcases h with (h | ⟨o, h⟩) | h
  · exact .inl (.inl (e _ _ h))
  · exact .inl (.inr ⟨o, e _ _ h⟩)
  · exact .inr h

end L2

namespace GM
/-- the greatest common divisor, as an int -/
def G (a b : Int) : Int := (Int.gcd a b : Int)
theorem G_zero {a : Int} (h : 0 ≤ a) : G a 0 = a := by
  unfold G
  rw [Int.gcd_zero_right]
  omega
theorem G_step (a b : Int) : G b (a % b) = G a b := by
  unfold G
  congr 1
  have e : a % b = a - b * (a / b) := by
    have := Int.emod_add_mul_ediv a b
    omega
  rw [e, Int.gcd_sub_mul_left_right, Int.gcd_comm]
theorem G_pos {a b : Int} (h : 0 < b) : 0 < G a b := by
  unfold G
  have : 0 < Int.gcd a b := Int.gcd_pos_of_ne_zero_right a (by omega)
  omega
theorem G_dvd_l (a b : Int) : G a b ∣ a := Int.gcd_dvd_left a b
theorem G_dvd_r (a b : Int) : G a b ∣ b := Int.gcd_dvd_right a b
theorem G_le_r {a b : Int} (h : 0 < b) : G a b ≤ b := Int.le_of_dvd h (G_dvd_r a b)
/-- an amount in lowest terms -/
structure Amt (t b : Int) : Prop where
  t0 : 0 ≤ t
  b1 : 1 ≤ b
  g : G t b = 1
theorem low_amt {t b : Int} (h0 : 0 ≤ t) (h1 : 1 ≤ b) : Amt (t / G t b) (b / G t b) := by
  have gp := G_pos (a := t) (b := b) (by omega)
  refine ⟨Int.ediv_nonneg h0 (by omega), Int.ediv_pos_of_pos_of_dvd (by omega) (by omega) (G_dvd_r t b), ?_⟩
  unfold G at *
  have := Int.gcd_ediv_gcd_ediv_gcd (i := t) (j := b) (by omega)
  omega
theorem low_l (t b : Int) : t / G t b * G t b = t := Int.ediv_mul_cancel (G_dvd_l t b)
theorem low_r (t b : Int) : b / G t b * G t b = b := Int.ediv_mul_cancel (G_dvd_r t b)
theorem dvd_cop {t b x : Int} (h : Amt t b) (d : b ∣ t * x) : b ∣ x := by
  have g1 : Int.gcd b t = 1 := by have := h.g; unfold G at this; rw [Int.gcd_comm]; omega
  have := Int.dvd_gcd_mul_iff_dvd_mul.mpr d
  rw [g1] at this
  simpa using this
theorem amt_unique {t b t' b' : Int} (h : Amt t b) (h' : Amt t' b') (e : t * b' = t' * b) : t = t' ∧ b = b' := by
  have d1 : b ∣ b' := dvd_cop h ⟨t', by rw [e, Int.mul_comm]⟩
  have d2 : b' ∣ b := dvd_cop h' ⟨t, by rw [← e, Int.mul_comm]⟩
  have p := h.b1
  have p' := h'.b1
  have eb : b = b' := Int.dvd_antisymm (by omega) (by omega) d1 d2
  subst eb
  exact ⟨Int.eq_of_mul_eq_mul_right (by omega) e, rfl⟩
/-- brought to lowest terms, the same fraction -/
theorem low_cross (t b : Int) : t / G t b * b = t * (b / G t b) := by
  have e1 := low_l t b
  have e2 := low_r t b
  calc t / G t b * b = t / G t b * (b / G t b * G t b) := by rw [e2]
    _ = t / G t b * G t b * (b / G t b) := by rw [Int.mul_comm (b / G t b), Int.mul_assoc]
    _ = t * (b / G t b) := by rw [e1]
theorem amt_one {t : Int} (h : 0 ≤ t) : Amt t 1 := by
  refine ⟨h, by omega, ?_⟩
  unfold G
  rw [Int.gcd_one_right]
  rfl
theorem low_unique {t b x y : Int} (h0 : 0 ≤ t) (h1 : 1 ≤ b) (h : Amt x y) (e : x * b = t * y) : t / G t b = x ∧ b / G t b = y := by
  have a := low_amt h0 h1
  refine amt_unique a h ?_
  have c := low_cross t b
  -- (t/g) * b = t * (b/g); x * b = t * y
  have gp := G_pos (a := t) (b := b) (by omega)
  have e1 := low_l t b
  have e2 := low_r t b
  refine Int.eq_of_mul_eq_mul_right (a := G t b) (by omega) ?_
  calc t / G t b * y * G t b = t / G t b * G t b * y := by rw [Int.mul_assoc, Int.mul_comm y, ← Int.mul_assoc]
    _ = x * b := by rw [e1, e]
    _ = x * (b / G t b) * G t b := by rw [Int.mul_assoc, e2]
end GM

namespace L2
open PySem PySem.Spec PyProof.Rows
/-! ### isinstance against a built-in type -/
inductive Isi (K : PySem.W.Frag) (H : Hp) : V → String → Bool → Prop where
  | int_int {n} : Isi K H (.int n) "int" true
  | int_bool {n} : Isi K H (.int n) "bool" false
  | int_tuple {n} : Isi K H (.int n) "tuple" false
  | int_str {n} : Isi K H (.int n) "str" false
  | int_list {n} : Isi K H (.int n) "list" false
  | bl_int {b} : Isi K H (.bl b) "int" true
  | bl_bool {b} : Isi K H (.bl b) "bool" true
  | bl_tuple {b} : Isi K H (.bl b) "tuple" false
  | bl_str {b} : Isi K H (.bl b) "str" false
  | str_int {x} : Isi K H (.str x) "int" false
  | str_bool {x} : Isi K H (.str x) "bool" false
  | str_tuple {x} : Isi K H (.str x) "tuple" false
  | str_str {x} : Isi K H (.str x) "str" true
  | non_int : Isi K H .non "int" false
  | non_str : Isi K H .non "str" false
  | non_tuple : Isi K H .non "tuple" false
  | tup_tuple {a xs} : SqT K H a xs → Isi K H (.ref a) "tuple" true
  | tup_int {a xs} : SqT K H a xs → Isi K H (.ref a) "int" false
  | tup_str {a xs} : SqT K H a xs → Isi K H (.ref a) "str" false
  | tup_list {a xs} : SqT K H a xs → Isi K H (.ref a) "list" false
  | lst_tuple {a xs} : SqL K H a xs → Isi K H (.ref a) "tuple" false
  | lst_int {a xs} : SqL K H a xs → Isi K H (.ref a) "int" false
  | lst_str {a xs} : SqL K H a xs → Isi K H (.ref a) "str" false
  | lst_list {a xs} : SqL K H a xs → Isi K H (.ref a) "list" true
section
variable {X : Cx}
theorem call_isi : CallR X (.builtin "isinstance") (fun xs H Q => ∃ x T b, xs = [x, .ty T] ∧ Isi X.K H x T b ∧ Q (.bl b) H) := by
  intro pins s σ H xs us Q I r h
  obtain ⟨x, T, b, rfl, hi, q⟩ := h
  obtain ⟨u, w', rfl, rx, ry⟩ := vals2 r
  cases ry
  have f1 : EP X pins σ Q (.bool b) s := ⟨.bl b, H, I, rfl, q⟩
  have f2 : EP X pins σ Q (.bool b) { s with toks := s.toks + 1 } := ⟨.bl b, H, I.tok _, rfl, q⟩
  cases hi with
  | int_int => obtain ⟨t, rfl⟩ := rx; exact IsiPair.int_int f1
  | int_bool => obtain ⟨t, rfl⟩ := rx; exact IsiPair.int_bool f2
  | int_tuple => obtain ⟨t, rfl⟩ := rx; exact IsiPair.int_tuple f2
  | int_str => obtain ⟨t, rfl⟩ := rx; exact IsiPair.int_str f2
  | int_list => obtain ⟨t, rfl⟩ := rx; exact IsiPair.int_list f2
  | bl_int => cases rx; exact IsiPair.bool_int f1
  | bl_bool => cases rx; exact IsiPair.bool_bool f1
  | bl_tuple => cases rx; exact IsiPair.bool_tuple f2
  | bl_str => cases rx; exact IsiPair.bool_str f2
  | str_int => obtain ⟨t, rfl⟩ := rx; exact IsiPair.str_int f2
  | str_bool => obtain ⟨t, rfl⟩ := rx; exact IsiPair.str_bool f2
  | str_tuple => obtain ⟨t, rfl⟩ := rx; exact IsiPair.str_tuple f2
  | str_str => obtain ⟨t, rfl⟩ := rx; exact IsiPair.str_str f1
  | non_int => cases rx; exact IsiPair.NoneType_int f2
  | non_str => cases rx; exact IsiPair.NoneType_str f2
  | non_tuple => cases rx; exact IsiPair.NoneType_tuple f2
  | tup_tuple hq => cases rx; obtain ⟨its, _, ⟨o, e, c, _⟩, _⟩ := I.tuple hq; exact IsiPair.tuple_tuple e c f1
  | tup_int hq => cases rx; obtain ⟨its, _, ⟨o, e, c, _⟩, _⟩ := I.tuple hq; exact IsiPair.tuple_int e c f2
  | tup_str hq => cases rx; obtain ⟨its, _, ⟨o, e, c, _⟩, _⟩ := I.tuple hq; exact IsiPair.tuple_str e c f2
  | tup_list hq => cases rx; obtain ⟨its, _, ⟨o, e, c, _⟩, _⟩ := I.tuple hq; exact IsiPair.tuple_list e c f2
  | lst_tuple hq => cases rx; obtain ⟨its, _, ⟨o, n, e, c, _⟩, _⟩ := I.list hq; exact IsiPair.list_tuple e c f2
  | lst_int hq => cases rx; obtain ⟨its, _, ⟨o, n, e, c, _⟩, _⟩ := I.list hq; exact IsiPair.list_int e c f2
  | lst_str hq => cases rx; obtain ⟨its, _, ⟨o, n, e, c, _⟩, _⟩ := I.list hq; exact IsiPair.list_str e c f2
  | lst_list hq => cases rx; obtain ⟨its, _, ⟨o, n, e, c, _⟩, _⟩ := I.list hq; exact IsiPair.list_list e c f1
/-! ### is, is not of bools -/
theorem op_isnotB : OpR X (compareOp .IsNot) (fun x y H Q => ∃ i j, x = .bl i ∧ y = .bl j ∧ Q (.bl (i != j)) H) := by
  intro pins s σ H x y v u Q I rx ry h
  obtain ⟨i, j, rfl, rfl, q⟩ := h
  cases rx; cases ry
  exact isnot_bool ⟨.bl _, H, I, rfl, q⟩
/-! ### == and != of tuples, at any depth: what the comparison tells -/
inductive DEq (K : PySem.W.Frag) (H : Hp) : Nat → V → V → Bool → Prop where
  | flat {n x y} : flatV x = true → flatV y = true → DEq K H n x y (eqV x y)
  | same {n a} : DEq K H n (.ref a) (.ref a) true
  | tup {n a b xs ys} {e : Nat → Bool} : a ≠ b → SqT K H a xs → SqT K H b ys → (∀ (j : Nat) x y, xs[j]? = some x → ys[j]? = some y → DEq K H n x y (e j)) →
      DEq K H (n + 1) (.ref a) (.ref b) ((List.range (min xs.length ys.length)).all e && xs.length == ys.length)
  | lst {n a b xs ys} {e : Nat → Bool} : a ≠ b → SqL K H a xs → SqL K H b ys → (∀ (j : Nat) x y, xs[j]? = some x → ys[j]? = some y → DEq K H n x y (e j)) →
      DEq K H (n + 1) (.ref a) (.ref b) ((List.range (min xs.length ys.length)).all e && xs.length == ys.length)
theorem tups_at {pins : List (Addr × Obj)} {σ : St} {H : Hp} {s : Shared} (I : Inv X pins σ H s) {A : Around} {a b : Addr} {xs ys : List V} {e : Nat → Bool} (hx : SqT X.K H a xs) (hy : SqT X.K H b ys) (hu : A.units < cLine)
    (hd : ∀ (j : Nat) x y u v, xs[j]? = some x → ys[j]? = some y → RelV x u → RelV y v → SeqAt.EqAt A.in1 s u v (e j)) :
    SeqAt.RcAt A s (.ref a) (.ref b) ((List.range (min xs.length ys.length)).all e && xs.length == ys.length) := by
  obtain ⟨its, r, tx, _⟩ := I.tuple hx
  obtain ⟨its', r', ty, _⟩ := I.tuple hy
  have l1 := r.length
  have l2 := r'.length
  have q := SeqAt.RcAt.tuples (A := A) (e := e) tx ty hu (fun j h1 h2 => ?_)
  · rw [List.size_toArray, List.size_toArray, ← l1, ← l2] at q
    exact q
  · rw [List.size_toArray] at h1 h2
    obtain ⟨x, hxj⟩ : ∃ x, xs[j]? = some x := ⟨_, List.getElem?_eq_getElem (by omega)⟩
    obtain ⟨y, hyj⟩ : ∃ y, ys[j]? = some y := ⟨_, List.getElem?_eq_getElem (by omega)⟩
    obtain ⟨u1, hu1, ru1⟩ := r.get hxj
    obtain ⟨u2, hu2, ru2⟩ := r'.get hyj
    have e1 : its.toArray[j] = u1 := by
      have := (List.getElem?_eq_some_iff.mp hu1).2
      simpa using this
    have e2 : its'.toArray[j] = u2 := by
      have := (List.getElem?_eq_some_iff.mp hu2).2
      simpa using this
    rw [e1, e2]
    exact hd j x y u1 u2 hxj hyj ru1 ru2
theorem isList_of {h : Heap} {a : Addr} {its : Array Value} (p : PlainL h a its) : h.IsList a its := by
  obtain ⟨o, n, e, c, _, d⟩ := p
  exact ⟨o, e, c, n, d⟩
theorem lsts_at {pins : List (Addr × Obj)} {σ : St} {H : Hp} {s : Shared} (I : Inv X pins σ H s) {A : Around} {a b : Addr} {xs ys : List V} {e : Nat → Bool} (hx : SqL X.K H a xs) (hy : SqL X.K H b ys) (hu : A.units < cLine)
    (hd : ∀ (j : Nat) x y u v, xs[j]? = some x → ys[j]? = some y → RelV x u → RelV y v → SeqAt.EqAt A.in1 s u v (e j)) :
    SeqAt.RcAt A s (.ref a) (.ref b) ((List.range (min xs.length ys.length)).all e && xs.length == ys.length) := by
  obtain ⟨its, r, tx, _⟩ := I.list hx
  obtain ⟨its', r', ty, _⟩ := I.list hy
  have l1 := r.length
  have l2 := r'.length
  by_cases hl : xs.length = ys.length
  · have q := SeqAt.RcAt.lists (A := A) (e := e) (isList_of tx) (isList_of ty) (by rw [List.size_toArray, List.size_toArray]; omega) hu (fun j h1 h2 => ?_)
    · rw [List.size_toArray, ← l1] at q
      have e1 : ((List.range (min xs.length ys.length)).all e && xs.length == ys.length) = (List.range xs.length).all e := by
        rw [← hl, Nat.min_self, beq_self_eq_true, Bool.and_true]
      rw [e1]
      exact q
    · rw [List.size_toArray] at h1 h2
      obtain ⟨x, hxj⟩ : ∃ x, xs[j]? = some x := ⟨_, List.getElem?_eq_getElem (by omega)⟩
      obtain ⟨y, hyj⟩ : ∃ y, ys[j]? = some y := ⟨_, List.getElem?_eq_getElem (by omega)⟩
      obtain ⟨u1, hu1, ru1⟩ := r.get hxj
      obtain ⟨u2, hu2, ru2⟩ := r'.get hyj
      have e1 : its.toArray[j] = u1 := by
        have := (List.getElem?_eq_some_iff.mp hu1).2
        simpa using this
      have e2 : its'.toArray[j] = u2 := by
        have := (List.getElem?_eq_some_iff.mp hu2).2
        simpa using this
      rw [e1, e2]
      exact hd j x y u1 u2 hxj hyj ru1 ru2
  · have q := SeqAt.RcAt.lists_lengths (A := A) (isList_of tx) (isList_of ty) (by rw [List.size_toArray, List.size_toArray, ← l1, ← l2, bne_iff_ne]; exact hl) hu
    have e1 : ((List.range (min xs.length ys.length)).all e && xs.length == ys.length) = false := by
      rw [beq_eq_false_iff_ne.mpr hl, Bool.and_false]
    rw [e1]
    exact q
theorem DEq.at {pins : List (Addr × Obj)} {σ : St} {H : Hp} {s : Shared} (I : Inv X pins σ H s) {n : Nat} {x y : V} {k : Bool} (d : DEq X.K H n x y k) : ∀ {A : Around} {u v : Value}, A.units + n < cLine → RelV x u → RelV y v → SeqAt.EqAt A s u v k := by
  induction d with
  | flat fx fy => intro A u v _ rx ry; exact eqAt_V rx ry fx fy
  | same => intro A u v _ rx ry; cases rx; cases ry; exact SeqAt.EqAt.same _
  | @tup n a b xs ys e hne hx hy hd ih =>
    intro A u v hu rx ry
    cases rx; cases ry
    exact SeqAt.EqAt.of_refs hne (tups_at I hx hy (by omega) fun j x y u v h1 h2 r1 r2 => ih j x y h1 h2 (by show A.units + 1 + n < cLine; omega) r1 r2)
  | @lst n a b xs ys e hne hx hy hd ih =>
    intro A u v hu rx ry
    cases rx; cases ry
    exact SeqAt.EqAt.of_refs hne (lsts_at I hx hy (by omega) fun j x y u v h1 h2 r1 r2 => ih j x y h1 h2 (by show A.units + 1 + n < cLine; omega) r1 r2)
/-- == of two tuples; the items' answers e -/
def rEqT (K : PySem.W.Frag) : R2 := fun x y H Q => ∃ a b xs ys, ∃ e : Nat → Bool, x = .ref a ∧ y = .ref b ∧ SqT K H a xs ∧ SqT K H b ys ∧ (∀ (j : Nat) x y, xs[j]? = some x → ys[j]? = some y → DEq K H 40 x y (e j)) ∧
  Q (.bl ((List.range (min xs.length ys.length)).all e && xs.length == ys.length)) H
def rNeT (K : PySem.W.Frag) : R2 := fun x y H Q => ∃ a b xs ys, ∃ e : Nat → Bool, x = .ref a ∧ y = .ref b ∧ SqT K H a xs ∧ SqT K H b ys ∧ (∀ (j : Nat) x y, xs[j]? = some x → ys[j]? = some y → DEq K H 40 x y (e j)) ∧
  Q (.bl (!((List.range (min xs.length ys.length)).all e && xs.length == ys.length))) H
theorem op_eqT (hu : X.A.units + 64 < cLine) : OpR X (compareOp .Eq) (rEqT X.K) := by
  intro pins s σ H x y v u Q I rx ry h
  obtain ⟨a, b, xs, ys, e, rfl, rfl, hx, hy, hd, q⟩ := h
  cases rx; cases ry
  exact tups_at I hx hy (by omega) (fun j x y u v h1 h2 r1 r2 => (hd j x y h1 h2).at I (by show X.A.units + 1 + 40 < cLine; omega) r1 r2) X.prog X.w X.xe _ ⟨.bl _, H, I, rfl, q⟩
end
end L2

namespace L2
open PySem PySem.Spec PyProof.Rows
/-! ### a list comprehension of one clause -/
/-- the loop of a comprehension, a turn at a time -/
theorem compLoop_gen {prog : Program} {w : World} {A : Around} {R : Result → Shared → Prop} {s : Shared} {elt target iter : Expr} {ifs : List Expr} {scope : Scope} {pos : Pos} {it acc : Value} {env : Env} (I : Nat → Shared → Prop)
    (turn : ∀ n s, I n s → wpAny (model prog w) A (pyNext it) (fun r s₁ => match r with
      | none => R (.ok .next) s₁
      | some v => wpAny (model prog w) A (letOwnedTupleGo target it v) (fun _ s₁' => wpAny (model prog w) A (assign target env v) (fun _ s₂ =>
          wpAny (model prog w) A (forIn ifs true fun c r => if r = true then do let ok ← isTrue c env (eval c env); pure (ForInStep.yield ok) else pure (ForInStep.yield r)) (fun ok s₃ =>
            if ok = true then wpAny (model prog w) A (eval elt env) (fun x s₄ =>
              wpAny (model prog w) A (call (.builtin "list.append") [acc, x]) (fun _ s₅ => ∃ m, m < n ∧ I m s₅) (fun _ _ => False) s₄) (fun _ _ => False) s₃
            else ∃ m, m < n ∧ I m s₃) (fun _ _ => False) s₂) (fun _ _ => False) s₁') (fun _ _ => False) s₁) (fun _ _ => False) s)
    (n : Nat) (h : I n s) : codeAny (model prog w) A (.compLoop (.ListComp elt [⟨target, iter, ifs, 0⟩] scope pos) 0 it acc env) R s := by
  refine codeAny_loop rfl I (fun n s hI => ?_) n h
  show wpAny _ A ((compTurn (.ListComp elt [⟨target, iter, ifs, 0⟩] scope pos) 0 it acc env).onRaise (fun x => do noteFrame x env; theTreesLotGoes x)) _ _ s
  refine wpAny_noted ?_
  rw [compTurn_list]
  refine wpAny_bind (wpAny_standAt (wpAny_bind (wpAny_mono (turn n s hI) (fun r s₁ h₁ => ?_) fun _ _ z => z.elim)))
  cases r with
  | none => exact wpAny_pure h₁
  | some v =>
    refine wpAny_bind (wpAny_mono h₁ (fun _ s₁' h₁' => ?_) fun _ _ z => z.elim)
    refine wpAny_bind (wpAny_mono h₁' (fun _ s₂ h₂ => wpAny_bind (wpAny_mono h₂ (fun ok s₃ h₃ => ?_) fun _ _ z => z.elim)) fun _ _ z => z.elim)
    cases ok with
    | false => exact wpAny_pure ⟨rfl, h₃⟩
    | true =>
      exact wpAny_bind (wpAny_bind (wpAny_mono h₃ (fun x s₄ h₄ => wpAny_bind (wpAny_mono h₄ (fun _ s₅ h₅ => wpAny_pure (wpAny_pure ⟨rfl, h₅⟩)) fun _ _ z => z.elim)) fun _ _ z => z.elim))
/-- the block's context -/
def blk (X : Cx) (N' : List Str) (scope : Scope) (cl : List (Str × Addr)) (C : Addr) (s₀ : Shared) (H₀ : Hp) (ex : List Addr) (pn : List (Addr × Obj)) : Cx where
  prog := X.prog
  w := X.w
  K := X.K
  mg := X.mg
  base := X.base
  A := X.A
  N := N'
  s₀ := s₀
  H₀ := H₀
  env := compEnvC scope cl C X.env
  outer := X.stack
  stack := X.stack
  ex := ex
  fn := fun _ => false
  calm := X.calm
  pn := pn
  xe := fun _ _ => False
structure ClOk (X : Cx) (scope : Scope) (cl : List (Str × Addr)) : Prop where
  run : closureFor scope X.env = pure cl
  sub : ∀ x c, cl.lookup x = some c → X.env.cells.lookup x = some c
  has : ∀ x, ((relabel scope X.env).names.lookup x = some .cell ∨ (relabel scope X.env).names.lookup x = some .free) → ∃ c, cl.lookup x = some c
/-- the names that the block takes over stand in cells -/
structure BlkN (X : Cx) (N' : List Str) (scope : Scope) (cl : List (Str × Addr)) (σ σ' : St) : Prop where
  len : σ'.length = N'.length
  from' : ∀ (i : Nat) (x : Str) (v : V), N'[i]? = some x → σ'[i]? = some (some v) → ∃ j : Nat, X.N[j]? = some x ∧ σ[j]? = some (some v) ∧ Vis X.env.scope x ∧ X.env.kindOf x ≠ some .local ∧
    ((relabel scope X.env).names.lookup x = some .cell ∨ (relabel scope X.env).names.lookup x = some .free)
section
variable {X : Cx} {pins : List (Addr × Obj)} {σ σ' : St} {H : Hp} {s : Shared}
theorem blk_start {N' : List Str} {scope : Scope} {cl : List (Str × Addr)} {fp : List Addr} {h₁ : Heap} {t' : Nat} (I : Inv X pins σ H s) (hkind : scope.kind = .function) (hcl : ClOk X scope cl) (hN : BlkN X N' scope cl σ σ') (hf : ∀ b ∈ fp, FpOk X pins H b) (hfo : ∀ b ∈ fp, b < s.heap.objs.size)
    (hns : h₁.Ns s.heap.objs.size (fun _ => none)) (hk : ∀ b o, s.heap.get? b = some o → h₁.get? b = some o) :
    Inv (blk X N' scope cl s.heap.objs.size s H fp (X.pn ++ pins)) [] σ' H { s with heap := h₁, toks := t' } := by
  have hfs : ∀ b, b ∉ (X.env.locals :: X.fs) → b ∉ frs X.stack := fun b hb z => hb (I.stkSub b z)
  refine ⟨⟨I.ok.mod, hkind, I.ok.glob, I.ok.blt, Nat.le_refl _, ?_, hcl.has, fun _ _ h => absurd h (by intro z; cases z), I.ok.hd, I.ok.frames, .inl rfl, ?_, I.bs, Nat.le_trans I.ok.bsz I.sz, ?_, ?_, I.stack, I.stkFree⟩,
    rfl, I.bare, Un.kept hk, ⟨_, hns, ?_⟩, ?_, I.hok.fresh (Nat.le_refl _), fun x c e => I.freeC x c (hcl.sub x c e), ?_, I.hok.kept hk, hN.len⟩
  · intro x y c h1 h2
    exact I.ok.inj x y c (hcl.sub x c h1) (hcl.sub y c h2)
  · intro b hb
    exact ⟨Nat.ne_of_lt (hfo b hb), fun x c e => (hf b hb).2.2.2.2.1 x c (hcl.sub x c e)⟩
  · intro b o e hb
    rcases (hf b hb).2.2.2.1 with q | q
    · exact I.ok.noex b o e q
    · exact absurd (Nat.lt_of_lt_of_le (Heap.lt_size e) (Nat.le_trans I.ok.bsz q)) (Nat.lt_irrefl _)
  · intro b hb
    refine hfs b fun z => ?_
    rcases List.mem_cons.mp z with z | z
    · exact (hf b hb).2.1 z
    · exact (hf b hb).2.2.1 z
  · intro i x v h1 h2 _
    obtain ⟨j, hj, hσ, hv, hnl, hk'⟩ := hN.from' i x v h1 h2
    obtain ⟨m, hn, hl⟩ := I.loc
    obtain ⟨u, r, l⟩ := hl j x v hj hσ hv
    refine ⟨u, r, .inr ⟨hk', ?_⟩⟩
    obtain ⟨c, hc⟩ := hcl.has x hk'
    rcases l with ⟨hloc, _⟩ | ⟨_, c', hc', hcell⟩
    · exact absurd hloc hnl
    · have e := hcl.sub x c hc
      rw [hc'] at e
      cases e
      obtain ⟨o, ho, hd⟩ := hcell
      exact ⟨_, hc, o, hk _ _ ho, hd⟩
  · intro x c e
    obtain ⟨v, o, ho, hd⟩ := I.cell x c (hcl.sub x c e)
    exact ⟨v, o, hk _ _ ho, hd⟩
  · intro p hp
    rw [show (blk X N' scope cl s.heap.objs.size s H fp (X.pn ++ pins)).pn = X.pn ++ pins from rfl, List.append_nil] at hp
    obtain ⟨a1, a2, a3, a4, a5⟩ := I.pin p hp
    refine ⟨hk _ _ a1, a2, Nat.ne_of_lt (Heap.lt_size a1), hfs _ fun z => ?_, a5⟩
    rcases List.mem_cons.mp z with z | z
    · exact a3 z
    · exact a4 z
theorem blk_end {N' : List Str} {scope : Scope} {cl : List (Str × Addr)} {fp : List Addr} {pl : List (Addr × Obj)} {H' : Hp} {s' : Shared} {h'' : Heap} (I : Inv X pins σ H s) (hf : ∀ b ∈ fp, FpOk X pins H b)
    (J : Inv (blk X N' scope cl s.heap.objs.size s H fp (X.pn ++ pins)) pl σ' H' s') (hs : Heap.SameBut s.heap.objs.size s'.heap h'') : Inv X pins σ H' { s' with heap := h'' } := by
  have hne : ∀ b o, s.heap.get? b = some o → b ≠ s.heap.objs.size := fun b o e => Nat.ne_of_lt (Heap.lt_size e)
  have hC : H' s.heap.objs.size = none := J.free
  have ub : Un (frs X.stack) fp H H' s.heap s'.heap := J.base
  have u : Un (frs X.stack) fp H H' s.heap h'' := {
    keep := fun b o e n hb hx => hs.extBut b o (hne b o e) (ub.keep b o e n hb hx)
    slot := fun b o e n hb hx => by
      obtain ⟨sl, q⟩ := ub.slot b o e n hb hx
      exact ⟨sl, hs.extBut b _ (hne b o e) q⟩
    free := ub.free
    there := fun b o e hx => by
      obtain ⟨o', q⟩ := ub.there b o e hx
      exact ⟨o', hs.extBut b _ (hne b o e) q⟩
    tups := ub.tups
    frzs := ub.frzs
    tbls := ub.tbls }
  have hok : HOk X.prog X.w H' h'' := fun a o e => (J.hok a o e).stay (fun b ob hb q => hs.extBut b ob (fun z => by
    rw [z] at hb
    rcases hb with hb | hb
    · rw [← hb, hC] at e; cases e
    · rw [hC] at hb; cases hb) q) (fun _ h => h) (fun _ _ h => h)
  exact I.call' (s' := { s' with heap := h'' }) J.os u hok J.bare fun b hb => by
    obtain ⟨f0, f1, f2, f3, f4, f5⟩ := hf b hb
    exact ⟨f3, f1, f4, f5⟩
end
end L2

namespace L2
open PySem PySem.Spec PyProof.Rows
/-- the tests of a clause -/
def PIfs (X : Cx) (ifs : List Expr) (t : TT) : Prop :=
  ∀ (pins : List (Addr × Obj)) (s : Shared) (σ : St) (H : Hp) (Q : Bool → Hp → Prop), Inv X pins σ H s → t σ H Q →
    wpAny (model X.prog X.w) X.A (forIn ifs true fun c r => if r = true then do let ok ← isTrue c X.env (eval c X.env); pure (ForInStep.yield ok) else pure (ForInStep.yield r)) (TP X pins σ Q) X.xe s
def tNoIf : TT := fun _ H Q => Q true H
theorem pifs_nil {X : Cx} : PIfs X [] tNoIf := fun _ _ _ H _ I h => wpAny_tests_nil ⟨H, I, h⟩
theorem pifs_one {X : Cx} {c : Expr} {t : TT} (h : PT X c t) : PIfs X [c] t := fun pins s σ H Q I hw => wpAny_tests_one (h pins s σ H Q I hw)
/-- the slots that were filled are as they were -/
structure Keep (σa σb : St) : Prop where
  len : σb.length = σa.length
  at' : ∀ (i : Nat) (v : V), σa[i]? = some (some v) → σb[i]? = some (some v)
theorem Keep.refl (σ : St) : Keep σ σ := ⟨rfl, fun _ _ h => h⟩
theorem Keep.set {σa σb : St} {i : Nat} {v : V} (k : Keep σa σb) (h : σa[i]? = some none) : Keep σa (σb.set i (some v)) := by
  refine ⟨by rw [List.length_set]; exact k.len, fun j u e => ?_⟩
  have hj : i ≠ j := by
    rintro rfl
    rw [h] at e
    cases e
  rw [List.getElem?_set_ne hj]
  exact k.at' j u e
def tComp (σf : St → St) (wi : TI) (g : TG) (tt : TT) (te : TE) : TE := fun σ H Q => wi σ H fun J H1 => ∀ D, H1 D = none → ∃ W : Nat → Nat → List V → Hp → Prop, (∃ m, W 0 m [] (upd H1 D (.lst []))) ∧
  ∀ i m ys H, W i m ys H → H D = some (.lst ys) ∧ ys.length < sizeLine ∧
    ((J.stop i H ∧ Q (.ref D) H) ∨ (J.go i H ∧ ∀ x H', J.yld i H x H' → g x (σf σ) H' fun σ2 H2 => Keep (σf σ) σ2 ∧ tt σ2 H2 fun b H3 =>
      if b = true then te σ2 H3 fun y H4 => H4 D = some (.lst ys) ∧ ∃ m', m' < m ∧ W (i + 1) m' (ys ++ [y]) (upd H4 D (.lst (ys ++ [y]))) else ∃ m', m' < m ∧ W (i + 1) m' ys H3))
theorem pe_comp {X : Cx} {elt tg iter : Expr} {ifs : List Expr} {scope : Scope} {pos : Pos} {N' : List Str} {cl : List (Str × Addr)} {wi : TI} {g : TG} {tt : TT} {te : TE} (σf : St → St)
    (hc : X.calm = true) (hkind : scope.kind = .function) (hcell : ∀ y ∈ scope.names, y.2 ≠ .cell) (hnames : ∀ y ∈ scope.names, y.2 = .local → scope.names.lookup y.1 = some .local) (hcl : ClOk X scope cl)
    (hN : ∀ σ : St, σ.length = X.N.length → BlkN X N' scope cl σ (σf σ)) (hi : PI X tg iter wi)
    (hg : ∀ C s₀ H₀ ex pn, PG (blk X N' scope cl C s₀ H₀ ex pn) tg g) (ht : ∀ C s₀ H₀ ex pn, PIfs (blk X N' scope cl C s₀ H₀ ex pn) ifs tt) (he : ∀ C s₀ H₀ ex pn, PE (blk X N' scope cl C s₀ H₀ ex pn) elt te)
    (hs : ∀ x, foldedSetIterable iter X.env x = pure x := by intro _; rfl) : PE X (.ListComp elt [⟨tg, iter, ifs, 0⟩] scope pos) (tComp σf wi g tt te) := by
  intro pins s σ H Q I h
  rw [eval_ListComp]
  refine wpAny_comprehension_free (use := none) rfl hs hcl.run hkind hnames (thn (hi pins s σ H _ I h) fun v s1 h1 => thn h1 fun itv s2 h2 => ?_)
  obtain ⟨it, fp, tn, J, H2, rfl, I2, T, st2, f2, q⟩ := h2
  refine wpAny_newObj_type (wpAny_newFunctionEnv hcell (by intro y hy; simp at hy) (fun h₁ hns₁ hsb₁ => ?_) hkind)
  dsimp only at hns₁ hsb₁ ⊢
  have hfo : ∀ b ∈ fp, b < s2.heap.objs.size := fun b hb => by
    obtain ⟨o, e, _⟩ := T.obj _ _ st2 b hb
    exact Heap.lt_size e
  have hDf : H2 s2.heap.objs.size = none := I2.hok.fresh (Nat.le_refl _)
  obtain ⟨W, ⟨m0, w0⟩, turn⟩ := q s2.heap.objs.size hDf
  have I3 : Inv X pins σ (upd H2 s2.heap.objs.size (.lst [])) { s2 with heap := s2.heap.push { cls := .type "list", data := .seq ([] : List Value).toArray } } := I2.lnew (its := []) (t' := s2.toks) .nil (Nat.zero_le _)
  have f3 : ∀ b ∈ fp, FpOk X pins (upd H2 s2.heap.objs.size (.lst [])) b := fun b hb => ⟨by rw [upd_ne (Nat.ne_of_lt (hfo b hb))]; exact (f2 b hb).1, (f2 b hb).2⟩
  generalize hD : s2.heap.objs.size = D at *
  generalize hs3 : ({ s2 with heap := s2.heap.push { cls := .type "list", data := .seq ([] : List Value).toArray } } : Shared) = s3 at *
  have hh3 : s3.heap = s2.heap.push { cls := .type "list", data := .seq ([] : List Value).toArray } := by rw [← hs3]
  have hsz3 : s2.heap.objs.size < s3.heap.objs.size := by rw [hh3, Heap.size_push]; exact Nat.lt_succ_self _
  have e3 : ∀ h t, ({ s2 with heap := h, toks := t } : Shared) = { s3 with heap := h, toks := t } := fun h t => by rw [← hs3]
  rw [← hh3] at hns₁ hsb₁ ⊢
  have hk3 : ∀ b o, s3.heap.get? b = some o → h₁.get? b = some o := fun b o e => hsb₁.extBut b o (Nat.ne_of_lt (Heap.lt_size e)) (Heap.get?_push_of_some _ e)
  have I4 := blk_start (t' := s3.toks) I3 hkind hcl (hN σ I.len) f3 (fun b hb => Nat.lt_trans (hfo b hb) (hD ▸ hsz3)) (hns := by simpa using hns₁) hk3
  generalize hB : blk X N' scope cl s3.heap.objs.size s3 (upd H2 D (.lst [])) fp (X.pn ++ pins) = B at *
  have hBp : B.prog = X.prog := by rw [← hB]; rfl
  have hBw : B.w = X.w := by rw [← hB]; rfl
  have hBK : B.K = X.K := by rw [← hB]; rfl
  have hBA : B.A = X.A := by rw [← hB]; rfl
  have hBc : B.calm = true := by rw [← hB]; exact hc
  have hBe : B.env = compEnvC scope cl s3.heap.objs.size X.env := by rw [← hB]; rfl
  have hBx : B.xe = fun _ _ => False := by rw [← hB]; rfl
  have hGB : PG B tg g := hB ▸ hg _ _ _ _ _
  have hTB : PIfs B ifs tt := hB ▸ ht _ _ _ _ _
  have hEB : PE B elt te := hB ▸ he _ _ _ _ _
  have stat : ∀ {H' : Hp}, (∀ b ∈ fp, H' b = none) → ∀ b ∈ fp, FpOk B [] H' b := fun {H'} hn b hb => by
    obtain ⟨f0, f1, f2', f3', f4, f5⟩ := f3 b hb
    rw [← hB]
    refine ⟨hn b hb, Nat.ne_of_lt (Nat.lt_trans (hfo b hb) (hD ▸ hsz3)), fun z => ?_, .inl hb, fun x c e => f4 x c (hcl.sub x c e), fun p hp => ?_⟩
    · rcases List.mem_cons.mp (I.stkSub b z) with z | z
      · exact f1 z
      · exact f2' z
    · rw [show (blk X N' scope cl s3.heap.objs.size s3 (upd H2 D (.lst [])) fp (X.pn ++ pins)).pn = X.pn ++ pins from rfl, List.append_nil] at hp
      exact f5 p hp
  have loop : ∀ s4 : Shared, Inv B [] (σf σ) (upd H2 D (.lst [])) s4 → tn 0 s4.heap →
      codeAny (model X.prog X.w) X.A (.compLoop (.ListComp elt [⟨tg, iter, ifs, 0⟩] scope pos) 0 (.ref it) (.ref D) (compEnvC scope cl s3.heap.objs.size X.env)) (compPost (model X.prog X.w) X.A X.xe none (EP X pins σ Q) (.ref D) s3.heap.objs.size) s4 := by
    intro s4 I4 st4
    refine compLoop_gen (I := fun n s' => ∃ i ys H', Inv B [] (σf σ) H' s' ∧ tn i s'.heap ∧ (∀ b ∈ fp, H' b = none) ∧ W i n ys H') ?_ m0 ⟨0, [], _, I4, st4, fun b hb => (f3 b hb).1, w0⟩
    rintro n s5 ⟨i, ys, H5, I5, st5, fr5, w5⟩
    obtain ⟨hD5, hlen5, alt⟩ := turn i n ys H5 w5
    rcases alt with ⟨stop, qn⟩ | ⟨go, step⟩
    · have z := T.done B hBp hBw hBK hBc i [] s5 (σf σ) H5 (fun _ _ => False) I5 (stat fr5) st5 stop
      rw [hBA] at z
      refine thn z fun r s6 ⟨hr, I6⟩ => ?_
      subst hr
      obtain ⟨m6, hn6, _⟩ := I6.loc
      rw [hBe] at hn6
      refine ⟨m6, hn6, fun h' hs' => ?_⟩
      subst hB
      exact ⟨.ref D, H5, blk_end I3 f3 I6 hs', rfl, qn⟩
    · have z := T.item B hBp hBw hBK hBc i [] s5 (σf σ) H5 (fun _ _ => False) I5 (stat fr5) st5 go
      rw [hBA] at z
      refine thn z fun r s6 ⟨u, hr, h6⟩ => ?_
      subst hr
      refine thn h6 fun _ s7 ⟨x, H7, I7, r7, y7, st7, fr7⟩ => ?_
      have I7' := I7.pinned (stat fr7) (T.obj _ _ st7)
      have z8 := hGB _ s7 (σf σ) H7 x u _ I7' r7 (step x H7 y7)
      rw [hBp, hBw, hBA, hBe, hBx] at z8
      refine thn z8 fun _ s8 ⟨σ8, H8, I8, k8, q8⟩ => ?_
      have z9 := hTB _ s8 σ8 H8 _ I8 q8
      rw [hBp, hBw, hBA, hBe, hBx] at z9
      refine thn z9 fun ok s9 ⟨H9, I9, q9⟩ => ?_
      have again : ∀ {ys' : List V} {H' : Hp} {s' : Shared}, Inv B ([] ++ pinsAt fp s7.heap) σ8 H' s' → (∃ m', m' < n ∧ W (i + 1) m' ys' H') → ∃ m, m < n ∧ ∃ i ys H', Inv B [] (σf σ) H' s' ∧ tn i s'.heap ∧ (∀ b ∈ fp, H' b = none) ∧ W i m ys H' := fun {ys' H' s'} J ⟨m', hm, w'⟩ => by
        refine ⟨m', hm, i + 1, ys', H', J.unpinned.weak k8.len.symm k8.at', T.keep _ _ _ st7 fun b hb o e => (J.pin (b, o) (List.mem_append_right _ (List.mem_append_right _ (mem_pinsAt hb e)))).1, fun b hb => ?_, w'⟩
        obtain ⟨o, e, d⟩ := T.obj _ _ st7 b hb
        exact (J.pin (b, o) (List.mem_append_right _ (List.mem_append_right _ (mem_pinsAt hb e)))).2.1
      cases ok with
      | false => exact again I9 q9
      | true =>
        have z10 := hEB _ s9 σ8 H9 _ I9 q9
        rw [hBp, hBw, hBA, hBe, hBx] at z10
        refine thn z10 fun y10 s10 ⟨y, H10, I10, r10, hD10, q10⟩ => ?_
        have z11 := mt_append (X := B) _ s10 σ8 H10 (.ref D) [y] (.ref D) [y10] (fun _ H' => ∃ m', m' < n ∧ W (i + 1) m' (ys ++ [y]) H') I10 rfl (.cons r10 .nil) ⟨D, ys, y, rfl, rfl, hD10, hlen5, q10⟩
        rw [hBp, hBw, hBA, hBx] at z11
        refine thn z11 fun _ s11 ⟨_, H11, I11, _, q11⟩ => again I11 q11
  have st4 : tn 0 ({ s3 with heap := h₁, toks := s3.toks } : Shared).heap := T.keep _ _ _ st2 fun b hb o e => hk3 b o (by rw [hh3]; exact Heap.get?_push_of_some _ e)
  have L4 := loop _ I4 st4
  subst hs3
  exact codeAny_compStart_list L4 (T.self _ 0 _ _ _ st4 L4)
end L2

namespace L2
open PySem PySem.Spec PyProof.Rows
/-! ### large ints: sizes in bits -/
def Bt (n : Nat) (x : Int) : Prop := x.natAbs < 2 ^ n
theorem Bt.bits {n : Nat} {x : Int} (h : Bt n x) : Builtin.Int.intBits x ≤ n := intBits_le_iff.mpr h
theorem Bt.of_bits {n : Nat} {x : Int} (h : Builtin.Int.intBits x ≤ n) : Bt n x := intBits_le_iff.mp h
theorem Bt.mono {m n : Nat} {x : Int} (h : Bt m x) (hn : m ≤ n) : Bt n x := Nat.lt_of_lt_of_le h (Nat.pow_le_pow_right (by decide) hn)
theorem Bt.mul {m n : Nat} {x y : Int} (h : Bt m x) (h' : Bt n y) : Bt (m + n) (x * y) := .of_bits (intBits_mul_le h.bits h'.bits)
theorem Bt.add {m : Nat} {x y : Int} (h : Bt m x) (h' : Bt m y) : Bt (m + 1) (x + y) := .of_bits (by have := intBits_add_le h.bits h'.bits; rwa [Nat.max_self] at this)
theorem Bt.le {m : Nat} {x y : Int} (h : Bt m y) (h0 : 0 ≤ x) (hy : x ≤ y) : Bt m x := by
  unfold Bt at *
  omega
theorem Bt.div {m : Nat} {x y : Int} (h : Bt m x) (h0 : 0 ≤ x) : Bt m (x / y) := by
  unfold Bt at *
  have := Int.natAbs_ediv_le_natAbs x y
  omega
theorem log_of {n : Nat} {x : Int} (h : Bt n x) (hp : 0 < x) (hn : n ≤ 9000) : x.natAbs.log2 < 9000 := by
  have : x.natAbs.log2 < n := (Nat.log2_lt (by omega)).mpr h
  omega
def CMulB (i j : Int) : Prop := Bt 1000000 i ∧ Bt 1000000 j
def CDivB (_i j : Int) : Prop := 0 < j ∧ Bt 9000 j
def CPowB (i j : Int) : Prop := 0 ≤ j ∧ j ≤ 1000 ∧ Bt 1000 i
section
variable {X : Cx}
theorem op_mulB : OpR X (binaryOp .Mult) (rI CMulB fun i j => .int (i * j)) := opI fun _ _ _ _ _ _ _ hc q => mul_int q (.of_bits (Nat.le_trans hc.1.bits (by decide)) (Nat.le_trans hc.2.bits (by decide)))
theorem op_fdivB : OpR X (binaryOp .FloorDiv) (rI CDivB fun i j => .int (i / j)) := opI fun i j _ _ _ _ _ hc q => by
  have h1 : (0 : Int) < j := hc.1
  rw [← Int.fdiv_eq_ediv_of_nonneg i (Int.le_of_lt h1)] at q
  exact floordiv_int (by omega) q (.inl (PyProof.noPylong_of_log2 (log_of hc.2 h1 (Nat.le_refl _))))
theorem op_powB : OpR X (binaryOp .Pow) (rI CPowB fun i j => .int (i ^ j.toNat)) := opI fun i j _ _ _ _ _ hc q => by
  obtain ⟨h0, h1, h2⟩ := hc
  refine PyProof.Rows.pow_int h0 ?_ q
  have b := h2.bits
  have e : (2 : Int) ^ 27 = 134217728 := by decide
  have := Int.mul_le_mul (show (Builtin.Int.intBits i : Int) ≤ 1000 by omega) h1 h0 (by decide)
  omega
/-! ### tuples of ints -/
theorem deq_ints {K : PySem.W.Frag} {H : Hp} {n : Nat} (ns ms : List Int) : ∀ (j : Nat) x y, (ns.map V.int)[j]? = some x → (ms.map V.int)[j]? = some y → DEq K H n x y (ns[j]? == ms[j]?) := by
  intro j x y h1 h2
  rw [List.getElem?_map] at h1 h2
  cases e1 : ns[j]? with
  | none => rw [e1] at h1; cases h1
  | some a =>
    cases e2 : ms[j]? with
    | none => rw [e2] at h2; cases h2
    | some b =>
      rw [e1] at h1
      rw [e2] at h2
      cases h1
      cases h2
      have : (some a == some b) = eqV (V.int a) (V.int b) := by
        show (a == b) = (a == b)
        rfl
      rw [this]
      exact DEq.flat rfl rfl
theorem all_ints : ∀ (ns ms : List Int), ((List.range (min ns.length ms.length)).all (fun j => ns[j]? == ms[j]?) && ns.length == ms.length) = decide (ns = ms) := by
  intro ns ms
  rw [Bool.eq_iff_iff]
  simp only [Bool.and_eq_true, List.all_eq_true, List.mem_range, beq_iff_eq, decide_eq_true_eq]
  constructor
  · rintro ⟨h, hl⟩
    refine List.ext_getElem? fun i => ?_
    by_cases hi : i < ns.length
    · exact h i (by omega)
    · rw [List.getElem?_eq_none (by omega), List.getElem?_eq_none (by omega)]
  · rintro rfl
    exact ⟨fun _ _ => rfl, rfl⟩
def rEqI (K : PySem.W.Frag) : R2 := fun x y H Q => ∃ a b, ∃ ns ms : List Int, x = .ref a ∧ y = .ref b ∧ SqT K H a (ns.map V.int) ∧ SqT K H b (ms.map V.int) ∧ Q (.bl (decide (ns = ms))) H
def rNeI (K : PySem.W.Frag) : R2 := fun x y H Q => ∃ a b, ∃ ns ms : List Int, x = .ref a ∧ y = .ref b ∧ SqT K H a (ns.map V.int) ∧ SqT K H b (ms.map V.int) ∧ Q (.bl (!decide (ns = ms))) H
theorem op_eqI (hu : X.A.units + 64 < cLine) : OpR X (compareOp .Eq) (rEqI X.K) := by
  intro pins s σ H x y v u Q I rx ry h
  obtain ⟨a, b, ns, ms, rfl, rfl, hx, hy, q⟩ := h
  refine op_eqT hu pins s σ H _ _ v u Q I rx ry ⟨a, b, _, _, fun j => ns[j]? == ms[j]?, rfl, rfl, hx, hy, deq_ints ns ms, ?_⟩
  rw [List.length_map, List.length_map, all_ints]
  exact q
theorem nes_at {pins : List (Addr × Obj)} {σ : St} {H : Hp} {s : Shared} (I : Inv X pins σ H s) {A : Around} {a b : Addr} {xs ys : List V} {e : Nat → Bool} (hx : SqT X.K H a xs) (hy : SqT X.K H b ys) (hu : A.units < cLine)
    (hd : ∀ (j : Nat) x y u v, xs[j]? = some x → ys[j]? = some y → RelV x u → RelV y v → SeqAt.EqAt A.in1 s u v (e j)) :
    SeqAt.RcNeAt A s (.ref a) (.ref b) (!((List.range (min xs.length ys.length)).all e && xs.length == ys.length)) := by
  obtain ⟨its, r, tx, _⟩ := I.tuple hx
  obtain ⟨its', r', ty, _⟩ := I.tuple hy
  have l1 := r.length
  have l2 := r'.length
  have q := SeqAt.RcNeAt.tuples (A := A) (e := e) tx ty hu (fun j h1 h2 => ?_)
  · rw [List.size_toArray, List.size_toArray, ← l1, ← l2] at q
    exact q
  · rw [List.size_toArray] at h1 h2
    obtain ⟨x, hxj⟩ : ∃ x, xs[j]? = some x := ⟨_, List.getElem?_eq_getElem (by omega)⟩
    obtain ⟨y, hyj⟩ : ∃ y, ys[j]? = some y := ⟨_, List.getElem?_eq_getElem (by omega)⟩
    obtain ⟨u1, hu1, ru1⟩ := r.get hxj
    obtain ⟨u2, hu2, ru2⟩ := r'.get hyj
    have e1 : its.toArray[j] = u1 := by
      have := (List.getElem?_eq_some_iff.mp hu1).2
      simpa using this
    have e2 : its'.toArray[j] = u2 := by
      have := (List.getElem?_eq_some_iff.mp hu2).2
      simpa using this
    rw [e1, e2]
    exact hd j x y u1 u2 hxj hyj ru1 ru2
theorem op_neT (hu : X.A.units + 64 < cLine) : OpR X (compareOp .NotEq) (rNeT X.K) := by
  intro pins s σ H x y v u Q I rx ry h
  obtain ⟨a, b, xs, ys, e, rfl, rfl, hx, hy, hd, q⟩ := h
  cases rx; cases ry
  exact nes_at I hx hy (by omega) (fun j x y u v h1 h2 r1 r2 => (hd j x y h1 h2).at I (by show X.A.units + 1 + 40 < cLine; omega) r1 r2) X.prog X.w X.xe _ ⟨.bl _, H, I, rfl, q⟩
theorem op_neI (hu : X.A.units + 64 < cLine) : OpR X (compareOp .NotEq) (rNeI X.K) := by
  intro pins s σ H x y v u Q I rx ry h
  obtain ⟨a, b, ns, ms, rfl, rfl, hx, hy, q⟩ := h
  refine op_neT hu pins s σ H _ _ v u Q I rx ry ⟨a, b, _, _, fun j => ns[j]? == ms[j]?, rfl, rfl, hx, hy, deq_ints ns ms, ?_⟩
  rw [List.length_map, List.length_map, all_ints]
  exact q
end
end L2

namespace L2
open PySem PySem.Spec PyProof.Rows
section
variable {X : Cx}
/-- an item of the tuple that a name holds -/
def tIt (K : PySem.W.Frag) (i k : Nat) : TE := fun σ H Q => ∃ p xs v, σ[i]? = some (some (.ref p)) ∧ SqT K H p xs ∧ xs[k]? = some v ∧ Q v H
theorem pit (i k : Nat) {x : Str} {p q : Pos} {j : Nat} (hN : X.N[i]? = some x := by rfl) (hv : Vis X.env.scope x := by first | exact Or.inl rfl | exact Or.inr (Or.inl rfl) | exact Or.inr (Or.inr rfl)) (hd : (x == ("__debug__" : Str)) = false := by decide)
    (hcd : (x == ("__classdict__" : Str)) = false := by decide) {pos : Pos} : PE X (.Subscript (.Name x p) (.Constant (.int (k : Int)) j q) pos) (tIt X.K i k) := by
  intro pins s σ H Q I h
  obtain ⟨a, xs, v, e, hs, hk, q⟩ := h
  exact pe_ix ix_tup (pe_var hN hv hd hcd) pe_int (fun _ _ => rfl) pins s σ H Q I ⟨_, e, a, xs, (k : Int), v, rfl, rfl, hs, atI_nat hk, q⟩
/-- a def of the text that may be called by its name -/
structure Cal (P : Program) (w : World) (K : PySem.W.Frag) (mg : Str → Option Value) (base : Heap) (CX : CXT) (k : Nat) (x : Str) (ps : List Str) (sp : Sp) : Prop where
  ex : ∃ (f : Addr) (fd : FuncData), mg x = some (.ref f) ∧ PySem.W.keepIn K (.ref f) = true ∧ Binds K fd ps [] ∧ FnOk P w K mg base CX k f fd ps sp
theorem pe_cal {CX : CXT} {k : Nat} {x : Str} {ps : List Str} {sp : Sp} {E : XK} {e : Expr} {es : List Expr} {t : TA} {p pos : Pos} (C : Cal X.prog X.w X.K X.mg X.base CX k x ps sp) (hr : Room k X.A) (hg : Gl X x) (hx : Passes CX X E)
    (ha : PA X (e :: es) t) (hdb : (x == ("__debug__" : Str)) = false := by decide) (he : starEach (e :: es) X.env = (false, eval e X.env) :: starEach es X.env := by rfl) (hpl : (backTo pos (starEach es X.env)).any (·.1) = false := by rfl) :
    PE X (.Call (.Name x p) (e :: es) [] pos) (tCall sp [] E t) := by
  obtain ⟨f, fd, hm, hk, hb, F⟩ := C.ex
  exact pe_call F hr hg hm hk hb .nil hx ha hdb he hpl
theorem Cal.mono {P : Program} {w : World} {K : PySem.W.Frag} {mg : Str → Option Value} {base : Heap} {CX : CXT} {j k : Nat} {x : Str} {ps : List Str} {sp : Sp} (C : Cal P w K mg base CX j x ps sp) (h : j ≤ k) : Cal P w K mg base CX k x ps sp := by
  obtain ⟨f, fd, hm, hk, hb, F⟩ := C.ex
  exact ⟨f, fd, hm, hk, hb, F.mono h⟩
end
theorem Same.tup {K : PySem.W.Frag} {H H' : Hp} {a : Addr} {xs : List V} (e : Same H H') (h : SqT K H a xs) : SqT K H' a xs := by
  rcases h with (h | ⟨o, h⟩) | h
  · exact .inl (.inl (e _ _ h))
  · exact .inl (.inr ⟨o, e _ _ h⟩)
  · exact .inr h
theorem Same.upd {H : Hp} {a : Addr} {o : HO} (h : H a = none) : Same H (upd H a o) := fun b u e => by
  rw [upd_ne (ne_of_none e h)]
  exact e
/-- a new tuple of ints comes back, all else as it was -/
def RetT (H : Hp) (Q : VK) (ns : List Int) : Prop := ∀ p H', Same H H' → H' p = some (.tup (ns.map V.int)) → Q (.ref p) H'
end L2

namespace L2
open PySem PySem.Spec PyProof.Rows PySem.W
/-- an own class of errors, as the top has made it -/
structure ExK (K : Frag) (C : Addr) : Prop where
  ga : findIn K (.ref C) "__getattribute__" = some (some (.builtin "BaseException.__getattribute__"))
  gt : findIn K (.ref C) "__getattr__" = some none
  cl : findIn K (.ref C) "__class__" = some (some (.builtin "object.__class__"))
  sb : subIn K (.ref C) (.type "BaseException") = some true
  so : subIn K (.ref C) (.type "object") = some true
  ci : (clsIn K C).isSome = true
/-- an object of the class at C stands at a -/
structure ExAt (h : Heap) (a : Addr) (o : Obj) (C : Addr) : Prop where
  at_ : h.get? a = some o
  cls : o.cls = .ref C
theorem ExAt.type {M : Model} {h : Heap} {a C : Addr} {o : Obj} (I : ExAt h a o C) : Looks M h (typeOf (.ref a)) (.ref C) := by
  rw [← I.cls]
  exact (Looks.ld I.at_).andThen .now
section
variable {prog : Program} {w : World} {A : Around} {E : Value → Shared → Prop} {h : Heap} {g : Array GenState} {d : Drawn} {t : Nat} {os : OsState} {a C : Addr} {o : Obj} {K : Frag}
theorem exc_check_ga {M : Model} {nameV : Value} {Q : Unit → Shared → Prop} (X : K.In h) (F : ExK K C) (I : ExAt h a o C) (hq : Q () ⟨h, g, d, t, os⟩) : wpAny M A (checkBuiltinCall "BaseException.__getattribute__" ⟨[.ref a, nameV], []⟩) Q E ⟨h, g, d, t, os⟩ := by
  have hk : builtinKind "BaseException.__getattribute__" = some .slot := by decide +kernel
  have hsplit : splitId "BaseException.__getattribute__" = some ("BaseException", "__getattribute__") := by decide +kernel
  have L2' := looks_subIn (M := M) X F.sb
  have ha := PySem.F.args_bexc_ga (.ref a) nameV
  have hx := I.at_
  have hc := I.cls
  simp only [checkBuiltinCall, hk, hsplit]
  refine wpAny_bind ?_
  · unfold isInstance
    repeat (first | (with_reducible refine wpAny_loadPart_at hx ?_; rw [hc]) | with_reducible refine L2'.at ?_ | wp_step)
    exact hq
end
/-- an object of an own class of errors stands at a: what is tracked of it -/
def excO (a C : Addr) : HO := .ext fun h => ∃ o, ExAt h a o C
section
variable {X : Cx}
end
end L2

namespace L2
open PySem PySem.Spec PyProof.Rows PySem.W
/-! ### an error on its way, with its own dict -/
theorem dict_mf (o : Obj) (f : Array Value → Array Value) : (Obj.mapFields f o).dict = o.dict := by
  unfold Obj.mapFields
  split <;> rfl
/-- an error at e with a traceback, its class, its dict -/
def TrD (h base : Heap) (e : Addr) (cls : Value) (dd : Option Addr) (fl : Value) : Prop :=
  ∃ (ob tb : Obj) (us ts : Array Value) (T : Addr), (h.get? e = some ob ∧ ob.data = .fields us ∧ ob.cls = cls ∧ ob.dict = dd) ∧ us[1]? = some (.ref T) ∧ (base.get? T = none ∧ T ≠ e) ∧ h.get? T = some tb ∧ tb.data = .fields ts ∧ ts[3]? = some fl
structure FlyD (base : Heap) (l : List Env) (e : Addr) (cls : Value) (dd : Option Addr) (fl : Value) (h : Heap) : Prop where
  st : base.StaysIn h
  no : base.get? e = none
  fr : h.FunFrames base l
  tr : TrD h base e cls dd fl
theorem FlyD.at {base h : Heap} {l : List Env} {e : Addr} {cls fl : Value} {dd : Option Addr} (x : FlyD base l e cls dd fl h) : ∃ ob us, h.get? e = some ob ∧ ob.cls = cls ∧ ob.dict = dd ∧ ob.data = .fields us := by
  obtain ⟨ob, _, us, _, _, ⟨a, b, c, d⟩, _⟩ := x.tr
  exact ⟨ob, us, a, c, d, b⟩
section
variable {M : Model} {A : Around} {E : Value → Shared → Prop} {s : Shared} {base : Heap} {env : Env} {outer : List Env} {L e : Addr} {Q : Unit → Shared → Prop} {cls : Value} {dd : Option Addr}
/-- a row of the traceback is laid ahead of the others -/
theorem entryD {ob : Obj} {us : Array Value} {head : Value} {had : Bool} (frs : A.frames = some (env :: outer)) (ff : s.heap.FunFrames base (env :: outer)) (fL : env.frame = some L)
    (ge : s.heap.get? e = some ob) (st : base.StaysIn s.heap) (no : base.get? e = none) (du : ob.data = .fields us) (sz : 1 < us.size)
    (k : ∀ h', FlyD base (env :: outer) e ob.cls ob.dict (rawInt L) h' → s.heap.UpToSlots h' → Q () { s with heap := h' }) :
    wpAny M A (do let fo ← frameOf env; let pl ← entryPlaceOf L had; let row ← EntryCells.newEntry head fo .none (rawInt L) .none pl; setField (.ref e) 1 row) Q E s := by
  have eNot : e ∉ (env :: outer).filterMap (·.frame) := fun mem => by
    obtain ⟨_, o', g', nf⟩ := ff.mem mem
    cases ge.symm.trans g'
    exact nf us du
  refine wpAny_bind (wpAny_frameOf_fun frs ff fL fun h1 only => wpAny_bind (wpAny_entryPlaceOf fun pl plOk => ?_))
  unfold EntryCells.newEntry newFields
  refine wpAny_bind (wpAny_newObj_type ?_ (plOk.sizeOk5 _ _ _ _ _))
  have g1 : h1.get? e = some ob := (only.2.1 e eNot).trans ge
  have st1 : base.StaysIn h1 := fun b o q => (only.2.1 b fun mem => by
    rw [(ff.mem mem).1] at q
    cases q).trans (st b o q)
  generalize hrow : ({ cls := .type "traceback", dict := none, data := .fields ([head, .ref L, .none, rawInt L, .none] ++ (if pl.isEmpty then List.replicate 6 Value.none else pl)).toArray } : Obj) = row
  have g2 : (h1.push row).get? e = some ob := Heap.get?_push_of_some row g1
  have Tne : h1.objs.size ≠ e := Nat.ne_of_gt (Heap.lt_size g1)
  have du' := Obj.data_mapFields du (·.setIfInBounds 1 (Value.ref h1.objs.size))
  have gT : (h1.push row).get? h1.objs.size = some row := Heap.get?_push_size h1 (by rw [← hrow]; rfl)
  have old : ∀ b o, b ≠ e → h1.get? b = some o → ((h1.push row).update e (Obj.mapFields (·.setIfInBounds 1 (Value.ref h1.objs.size)))).get? b = some o := fun b o nb q => by
    rw [Heap.get?_update_other _ _ (Ne.symm nb)]
    exact Heap.get?_push_of_some row q
  have nofld : ∀ b o, s.heap.get? b = some o → (∀ vs, o.data ≠ .fields vs) → b ≠ e := fun b o q nf z => by
    subst z
    cases ge.symm.trans q
    exact nf us du
  refine wpAny_setField g2 du sz (k _ ⟨fun b o q => old b o ?_ (st1 b o q), no, ff.of_keeps fun b o q nf => ?_, ?_⟩ fun b o q nf => ?_)
  · rintro rfl
    rw [no] at q
    cases q
  · obtain ⟨sl, z⟩ := only.2.2 b o q
    exact ⟨_, old b _ (nofld b o q nf) z, rfl⟩
  · refine ⟨_, row, _, ([head, .ref L, .none, rawInt L, .none] ++ (if pl.isEmpty then List.replicate 6 Value.none else pl)).toArray, h1.objs.size, ⟨Heap.get?_update_self _ g2 (Obj.isFreed_of_fields du'), du', Obj.cls_mapFields _ _, dict_mf _ _⟩, by simp [sz], ⟨?_, Tne⟩, ?_, by rw [← hrow], by simp⟩
    · cases z : base.get? h1.objs.size with
      | none => rfl
      | some o => exact absurd (Heap.lt_size (st1 _ _ z)) (Nat.lt_irrefl _)
    · rw [Heap.get?_update_other _ _ (Ne.symm Tne)]
      exact gT
  · obtain ⟨sl, z⟩ := only.2.2 b o q
    exact ⟨sl, old b _ (nofld b o q nf) z⟩
/-- the row's mark goes -/
theorem flightD {l : List Env} {fl : Value} (F : FlyD base l e cls dd fl s.heap) (k : ∀ h', FlyD base l e cls dd .none h' → s.heap.UpToSlots h' → Q () { s with heap := h' }) : wpAny M A (setFlight (.ref e) none) Q E s := by
  obtain ⟨st, no, ff, ob, tb, us, ts, T, ⟨ge, du, cc, cd⟩, u1, ⟨nT, Tne⟩, gT, dt, t3⟩ := F
  unfold setFlight
  refine wpAny_bind (wpAny_field ge du u1 ?_)
  rw [if_pos (show (Value.ref T != Value.none) = true from rfl)]
  have z3 : 3 < ts.size := (Array.getElem?_eq_some_iff.mp t3).1
  have dt' := Obj.data_mapFields dt (·.setIfInBounds 3 ((none : Option Addr).elim Value.none fun f => rawInt f))
  have old : ∀ b, b ≠ T → (s.heap.update T (Obj.mapFields (·.setIfInBounds 3 ((none : Option Addr).elim Value.none fun f => rawInt f)))).get? b = s.heap.get? b := fun b nb => Heap.get?_update_other _ _ (Ne.symm nb)
  have nofld : ∀ b o, s.heap.get? b = some o → (∀ vs, o.data ≠ .fields vs) → b ≠ T := fun b o q nf z => by
    subst z
    cases gT.symm.trans q
    exact nf ts dt
  refine wpAny_setField gT dt z3 (k _ ⟨fun b o q => ?_, no, ff.of_keeps fun b o q nf => ⟨o, (old b (nofld b o q nf)).trans q, rfl⟩, ?_⟩ fun b o q nf => ⟨o.slots, (old b (nofld b o q nf)).trans q⟩)
  · refine (old b ?_).trans (st b o q)
    rintro rfl
    rw [nT] at q
    cases q
  · exact ⟨ob, _, us, _, T, ⟨(old e (Ne.symm Tne)).trans ge, du, cc, cd⟩, u1, ⟨nT, Tne⟩, Heap.get?_update_self _ gT (Obj.isFreed_of_fields dt'), dt', by simp [z3]⟩
/-- a new error is noted -/
theorem note1D {ob : Obj} {us : Array Value} (frs : A.frames = some (env :: outer)) (ff : s.heap.FunFrames base (env :: outer)) (fL : env.frame = some L)
    (ge : s.heap.get? e = some ob) (st : base.StaysIn s.heap) (no : base.get? e = none) (du : ob.data = .fields us) (u1 : us[1]? = some .none)
    (k : ∀ h', FlyD base (env :: outer) e ob.cls ob.dict (rawInt L) h' → s.heap.UpToSlots h' → Q () { s with heap := h' }) : wpAny M A (noteFrame (.ref e) env) Q E s := by
  unfold noteFrame
  simp only [fL]
  refine wpAny_bind (wpAny_field ge du u1 ?_)
  rw [if_neg (by decide)]
  exact entryD frs ff fL ge st no du (Array.getElem?_eq_some_iff.mp u1).1 k
/-- one that is on its way is noted in the next frame -/
theorem noteD (frs : A.frames = some (env :: outer)) (fL : env.frame = some L) (F : FlyD base (env :: outer) e cls dd .none s.heap)
    (k : ∀ h', FlyD base (env :: outer) e cls dd (rawInt L) h' → s.heap.UpToSlots h' → Q () { s with heap := h' }) : wpAny M A (noteFrame (.ref e) env) Q E s := by
  obtain ⟨st, no, ff, ob, tb, us, ts, T, ⟨ge, du, cc, cd⟩, u1, ⟨nT, Tne⟩, gT, dt, t3⟩ := F
  subst cc cd
  unfold noteFrame
  simp only [fL]
  refine wpAny_bind (wpAny_field ge du u1 ?_)
  rw [if_pos (show (Value.ref T != Value.none) = true from rfl)]
  refine wpAny_bind (wpAny_field gT dt t3 ?_)
  rw [if_neg (show ¬ ((Value.none == rawInt L) = true) from by simp [rawInt])]
  have z3 : 3 < ts.size := (Array.getElem?_eq_some_iff.mp t3).1
  have old : ∀ b, b ≠ T → (s.heap.update T (Obj.mapFields (·.setIfInBounds 3 Value.none))).get? b = s.heap.get? b := fun b nb => Heap.get?_update_other _ _ (Ne.symm nb)
  have nofld : ∀ b o, s.heap.get? b = some o → (∀ vs, o.data ≠ .fields vs) → b ≠ T := fun b o q nf z => by
    subst z
    cases gT.symm.trans q
    exact nf ts dt
  refine wpAny_bind (wpAny_setField gT dt z3 ?_)
  refine entryD frs (ff.of_keeps fun b o q nf => ⟨o, (old b (nofld b o q nf)).trans q, rfl⟩) fL ((old e (Ne.symm Tne)).trans ge) (fun b o q => ?_) no du (Array.getElem?_eq_some_iff.mp u1).1 fun h' F' up => k h' F' fun b o q nf => up b o ((old b (nofld b o q nf)).trans q) nf
  refine (old b ?_).trans (st b o q)
  rintro rfl
  rw [nT] at q
  cases q
theorem FlyD.tail {h : Heap} {fl : Value} (F : FlyD base (env :: outer) e cls dd fl h) : FlyD base outer e cls dd fl h := ⟨F.st, F.no, F.fr.2.2, F.tr⟩
/-- a new error leaves the frame in which it was raised -/
theorem leave1D {ob : Obj} {us : Array Value} (frs : A.frames = some (env :: outer)) (ff : s.heap.FunFrames base (env :: outer)) (fL : env.frame = some L)
    (ge : s.heap.get? e = some ob) (st : base.StaysIn s.heap) (no : base.get? e = none) (du : ob.data = .fields us) (u1 : us[1]? = some .none)
    (k : ∀ h', FlyD base outer e ob.cls ob.dict .none h' → s.heap.UpToSlots h' → Q () { s with heap := h' }) : wpAny M A (leaving env (.ref e)) Q E s := by
  unfold leaving
  exact wpAny_bind (note1D frs ff fL ge st no du u1 fun h' F' up => flightD F' fun h'' F'' up' => k h'' F''.tail (up.trans up'))
end
end L2

namespace L2
open PySem PySem.Spec PyProof.Rows PySem.W
/-- an error is under way, with its own dict: what is known behind a call that ended so (s, H: ahead of the call) -/
structure Flx (P : Program) (w : World) (outer : List Env) (H : Hp) (s : Shared) (H' : Hp) (ea : Addr) (cls : Value) (dd : Option Addr) (s' : Shared) : Prop where
  os : s'.os = s.os
  bare : AllBare s'.gens
  un : Un (frs outer) [] H H' s.heap s'.heap
  fl : ∃ B : Heap, HOk P w H' B ∧ FlyD B outer ea cls dd .none s'.heap ∧ (∀ b o, s.heap.get? b = some o → H b = none → b ∉ frs outer → B.get? b = some o) ∧ (∀ b o, s.heap.get? b = some o → b ∉ frs outer → ∃ o', B.get? b = some o')
def CXg (P : Program) (w : World) : CXT := fun outer H s E e s' => ∃ (ea C : Addr) (dd : Option Addr) (H' : Hp), e = .ref ea ∧ Flx P w outer H s H' ea (.ref C) dd s' ∧ E (.ref C) dd H'
/-- a def's body running: it has a frame of its own and nothing that was made ahead of it turns -/
structure OwnF (X : Cx) : Prop where
  stk : X.stack = X.env :: X.outer
  fr : X.env.frame = some X.env.locals
  ex : X.ex = []
section
variable {X : Cx} {pins : List (Addr × Obj)} {σ : St} {H H' : Hp} {s s' : Shared}
theorem notStk (O : OwnF X) (I : Inv X pins σ H s) {b : Addr} {o : Obj} (e : X.s₀.heap.get? b = some o) (hb : b ∉ frs X.outer) : b ∉ frs X.stack := by
  rw [O.stk]
  intro z
  unfold frs at z hb
  rw [List.filterMap_cons, O.fr] at z
  rcases List.mem_cons.mp z with z | z
  · exact absurd (Nat.lt_of_lt_of_le (Heap.lt_size e) I.ok.above) (by rw [z]; exact Nat.lt_irrefl _)
  · exact hb z
theorem inStk (O : OwnF X) {b : Addr} (hb : b ∈ frs X.outer) : b ∈ frs X.stack := by
  rw [O.stk]
  unfold frs at *
  rw [List.filterMap_cons, O.fr]
  exact List.mem_cons_of_mem _ hb
/-- what has stayed, seen from the entry, when the error has left the frame -/
theorem un_of (O : OwnF X) (I : Inv X pins σ H s) {B h' : Heap} (u : Un (frs X.stack) [] H H' s.heap s'.heap) (bk : ∀ b o, X.s₀.heap.get? b = some o → X.H₀ b = none → b ∉ frs X.outer → B.get? b = some o)
    (th : ∀ b o, X.s₀.heap.get? b = some o → b ∉ frs X.outer → ∃ o', B.get? b = some o') (st : B.StaysIn h') (up : s'.heap.UpToSlots h') : Un (frs X.outer) [] X.H₀ H' X.s₀.heap h' := by
  have noex : ∀ b : Addr, b ∉ X.ex := fun b z => by rw [O.ex] at z; cases z
  have slot : ∀ b o, X.s₀.heap.get? b = some o → X.H₀ b = none → b ∈ frs X.outer → ∃ sl, h'.get? b = some { o with slots := sl } := fun b o e n hb => by
    obtain ⟨sl, e1⟩ := I.base.slot b o e n hb (noex b)
    have n1 := I.base.free b o e n (noex b)
    obtain ⟨sl2, e2⟩ := u.slot b _ e1 n1 (inStk O hb) (by simp)
    obtain ⟨_, o', ho', hnf⟩ := I.ok.funs.mem hb
    rw [e] at ho'
    cases ho'
    obtain ⟨sl3, e3⟩ := up b _ e2 (fun vs q => hnf vs q)
    exact ⟨sl3, e3⟩
  refine ⟨fun b o e n hb _ => st b o (bk b o e n hb), fun b o e n hb _ => slot b o e n hb, fun b o e n _ => ?_, fun b o e _ => ?_, fun b xs e => u.tups _ _ (I.base.tups _ _ e), fun b o x e => u.frzs _ _ _ (I.base.frzs _ _ _ e), fun b ps e => ?_⟩
  · obtain ⟨o1, e1⟩ := I.base.there b o e (noex b)
    exact u.free b o1 e1 (I.base.free b o e n (noex b)) (by simp)
  · by_cases hb : b ∈ frs X.outer
    · obtain ⟨sl, q⟩ := slot b o e (I.ok.frf b hb) hb
      exact ⟨_, q⟩
    · obtain ⟨o2, e2⟩ := th b o e hb
      exact ⟨o2, st b o2 e2⟩
  · obtain ⟨m1, e1⟩ := I.base.tbls b ps e
    obtain ⟨m2, e2⟩ := u.tbls _ _ e1
    exact ⟨m1 ++ m2, by rw [e2, Array.append_assoc]⟩
/-- the written part of the heap when the error is raised: all but the frames and the error -/
theorem fly_B (I : Inv X pins σ H s) {ea : Addr} (hea : H ea = none) : HOk X.prog X.w H (hideAll s.heap (ea :: frs X.stack)) := fun a o e => (I.hok a o e).stay (fun b u hb q => hideAll_get _ q fun z => by
  have n : H b = none := by
    rcases List.mem_cons.mp z with z | z
    · rw [z]; exact hea
    · exact I.stkFree b z
  rcases hb with hb | hb
  · rw [← hb] at e; rw [e] at n; cases n
  · rw [hb] at n; cases n) (fun _ h => h) (fun _ _ h => h)
/-- an error that stands there, untracked, leaves the frame -/
theorem fly_raise (O : OwnF X) (I : Inv X pins σ H s) {ea C : Addr} {dd : Option Addr} {ob : Obj} {us : Array Value} {E' : Value → Shared → Prop} {Q : Unit → Shared → Prop} (hea : H ea = none) (n0 : X.s₀.heap.get? ea = none) (ge : s.heap.get? ea = some ob)
    (hc : ob.cls = .ref C) (hdd : ob.dict = dd) (du : ob.data = .fields us) (u1 : us[1]? = some .none)
    (k : ∀ h', Flx X.prog X.w X.outer X.H₀ X.s₀ H ea (.ref C) dd { s with heap := h' } → Q () { s with heap := h' }) : wpAny (model X.prog X.w) X.A (leaving X.env (.ref ea)) Q E' s := by
  have nfr : ea ∉ frs X.stack := fun z => by
    obtain ⟨_, o', ho', hnf⟩ := I.stack.mem z
    rw [ge] at ho'
    cases ho'
    exact hnf us du
  have hin : ∀ env ∈ X.stack, ∀ b, env.frame = some b → b ∈ ea :: frs X.stack := fun env he b hb => List.mem_cons_of_mem _ (List.mem_filterMap.mpr ⟨env, he, hb⟩)
  have hfr : X.A.frames = some (X.env :: X.outer) := by rw [← O.stk]; exact I.ok.frames
  have hl : s.heap.FunFrames (hideAll s.heap (ea :: frs X.stack)) (X.env :: X.outer) := by rw [← O.stk]; exact funFrames_hide I.stack hin
  have nB : (hideAll s.heap (ea :: frs X.stack)).get? ea = none := hideAll_none _ (List.mem_cons_self ..)
  have bk : ∀ b o, X.s₀.heap.get? b = some o → X.H₀ b = none → b ∉ frs X.outer → (hideAll s.heap (ea :: frs X.stack)).get? b = some o := fun b o e n hb => by
    refine hideAll_get _ (I.base.keep b o e n hb (by rw [O.ex]; simp)) fun z => ?_
    rcases List.mem_cons.mp z with z | z
    · rw [z, n0] at e; cases e
    · exact notStk O I e hb z
  have th : ∀ b o, X.s₀.heap.get? b = some o → b ∉ frs X.outer → ∃ o', (hideAll s.heap (ea :: frs X.stack)).get? b = some o' := fun b o e hb => by
    obtain ⟨o1, e1⟩ := I.base.there b o e (by rw [O.ex]; simp)
    refine ⟨o1, hideAll_get _ e1 fun z => ?_⟩
    rcases List.mem_cons.mp z with z | z
    · rw [z, n0] at e; cases e
    · exact notStk O I e hb z
  refine leave1D (base := hideAll s.heap (ea :: frs X.stack)) hfr hl O.fr ge (fun b o q => of_hideAll _ q) nB du u1 fun h' F' up => k h' ⟨I.os, I.bare, ?_, hideAll s.heap (ea :: frs X.stack), fly_B I hea, by rw [← hc, ← hdd]; exact F', bk, th⟩
  exact un_of (s' := s) O I Un.refl bk th F'.st up
end
/-- the body of a def that may raise -/
abbrev cxF (P : Program) (w : World) (K : Frag) (mg : Str → Option Value) (base : Heap) (N : List Str) (qual : Str) (scope : Scope) (f : Addr) (cd : Value) (A : Around) (outer : List Env) (s : Shared) (H : Hp) (E : XK) : Cx := cxOf (CXg P w) P w K mg base N qual scope f cd A outer s H E
section
variable {P : Program} {w : World} {K : Frag} {mg : Str → Option Value} {base : Heap} {N : List Str} {qual : Str} {scope : Scope} {f : Addr} {cd : Value} {A : Around} {outer : List Env} {s : Shared} {H : Hp} {E : XK}
theorem ownF_of : OwnF (cxF P w K mg base N qual scope f cd A outer s H E) := ⟨rfl, rfl, rfl⟩
/-- an error that stands there, untracked, leaves -/
def XeOk (X : Cx) (E : XK) : Prop := ∀ (pins : List (Addr × Obj)) (σ : St) (H : Hp) (s : Shared) (ea C : Addr) (ob : Obj) (us : Array Value), Inv X pins σ H s → H ea = none → X.s₀.heap.get? ea = none → s.heap.get? ea = some ob → ob.cls = .ref C → ob.data = .fields us → us[1]? = some .none → E (.ref C) ob.dict H → X.xe (.ref ea) s
theorem xe_f : XeOk (cxF P w K mg base N qual scope f cd A outer s H E) E := by
  intro pins σ Hc sc ea C ob us I hea n0 ge hc du u1 hE
  exact fly_raise (X := cxF P w K mg base N qual scope f cd A outer s H E) ownF_of I hea n0 ge hc rfl du u1 fun h'' F' => ⟨ea, C, ob.dict, Hc, rfl, F', hE⟩
/-- THE RULE for a def that may raise -/
theorem Fun.okF {x : Str} {st : Stmt} {fd : FuncData} {ps : List Str} {k : Nat} {sp : Sp} (F : Fun K x qual st f fd) (S : FnScope N ps (defScope st)) (len : ∀ vs H Q E, sp vs H Q E → vs.length = ps.length)
    (hbody : ∀ (cdv : Value) (A : Around) (outer : List Env) (s : Shared) (H : Hp) (vs : List V) (Q : VK) (E : XK), Room k (A.deeper (envOfC qual (defScope st) s.heap.objs.size f cdv)) → sp vs H Q E →
      ∃ t, PSs (cxF P w K mg base N qual (defScope st) f cdv A outer s H E) (defBody st) t ∧ t { nx := fun _ H' => Q .non H', rt := Q } (start N vs) H) : FnOk P w K mg base (CXg P w) (k + 1) f fd ps sp := by
  obtain ⟨oc, od, kV, doc, pm, an, cdv, ct, osl, rfl, lk, hcd⟩ := F.ex
  exact fn_of lk hcd S len fun A outer s H vs Q E hr hsp => hbody cdv A outer s H vs Q E hr hsp
end
end L2

namespace L2
open PySem PySem.Spec PyProof.Rows PySem.W
/-- the class that an except names -/
structure CtK (K : Frag) (D : Addr) : Prop where
  ty : typeIn K (.ref D) = some (.type "type")
  ci : (clsIn K D).isSome = true
  sb : subIn K (.ref D) (.type "BaseException") = some true
theorem exc_matches {M : Model} {A : Around} {E : Value → Shared → Prop} {h : Heap} {g : Array GenState} {d : Drawn} {t : Nat} {os : OsState} {e C D : Addr} {o : Obj} {K : Frag} {Q : Bool → Shared → Prop} (X : K.In h) (I : ExAt h e o C) (F : CtK K D) (hs : subIn K (.ref C) (.ref D) = some true)
    (hq : Q true ⟨h, g, d, t, os⟩) : wpAny M A (excMatches (.ref e) (.ref D)) Q E ⟨h, g, d, t, os⟩ := by
  have L1 := looks_typeIn (M := M) X F.ty
  have L2' : Looks M h (isType (.ref D)) true := by
    have hcD := F.ci
    unfold clsIn at hcD
    split at hcD
    · rename_i c' d' cd' sl' ho
      intro A' Q' E' s' k q
      unfold isType loadHead
      exact wpAny_bind (wpAny_loadPart (k _ _ (X _ _ ho)) (wpAny_pure q))
    · cases hcD
  have L3 := looks_subIn (M := M) X F.sb
  have L4 := looks_subIn (M := M) X hs
  have L5 := I.type (M := M)
  have f := tc_notTuple
  unfold excMatches isInstance
  repeat (first | with_reducible refine L1.at ?_ | with_reducible refine L2'.at ?_ | with_reducible refine L3.at ?_ | with_reducible refine L4.at ?_ | with_reducible refine L5.at ?_ | wp_step)
  exact hq
/-! ### raise -/
abbrev bmV : List Value := [.type "ValueError", .type "Exception", .type "BaseException", .type "object"]
structure ClsObj (h : Heap) (C : Addr) (bmB : List Value) (newId : String) : Prop where
  ex : ∃ (nm q : Str) (N : Addr) (bs bm : List Value) (hdct : Bool) (sn : List Str) (sub : List Value) (ab : Bool) (col : Option Bool) (dd : Option Addr) (k0 k1 k2 k3 k5 : Option Value) (mN : Str → Option Value),
    h.get? C = some (excClassObj nm q C N bs bm hdct sn sub ab col dd k0 k1 k2 k3 k5 newId) ∧ h.Ns N mN ∧ mN "__init__" = none ∧ OwnTail h bmB bm
theorem clsObj_of {K : Frag} {h : Heap} {C : Addr} {bmB : List Value} {newId : String} (X : K.In h) (q : excIn K C bmB newId = true) : ClsObj h C bmB newId := by
  unfold excIn at q
  split at q
  case h_2 => cases q
  case h_1 dd cd sl ho =>
    split at q
    case h_2 => cases q
    case h_1 C' bm k0 k1 k2 k3 n k5 hm hs =>
      simp only [Bool.and_eq_true, beq_iff_eq, Bool.not_eq_true'] at q
      obtain ⟨⟨⟨⟨⟨e1, e2⟩, hdel⟩, ht⟩, hok⟩, hni⟩ := q
      cases e1
      cases e2
      obtain ⟨nm, bs, mro, ns, qn, hd, sn, sub, ab, col, del⟩ := cd
      obtain ⟨sl⟩ := sl
      dsimp only at hm hdel hok hni hs
      subst hm hdel hs
      exact ⟨nm, qn, ns, bs, bm, hd, sn, sub, ab, col, dd, k0, k1, k2, k3, k5, _, X _ _ ho, .of_isNs (isNs_of_in X hok), nsMap_none_of_in X hok hni, tail_of_in X ht⟩
theorem objThere {P : Program} {w : World} {H : Hp} {h : Heap} {a : Addr} {o : HO} (x : ObjOk P w H h a o) : ∃ ob, h.get? a = some ob := by
  cases o with
  | lst xs => obtain ⟨_, _, _, _, e⟩ := x; exact ⟨_, e⟩
  | tup xs => obtain ⟨_, _, _, ob, e, _⟩ := x; exact ⟨_, e⟩
  | dK kvs => obtain ⟨_, _, _, _, ob, _, _, e, _⟩ := x; exact ⟨_, e⟩
  | dT kvs => obtain ⟨_, _, _, _, ob, _, _, e, _⟩ := x; exact ⟨_, e⟩
  | set S n => obtain ⟨ob, _, _, _, e, _⟩ := x; exact ⟨_, e⟩
  | ins C dx fs => obtain ⟨_, _, _, e, _⟩ := x; exact ⟨_, e⟩
  | own y => obtain ⟨_, e⟩ := x; exact ⟨_, e⟩
  | xd fs => obtain ⟨_, ⟨_, _, _, e, _⟩, _⟩ := x; exact ⟨_, e⟩
  | rng lo hi => obtain ⟨_, _, _, e⟩ := x; exact ⟨_, e⟩
  | frz ob u => obtain ⟨e, _⟩ := x; exact ⟨_, e⟩
  | tbl ps => exact ⟨_, (show h.get? a = some _ from x)⟩
  | met f y => exact ⟨_, (show h.get? a = some _ from x)⟩
  | ext φ => obtain ⟨_, ⟨_, e⟩, _⟩ := x; exact ⟨_, e⟩
/-- an error of the class at C that was caught, its dict -/
def excD (a C : Addr) (dd : Option Addr) : HO := .ext fun h => ∃ o, ExAt h a o C ∧ o.dict = dd ∧ ∃ us, o.data = .fields us
theorem Inv.absent {X : Cx} {pins : List (Addr × Obj)} {σ : St} {H : Hp} {s : Shared} (I : Inv X pins σ H s) {e : Addr} (n : s.heap.get? e = none) : H e = none := by
  cases q : H e with
  | none => rfl
  | some o =>
    obtain ⟨ob, z⟩ := objThere (I.hok e o q)
    rw [n] at z
    cases z
theorem Inv.absent0 {X : Cx} {pins : List (Addr × Obj)} {σ : St} {H : Hp} {s : Shared} (I : Inv X pins σ H s) {e : Addr} (hex : X.ex = []) (n : s.heap.get? e = none) : X.s₀.heap.get? e = none := by
  cases q : X.s₀.heap.get? e with
  | none => rfl
  | some o =>
    obtain ⟨ob, z⟩ := I.base.there e o q (by rw [hex]; simp)
    rw [n] at z
    cases z
def tRaise (C : Addr) (E : XK) (t : TA) : TS := fun _ σ H => t σ H fun vs H1 => vs.length ≤ sizeLine ∧ E (.ref C) none H1
section
variable {X : Cx}
theorem ps_raise {x : Str} {C : Addr} {e₀ : Expr} {es : List Expr} {t : TA} {E : XK} {np cpos pos : Pos} (hex : X.ex = []) (hX : XeOk X E) (hc : X.calm = true) (hg : Gl X x) (hm : X.mg x = some (.ref C)) (hei : excIn X.K C bmV "ValueError.__new__" = true) (ha : PA X (e₀ :: es) t)
    (hdb : (x == ("__debug__" : Str)) = false := by decide) (he : starEach (e₀ :: es) X.env = (false, eval e₀ X.env) :: starEach es X.env := by rfl) (hplain : (backTo cpos (starEach es X.env)).any (·.1) = false := by rfl) :
    PS X (.Raise (some (.Call (.Name x np) (e₀ :: es) [] cpos)) none pos) (tRaise C E t) := by
  intro pins s σ H D I h
  obtain ⟨nm, q, N, bs, bm, hdct, sn, sub, ab, col, dd, k0, k1, k2, k3, k5, mN, hC, hN, hni, T⟩ := (clsObj_of I.ok.mod.kin hei).ex
  have FB := PySem.F.excBase_ValueError
  refine wpAny_Raise_call_subU (C := C) (nm := nm) (q := q) (N := N) (bs := bs) (bm := bm) (hdct := hdct) (sn := sn) (sub := sub) (ab := ab) (col := col) (dd := dd) (k0 := k0) (k1 := k1) (k2 := k2) (k3 := k3) (k5 := k5) FB FB.hasB FB (mN := mN)
    (T.hasType FB.hasBase) (I.ok.hd hc) (by rw [he]; show (false || (backTo cpos (starEach es X.env)).any (·.1)) = false; rw [hplain]; rfl) hni (ld_glob I hg hm ⟨rfl, ?_⟩ hdb)
  have z := ha cpos pins s σ H _ I h
  rw [he] at z ⊢
  refine Calls.evalArgs_plain (thn z fun us s1 ⟨vs, H1, I1, r1, hl, q1⟩ => ⟨rfl, ?_, I1.bk _ _ hC, hN.keeps I1.bk, T.keeps I1.bk, fun h' e hmade => ?_⟩)
  · show us.length ≤ sizeLine
    rw [← r1.length]
    exact hl
  · obtain ⟨t', ge, _, _⟩ := hmade.there
    have hn : H1 e = none := I1.absent hmade.new
    have n0 : X.s₀.heap.get? e = none := I1.absent0 hex hmade.new
    exact hX pins σ H1 { s1 with heap := h' } e C _ _ (I1.kept (t' := s1.toks) hmade.keeps) hn n0 ge rfl rfl rfl q1
end
/-- within an except suite, from which nothing is raised -/
abbrev Cx.within (X : Cx) (v : Value) : Cx := { X with A := X.A.mark (some v), calm := false, xe := fun _ _ => False }
/-- within a try: what is wanted of an error, and pins that every state bears -/
abbrev Cx.trying (X : Cx) (pins : List (Addr × Obj)) (E : Value → Shared → Prop) : Cx := { X with pn := X.pn ++ pins, xe := E }
section
variable {X : Cx} {pins : List (Addr × Obj)} {σ : St} {H H' : Hp} {s s' : Shared}
theorem Inv.within (I : Inv X pins σ H s) (v : Value) : Inv (X.within v) pins σ H s :=
  ⟨⟨I.ok.mod, I.ok.kind, I.ok.glob, I.ok.blt, I.ok.above, I.ok.inj, I.ok.has, I.ok.cab, (fun h => (by cases h)), I.ok.frames, I.ok.stk, I.ok.exf, I.ok.bs, I.ok.bsz, I.ok.noex, I.ok.exfs, I.ok.funs, I.ok.frf⟩, I.os, I.bare, I.base, I.loc, I.cell, I.free, I.freeC, I.pin, I.hok, I.len⟩
theorem Inv.without {v : Value} (ok : X.Ok) (I : Inv (X.within v) pins σ H s) : Inv X pins σ H s := ⟨ok, I.os, I.bare, I.base, I.loc, I.cell, I.free, I.freeC, I.pin, I.hok, I.len⟩
theorem Inv.trying (I : Inv X pins σ H s) (E : Value → Shared → Prop) : Inv (X.trying pins E) [] σ H s :=
  ⟨⟨I.ok.mod, I.ok.kind, I.ok.glob, I.ok.blt, I.ok.above, I.ok.inj, I.ok.has, I.ok.cab, I.ok.hd, I.ok.frames, I.ok.stk, I.ok.exf, I.ok.bs, I.ok.bsz, I.ok.noex, I.ok.exfs, I.ok.funs, I.ok.frf⟩, I.os, I.bare, I.base, I.loc, I.cell, I.free, I.freeC, fun p hp => I.pin p (by rwa [List.append_nil] at hp), I.hok, I.len⟩
theorem Inv.tried {E : Value → Shared → Prop} {pl : List (Addr × Obj)} (I : Inv (X.trying pins E) pl σ H s) : Inv X pins σ H s :=
  ⟨⟨I.ok.mod, I.ok.kind, I.ok.glob, I.ok.blt, I.ok.above, I.ok.inj, I.ok.has, I.ok.cab, I.ok.hd, I.ok.frames, I.ok.stk, I.ok.exf, I.ok.bs, I.ok.bsz, I.ok.noex, I.ok.exfs, I.ok.funs, I.ok.frf⟩, I.os, I.bare, I.base, I.loc, I.cell, I.free, I.freeC, fun p hp => I.pin p (List.mem_append_left _ hp), I.hok, I.len⟩
theorem SP.tried {E : Value → Shared → Prop} {D : Ends} {f : Flow} (h : SP (X.trying pins E) [] D f s) : SP X pins D f s := by
  cases f with
  | next => obtain ⟨σ', H', I, q⟩ := h; exact ⟨σ', H', I.tried, q⟩
  | brk => obtain ⟨σ', H', I, q⟩ := h; exact ⟨σ', H', I.tried, q⟩
  | cont => obtain ⟨σ', H', I, q⟩ := h; exact ⟨σ', H', I.tried, q⟩
  | ret u => obtain ⟨v, σ', H', I, r, q⟩ := h; exact ⟨v, σ', H', I.tried, r, q⟩
/-- a thing that stands there is tracked from now on -/
theorem Inv.track (I : Inv X pins σ H s) {a : Addr} {u : HO} (hn : H a = none) (h0 : X.s₀.heap.get? a = none) (hL : a ≠ X.env.locals) (hc : ∀ x c, X.env.cells.lookup x = some c → c ≠ a) (hp : ∀ p ∈ X.pn ++ pins, p.1 ≠ a)
    (ok : ObjOk X.prog X.w (upd H a u) s.heap a u) : Inv X pins σ (upd H a u) s := by
  have old : ∀ b o, X.s₀.heap.get? b = some o → b ≠ a := fun b o e z => by rw [z, h0] at e; cases e
  have trk : ∀ b o, H b = some o → b ≠ a := fun b o e => ne_of_none e hn
  refine ⟨I.ok, I.os, I.bare, ⟨I.base.keep, I.base.slot, fun b o e n hx => ?_, I.base.there, fun b xs e => ?_, fun b o x e => ?_, fun b ps e => ?_⟩, I.loc, I.cell, ?_, fun x c e => ?_, fun p q => ?_, fun b o e => ?_, I.len⟩
  · rw [upd_ne (old b o e)]
    exact I.base.free b o e n hx
  · have z := I.base.tups b xs e
    rw [upd_ne (trk _ _ z)]
    exact z
  · have z := I.base.frzs b o x e
    rw [upd_ne (trk _ _ z)]
    exact z
  · obtain ⟨m, z⟩ := I.base.tbls b ps e
    exact ⟨m, by rw [upd_ne (trk _ _ z)]; exact z⟩
  · rw [upd_ne (Ne.symm hL)]
    exact I.free
  · rw [upd_ne (hc x c e)]
    exact I.freeC x c e
  · obtain ⟨a1, a2, a3⟩ := I.pin p q
    exact ⟨a1, by rw [upd_ne (hp p q)]; exact a2, a3⟩
  · by_cases hb : b = a
    · subst hb
      rw [upd_same] at e
      cases e
      exact ok
    · rw [upd_ne hb] at e
      exact (I.hok b o e).stay (fun _ _ _ q => q) (fun c q => by rw [upd_ne (trk _ _ q)]; exact q) (fun c xs q => by rw [upd_ne (trk _ _ q)]; exact q)
/-- what has stayed when the error is looked at in this frame -/
theorem un_here (I : Inv X pins σ H s) {B h' : Heap} (u : Un (frs X.stack) [] H H' s.heap s'.heap) (bk : ∀ b o, s.heap.get? b = some o → H b = none → b ∉ frs X.stack → B.get? b = some o)
    (th : ∀ b o, s.heap.get? b = some o → b ∉ frs X.stack → ∃ o', B.get? b = some o') (st : B.StaysIn h') (up : s'.heap.UpToSlots h') : Un (frs X.stack) [] H H' s.heap h' := by
  have slot : ∀ b o, s.heap.get? b = some o → H b = none → b ∈ frs X.stack → ∃ sl, h'.get? b = some { o with slots := sl } := fun b o e n hb => by
    obtain ⟨sl, e1⟩ := u.slot b o e n hb (by simp)
    obtain ⟨_, o', ho', hnf⟩ := I.stack.mem hb
    rw [e] at ho'
    cases ho'
    obtain ⟨sl3, e3⟩ := up b _ e1 (fun vs q => hnf vs q)
    exact ⟨sl3, e3⟩
  refine ⟨fun b o e n hb _ => st b o (bk b o e n hb), fun b o e n hb _ => slot b o e n hb, u.free, fun b o e _ => ?_, u.tups, u.frzs, u.tbls⟩
  by_cases hb : b ∈ frs X.stack
  · obtain ⟨sl, q⟩ := slot b o e (I.stkFree b hb) hb
    exact ⟨_, q⟩
  · obtain ⟨o2, e2⟩ := th b o e hb
    exact ⟨o2, st b o2 e2⟩
/-- the name of an except goes -/
theorem name_gone {M : Model} {A : Around} {E : Value → Shared → Prop} {i : Nat} {n : Str} {pos : Pos} {Q : Unit → Shared → Prop} (I : Inv X pins σ H s) (hN : X.N.Nodup) (hi : X.N[i]? = some n) (hk : X.env.scope.names.lookup n = some .local)
    (h : ∀ s', Inv X pins (σ.set i none) H s' → Q () s') : wpAny M A (do bindName X.env n .none; unbindBehindTheSuite X.env n pos) Q E s := by
  obtain ⟨m, hn, hl⟩ := id I.loc
  have hcls : (X.env.scope.kind == .class || (X.env.scope.kind == .module && X.env.locals != X.env.globals)) = false := by rw [I.ok.kind]; rfl
  have hiσ : i < σ.length := by rw [I.len]; exact (List.getElem?_eq_some_iff.mp hi).1
  refine wpAny_nameGoes_keeps hk hn hcls fun h' v hn' hs => ?_
  have ne : ∀ b o, X.s₀.heap.get? b = some o → b ≠ X.env.locals := fun b o e => Nat.ne_of_lt (Nat.lt_of_lt_of_le (Heap.lt_size e) I.ok.above)
  refine h _ ⟨I.ok, I.os, I.bare, ⟨fun b o e n hb hx => (hs.2 b (ne b o e)).trans (I.base.keep b o e n hb hx), fun b o e n hb hx => ?_, I.base.free, fun b o e hx => ?_, I.base.tups, I.base.frzs, I.base.tbls⟩, ⟨_, hn', fun j y v' e1 e2 e3 => ?_⟩, fun y c e => ?_, I.free, I.freeC, fun p hp => ?_, fun b ob e => ?_, by rw [List.length_set]; exact I.len⟩
  · obtain ⟨sl, e1⟩ := I.base.slot b o e n hb hx
    exact ⟨sl, (hs.2 b (ne b o e)).trans e1⟩
  · obtain ⟨o', e1⟩ := I.base.there b o e hx
    exact ⟨o', (hs.2 b (ne b o e)).trans e1⟩
  · by_cases hj : j = i
    · subst hj
      rw [List.getElem?_set_self hiσ] at e2
      cases e2
    · rw [List.getElem?_set_ne (Ne.symm hj)] at e2
      obtain ⟨u', r', q⟩ := hl j y v' e1 e2 e3
      refine ⟨u', r', ?_⟩
      rcases q with ⟨k, e⟩ | ⟨k, c, e, z⟩
      · refine .inl ⟨k, ?_⟩
        have ny : y ≠ n := fun e => hj (nodup_ix hN e1 (e ▸ hi))
        simp [ny, e]
      · exact .inr ⟨k, c, e, z.sameBut hs (I.cne y c e)⟩
  · obtain ⟨v', q⟩ := I.cell y c e
    exact ⟨v', q.sameBut hs (I.cne y c e)⟩
  · obtain ⟨a1, a2, a3, a4⟩ := I.pin p hp
    exact ⟨(hs.2 p.1 a3).trans a1, a2, a3, a4⟩
  · refine (I.hok b ob e).stay (fun c w' hc q => (hs.2 c ?_).trans q) (fun _ q => q) fun _ _ q => q
    intro z
    rw [z] at hc
    rcases hc with hc | hc
    · rw [← hc, I.free] at e
      cases e
    · rw [I.free] at hc
      cases hc
/-- of a callee that may raise, and does not here -/
theorem passY {P : Program} {w : World} {X : Cx} : Passes (CXg P w) X E0 := fun _ _ _ _ _ _ _ h => by
  obtain ⟨_, _, _, _, _, _, z⟩ := h
  exact z.elim
/-- an error of the body is caught under the name n and kept under the name y (slot j) -/
def tTry (K : Frag) (N j : Nat) (Dc : Addr) (tb : XK → TS) : TS := fun D σ H => tb (fun cls dd H' => ∃ C, cls = .ref C ∧ ExK K C ∧ subIn K (.ref C) (.ref Dc) = some true ∧ ∀ a, H' a = none → D.nx ((List.replicate N none).set j (some (.ref a))) (upd H' a (excD a C dd))) D σ H
end
end L2

namespace L2
open PySem PySem.Spec PyProof.Rows PySem.W
/-! ### an own class of errors with an __init__ of its own -/
/-- the class at C stands under the one at P, which stands under ValueError; its __init__ is the def at f -/
def xiIn (K : Frag) (C P f : Addr) : Bool := match K.lookup C with
  | some ⟨.type "type", _, .cls cd, sl⟩ => (match cd.mro, sl.toList with
    | .ref C' :: .ref P' :: bm, [_, _, _, _, some (.builtin n), _] => C' == C && P' == P && n == "ValueError.__new__" && !cd.hasDel && cd.hasDict && tailIn K bmV (.ref P' :: bm) && nsOkIn K cd.ns && nsIn K cd.ns "__init__" == some (some (.ref f)) && bm == bmV
    | _, _ => false)
  | _ => false
structure ClsI (h : Heap) (C P f : Addr) : Prop where
  ex : ∃ (nm q : Str) (N : Addr) (bs : List Value) (sn : List Str) (sub : List Value) (ab : Bool) (col : Option Bool) (dd : Option Addr) (k0 k1 k2 k3 k5 : Option Value) (mN : Str → Option Value),
    h.get? C = some (excClassObj nm q C N bs (.ref P :: bmV) true sn sub ab col dd k0 k1 k2 k3 k5 "ValueError.__new__") ∧ h.Ns N mN ∧ mN "__init__" = some (.ref f) ∧ OwnTail h bmV (.ref P :: bmV)
theorem nsMap_some_of_in {K : Frag} {h : Heap} {N : Addr} {x : Str} {v : Value} (X : K.In h) (hok : nsOkIn K N = true) (e : nsIn K N x = some (some v)) : h.nsMap N x = some v := by
  have G : h.Ns N (h.nsMap N) := .of_isNs (isNs_of_in X hok)
  obtain ⟨o, es, ep, ho, hd, _, hf⟩ := G
  unfold nsIn at e
  split at e
  · rename_i c d es' n' sl q
    have z := X _ _ q
    rw [ho] at z
    cases z
    cases hd
    split at e
    · rename_i en he
      cases e
      rw [← hf]
      unfold nsFind findBy
      rw [← Array.find?_toList, he]
      rfl
    · split at e <;> cases e
  · cases e
theorem clsI_of {K : Frag} {h : Heap} {C P f : Addr} (X : K.In h) (q : xiIn K C P f = true) : ClsI h C P f := by
  unfold xiIn at q
  split at q
  case h_2 => cases q
  case h_1 dd cd sl ho =>
    split at q
    case h_2 => cases q
    case h_1 C' P' bm k0 k1 k2 k3 n k5 hm hs =>
      simp only [Bool.and_eq_true, beq_iff_eq, Bool.not_eq_true'] at q
      obtain ⟨⟨⟨⟨⟨⟨⟨⟨e1, e0⟩, e2⟩, hdel⟩, hdi⟩, ht⟩, hok⟩, hni⟩, e3⟩ := q
      cases e1
      cases e0
      cases e2
      cases e3
      obtain ⟨nm, bs, mro, ns, qn, hd, sn, sub, ab, col, del⟩ := cd
      obtain ⟨sl⟩ := sl
      dsimp only at hm hdel hok hni hs hdi
      subst hm hdel hs hdi
      exact ⟨nm, qn, ns, bs, sn, sub, ab, col, dd, k0, k1, k2, k3, k5, _, X _ _ ho, .of_isNs (isNs_of_in X hok), nsMap_some_of_in X hok hni, tail_of_in X ht⟩
section
variable {prog : Program} {w : World} {A : Around} {E : Value → Shared → Prop} {h : Heap} {g : Array GenState} {d : Drawn} {t : Nat} {os : OsState} {K : Frag} {C P f : Addr}
/-- what stands there when __init__ is called -/
abbrev excNew (h : Heap) (C : Addr) (rest : List Value) : Heap := (h.push { cls := .type "tuple", data := .seq rest.toArray }).push { cls := .ref C, data := .fields #[.ref h.objs.size, .none, .none, .none, .bool false, .none] }
theorem exi_type_call {rest : List Value} {Q : Fin → Shared → Prop} (X : K.In h) (I : ClsI h C P f) (hf : typeIn K (.ref f) = some (.type "function")) (hrest : rest.length ≤ sizeLine)
    (hq : codeAny (model prog w) A (.call (.ref f) ⟨.ref (h.objs.size + 1) :: rest, []⟩) (fun r s' => match r with
      | .ok (.ret v) => v = .none ∧ Q (.done (.ret (.ref (h.objs.size + 1)))) s'
      | .ok _ => False
      | .error e => E e s') ⟨excNew h C rest, g, d, t, os⟩) :
    wpAny (model prog w) A (Builtin.«type.__call__» ⟨.ref C :: rest, []⟩) Q E ⟨h, g, d, t, os⟩ := by
  obtain ⟨nm, q, N, bs, sn, sub, ab, col, dd, k0, k1, k2, k3, k5, mN, hC, hn, hni, T⟩ := I.ex
  have F := PySem.F.excBase_ValueError
  repeat (first | with_reducible refine wpAny_loadPart_at hC ?_ | with_reducible refine wpAny_madeBy_exc hC ?_ | wp_step)
  refine codeAny_call_builtin_code (Code.quiet_builtin _ F.quiet) (wpAny_check_new_subU F F.hasB T hC ?_)
  refine codeAny_exc_new_subU F F.hasB F T hC ?_ hrest
  show wpAny _ _ _ _ _ _
  have keep : ∀ b o, h.get? b = some o → (excNew h C rest).get? b = some o := fun b o e => Heap.get?_push_of_some _ (Heap.get?_push_of_some _ e)
  have hC1 := keep _ _ hC
  have hn1 : (excNew h C rest).Ns N mN := hn.keeps keep
  have hget : (excNew h C rest).get? (h.objs.size + 1) = some { cls := .ref C, data := .fields #[.ref h.objs.size, .none, .none, .none, .bool false, .none] } := by unfold excNew; heap_get
  have hcC : (Value.ref C :: Value.ref P :: bmV).contains (.ref C) = true := by simp
  have T1 := T.keeps keep
  have B1 := bind_fn (M := model prog w) (X.keeps keep) (.ref (h.objs.size + 1)) hf
  unfold isInstance
  repeat (first | with_reducible refine wpAny_loadPart_at hget ?_ | (with_reducible refine wpAny_isSubtype_exc hC1 ?_; rw [hcC]) | wp_step)
  show wpAny _ _ (typeLookup (.ref C) _) _ _ _
  refine wpAny_typeLookup_tail hC1 hn1 T1 F.mroIs F.init.lookup ?_
  rw [hni]
  refine wpAny_holding (wpAny_bind (B1.at ?_))
  refine wpAny_bind (wpAny_call (codeAny_mono hq fun r s' z => ?_))
  cases r with
  | error e => exact z
  | ok fl =>
    cases fl with
    | ret v =>
      obtain ⟨rfl, z⟩ := z
      exact wpAny_pure (wpAny_pure z)
    | next => exact z.elim
    | brk => exact z.elim
    | cont => exact z.elim
theorem exi_call {rest : List Value} {R : Result → Shared → Prop} (X : K.In h) (I : ClsI h C P f) (hf : typeIn K (.ref f) = some (.type "function")) (hrest : rest.length ≤ sizeLine)
    (hq : codeAny (model prog w) (A.under (.builtin "type.__call__" ⟨.ref C :: rest, []⟩)) (.call (.ref f) ⟨.ref (h.objs.size + 1) :: rest, []⟩) (InitBack (h.objs.size + 1) R) ⟨excNew h C rest, g, d, t, os⟩) :
    codeAny (model prog w) A (.call (.ref C) ⟨rest, []⟩) R ⟨h, g, d, t, os⟩ := by
  obtain ⟨nm, q, N, bs, sn, sub, ab, col, dd, k0, k1, k2, k3, k5, mN, hC, hn, hni, T⟩ := id I.ex
  have f1 := tc_lookup
  have f2 := tc_bind (.ref C)
  have hT : (⟨h, g, d, t, os⟩ : Shared).TypeIs (.ref C) "type" := ⟨_, hC, rfl⟩
  refine codeAny_of_tree ?_
  show wpAny _ _ (callAny (.ref C) _) _ _ _
  repeat (any_goals (first | assumption | with_reducible refine wpAny_loadPart_at hC ?_ | wp_step))
  refine ⟨rfl, ?_⟩
  refine codeAny_call_builtin_at (Code.quiet_builtin _ (by decide +kernel)) entry_typeCall (wpAny_check_type_call_sub hC (exi_type_call X I hf hrest (codeAny_mono hq fun r s' z => ?_)))
  cases r with
  | error e => exact z
  | ok fl =>
    cases fl with
    | ret v => exact z
    | next => exact z.elim
    | brk => exact z.elim
    | cont => exact z.elim
end
end L2

namespace L2
open PySem PySem.Spec PyProof.Rows PySem.W
/-- an error that is being made, or was made and is not raised yet: its class, its dict -/
def exN (a C : Addr) (dd : Option Addr) : HO := .ext fun h => ∃ o t, (h.get? a = some o ∧ o.cls = .ref C ∧ o.dict = dd) ∧ o.data = .fields #[t, .none, .none, .none, .bool false, .none]
/-- what is no more tracked -/
def rem (H : Hp) (a : Addr) : Hp := fun b => if b = a then none else H b
theorem rem_ne {H : Hp} {a b : Addr} (h : b ≠ a) : rem H a b = H b := by unfold rem; rw [if_neg h]
theorem rem_same {H : Hp} {a : Addr} : rem H a a = none := by unfold rem; rw [if_pos rfl]
section
variable {X : Cx} {pins : List (Addr × Obj)} {σ : St} {H : Hp} {s : Shared}
theorem Inv.drop (I : Inv X pins σ H s) {a : Addr} {φ : Heap → Prop} (ha : H a = some (.ext φ)) : Inv X pins σ (rem H a) s := by
  have nn : ∀ b, H b = none → rem H a b = none := fun b h => by
    by_cases z : b = a
    · rw [z]; exact rem_same
    · rw [rem_ne z]; exact h
  have oo : ∀ b o, H b = some o → (∀ ψ, o ≠ .ext ψ) → rem H a b = some o := fun b o h n => by
    by_cases z : b = a
    · subst z; rw [h] at ha; cases ha; exact absurd rfl (n φ)
    · rw [rem_ne z]; exact h
  refine ⟨I.ok, I.os, I.bare, ⟨I.base.keep, I.base.slot, fun b o e n hx => nn b (I.base.free b o e n hx), I.base.there, fun b xs e => oo b _ (I.base.tups b xs e) (fun _ z => by cases z), fun b o x e => oo b _ (I.base.frzs b o x e) (fun _ z => by cases z), fun b ps e => ?_⟩, I.loc, I.cell, nn _ I.free, fun x c e => nn _ (I.freeC x c e), fun p hp => ?_, fun b o e => ?_, I.len⟩
  · obtain ⟨m, z⟩ := I.base.tbls b ps e
    exact ⟨m, oo b _ z (fun _ q => by cases q)⟩
  · obtain ⟨a1, a2, a3⟩ := I.pin p hp
    exact ⟨a1, nn _ a2, a3⟩
  · by_cases z : b = a
    · rw [z, rem_same] at e; cases e
    · rw [rem_ne z] at e
      exact (I.hok b o e).stay (fun _ _ _ q => q) (fun c q => oo c _ q (fun _ z => by cases z)) (fun c xs q => oo c _ q (fun _ z => by cases z))
theorem Inv.exnew (I : Inv X pins σ H s) (C : Addr) (us : List Value) : Inv X pins σ (upd H (s.heap.objs.size + 1) (exN (s.heap.objs.size + 1) C none)) { s with heap := excNew s.heap C us } := by
  refine I.laid (a := s.heap.objs.size + 1) (t' := s.toks) (fun b u e => Heap.get?_push_of_some _ (Heap.get?_push_of_some _ e)) (Nat.le_succ _) ?_
  have hget : (excNew s.heap C us).get? (s.heap.objs.size + 1) = some { cls := .ref C, data := .fields #[.ref s.heap.objs.size, .none, .none, .none, .bool false, .none] } := by unfold excNew; heap_get
  exact ⟨⟨_, _, ⟨hget, rfl, rfl⟩, rfl⟩, ⟨_, hget⟩, fun h1 h2 ⟨o, t, ⟨e1, e2, e3⟩, e4⟩ k => ⟨o, t, ⟨k o e1, e2, e3⟩, e4⟩⟩
theorem raise_made {M : Model} {A : Around} {E : Value → Shared → Prop} {env : Env} {x : Sem Value} {C : Addr} {K : Frag} {s : Shared} {Q : Flow → Shared → Prop} (hh : A.handled = none) (F : ExK K C) (hk : ∃ oC, K.lookup C = some oC ∧ oC.cls = .type "type")
    (h : wpAny M A x (fun v s₁ => K.In s₁.heap ∧ ∃ e ob us, v = .ref e ∧ s₁.heap.get? e = some ob ∧ ob.cls = .ref C ∧ ob.data = .fields us ∧ us[1]? = some .none ∧ E (.ref e) s₁) E s) : wpAny M A (raiseStmt env (some x) none) Q E s := by
  unfold raiseStmt
  refine wpAny_bind (wpAny_mono h (fun v s₁ h₁ => ?_) fun _ _ x => x)
  obtain ⟨KX, e, ob, us, rfl, he, hc, hd, h1, hE⟩ := h₁
  obtain ⟨hp, g, d, tk, os⟩ := s₁
  have L1 := looks_subIn (M := M) KX F.sb
  obtain ⟨⟨cC, dC, tC, sC⟩, hkC, hkc⟩ := hk
  have hC := KX _ _ hkC
  dsimp only at hkc
  subst hkc
  obtain ⟨oc, od, odt, osl⟩ := ob
  dsimp only at hc hd
  subst hc hd
  have h1' := h1
  repeat (first | with_reducible refine wpAny_loadPart_at he ?_ | with_reducible refine wpAny_loadPart_at hC ?_ | with_reducible refine L1.at ?_ | wp_step)
  rw [h1]
  refine wpAny_pure ?_
  rw [if_neg (by decide)]
  exact wpAny_pure (wpAny_raiseNew_none hh hE)
end
theorem xiIn_obj {K : Frag} {C P f : Addr} (q : xiIn K C P f = true) : ∃ oC, K.lookup C = some oC ∧ oC.cls = .type "type" := by
  unfold xiIn at q
  split at q
  · rename_i ho
    exact ⟨_, ho, rfl⟩
  · cases q
/-- an own class of errors with an __init__, as the top made it -/
structure ExI (K : Frag) (C P f : Addr) : Prop where
  xi : xiIn K C P f = true
  fn : typeIn K (.ref f) = some (.type "function")
  kp : keepIn K (.ref C) = true
  k : ExK K C
/-- raise C(..): the error is made, __init__ runs, it leaves -/
def tRaiseI (C : Addr) (sp : Sp) (E : XK) (t : TA) : TS := fun _ σ H => t σ H fun vs H1 => vs.length ≤ sizeLine ∧ ∀ e, H1 e = none →
  sp (.ref e :: vs) (upd H1 e (exN e C none)) (fun v H2 => v = .non ∧ ∃ dd, H2 e = some (exN e C dd) ∧ E (.ref C) dd (rem H2 e)) E0
section
variable {X : Cx}
theorem ps_raiseI {x : Str} {C P f : Addr} {fd : FuncData} {ps : List Str} {sp : Sp} {k : Nat} {e₀ : Expr} {es : List Expr} {t : TA} {E : XK} {np cpos pos : Pos} (hex : X.ex = []) (hX : XeOk X E) (hc : X.calm = true) (hr : Room (k + 1) X.A) (hg : Gl X x) (hm : X.mg x = some (.ref C)) (hei : ExI X.K C P f)
    (F : FnOk X.prog X.w X.K X.mg X.base CX0 k f fd ps sp) (hb : Binds X.K fd ps []) (ha : PA X (e₀ :: es) t)
    (hdb : (x == ("__debug__" : Str)) = false := by decide) (he : starEach (e₀ :: es) X.env = (false, eval e₀ X.env) :: starEach es X.env := by rfl) (hpl : (backTo cpos (starEach es X.env)).any (·.1) = false := by rfl) :
    PS X (.Raise (some (.Call (.Name x np) (e₀ :: es) [] cpos)) none pos) (tRaiseI C sp E t) := by
  intro pins s σ H D I h
  rw [arm_exec_Raise]
  refine wpAny_bind (wpAny_standAt (raise_made (C := C) (K := X.K) (I.ok.hd hc) hei.k (xiIn_obj hei.xi) ?_))
  refine wpAny_bind (thn (Q := fun v s₁ => X.K.In s₁.heap ∧ ∃ e ob us, v = Value.ref e ∧ s₁.heap.get? e = some ob ∧ ob.cls = .ref C ∧ ob.data = .fields us ∧ us[1]? = some .none ∧ X.xe (.ref e) s₁) ?_ fun v s1 q => wpAny_bind (wpAny_standAt (wpAny_pure q)))
  refine wpAny_Call_Name_kw (ld_glob I hg hm ?_ hdb)
  refine PySem.W.callWith_K (h₀ := X.base) I.ok.mod.kin hei.kp (thn (ha cpos pins s σ H _ I h) fun us s1 ⟨vs, H1, I1, r, hl, q⟩ => ⟨I1.kIn, ?_⟩) he hpl
  have hn : H1 (s1.heap.objs.size + 1) = none := I1.hok.fresh (Nat.le_succ _)
  have hq := q (s1.heap.objs.size + 1) hn
  have I2 := I1.exnew C us
  have r2 : Vals (V.ref (s1.heap.objs.size + 1) :: vs) (Value.ref (s1.heap.objs.size + 1) :: us) := .cons rfl r
  have hlen : (Value.ref (s1.heap.objs.size + 1) :: us ++ []).length = ps.length := by
    have e := r2.length
    rw [F.len _ _ _ _ hq] at e
    rw [List.append_nil]
    exact e.symm
  have n0 : X.s₀.heap.get? (s1.heap.objs.size + 1) = none := I1.absent0 hex (Heap.get?_none_of_le (Nat.le_succ _))
  obtain ⟨hh, g, d, tk, os⟩ := s1
  refine wpAny_call (exi_call (f := f) (P := P) I1.kIn (clsI_of I1.kIn hei.xi) hei.fn (by show us.length ≤ sizeLine; rw [← r.length]; exact hl) (codeAny_mono (F.run _ X.stack _ _ ⟨Value.ref (hh.objs.size + 1) :: us, []⟩ (Value.ref (hh.objs.size + 1) :: us) _ _ E0 (hr.make C us [])
    (I2.env0.make C us []) (by have z := hb _ (Value.ref (hh.objs.size + 1) :: us) I2.kIn hlen; rw [List.append_nil] at z; exact z) r2 hq) fun r s' hq' => ?_))
  cases r with
  | error e => exact hq'.elim
  | ok fl =>
    cases fl with
    | ret u =>
      obtain ⟨v, H', I3, rv, ev, dd, hd, hE⟩ := I2.after hq'
      subst ev
      refine ⟨rv, ?_⟩
      obtain ⟨⟨o, t', ⟨o1, o2, o3⟩, o4⟩, _⟩ := I3.hok _ _ hd
      exact ⟨I3.kIn, _, o, _, rfl, o1, o2, o4, rfl, hX pins σ _ s' _ C o _ (I3.drop hd) rem_same n0 o1 o2 o4 rfl (by rw [o3]; exact hE)⟩
    | next => exact hq'.elim
    | brk => exact hq'.elim
    | cont => exact hq'.elim
end
end L2

namespace L2
open PySem PySem.Spec PyProof.Rows PySem.W PySem.Builtin PySem.Builtin.ObjectAttr
theorem refuse_exc (self : Value) : refuseLoop self "__setattr__" bmV = pure () := by
  kernel_rfl
section
variable {prog : Program} {w : World} {A : Around} {E : Value → Shared → Prop} {h : Heap} {g : Array GenState} {d : Drawn} {t : Nat} {os : OsState} {K : Frag} {C P f a : Addr} {o : Obj} {name : Str} {v : Value}
/-- e.name = v, up to the store itself -/
theorem exi_set_open {Q : Unit → Shared → Prop} (X : K.In h) (I : ClsI h C P f) (F : ExK K C) (sa : findIn K (.ref C) "__setattr__" = some (some (.builtin "object.__setattr__"))) (nn : findIn K (.ref C) name = some none) (O : ExAt h a o C)
    (hq : ∀ A' tk, wpAny (model prog w) A' (storeInOwnDict (.ref a) (.ref C) (.str name tk) name v false) (fun fin s' => ∃ u, fin = .done (.ret u) ∧ Q () s') (fun _ _ => False) ⟨h, g, d, t + 1, os⟩) :
    wpAny (model prog w) A (setAttr (.ref a) name v) Q E ⟨h, g, d, t, os⟩ := by
  obtain ⟨nm, q, N, bs, sn, sub, ab, col, dd, k0, k1, k2, k3, k5, mN, hC, hn, hni, T⟩ := I.ex
  have SF := PySem.F.store_object
  have L1 := O.type (M := model prog w)
  have L2' := looks_findIn (M := model prog w) X sa
  have L3 := looks_findIn (M := model prog w) X nn
  have L4 : Looks (model prog w) h (isInstance (.ref a) (.type "object")) true := L1.andThen (looks_subIn X F.so)
  refine wpAny_bind (wpAny_mkText (wpAny_bind (wpAny_bind (wpAny_bind (L1 _ _ _ _ (fun _ _ e => e) (L2' _ _ _ _ (fun _ _ e => e) (wpAny_holding ?_)))))))
  rw [SF.slot.bind]
  refine wpAny_bind (wpAny_pure (wpAny_bind (wpAny_call ?_)))
  refine codeAny_call_builtin SF.slot.plain SF.entry (@check_slot (model prog w) _ _ _ "object.__setattr__" "object" "__setattr__" (.ref a) [.str name t, v] [] _ SF.kind SF.split L4 (SF.args (.ref a) (.str name t) v) ?_)
  show wpAny _ _ (Builtin.«object.__setattr__» ⟨[.ref a, .str name t, v], []⟩) _ _ _
  rw [osa_eq, refuse_eq]
  refine wpAny_bind (wpAny_bind (L1.here (wpAny_bind (wpAny_mroOf_exc hC ?_))))
  rw [refuseLoop_ref, refuseLoop_ref, refuse_exc]
  refine wpAny_pure (wpAny_bind (L1.here (wpAny_bind (L3.here (wpAny_bind (wpAny_pure ?_))))))
  refine wpAny_mono (hq _ t) (fun fin s' z => ?_) fun _ _ z => z.elim
  obtain ⟨u, rfl, z⟩ := z
  exact wpAny_pure (wpAny_pure z)
theorem idict_new {Q : Option Addr → Shared → Prop} (I : ClsI h C P f) (O : ExAt h a o C) (hd : o.dict = none) {us : Array Value} (hf : o.data = .fields us)
    (hq : Q (some h.objs.size) ⟨(h.push { cls := .type "dict", data := .dict #[] }).update a fun ob => { ob with dict := some h.objs.size }, g, d, t, os⟩) : wpAny (model prog w) A (instanceDict a true) Q E ⟨h, g, d, t, os⟩ := by
  obtain ⟨nm, q, N, bs, sn, sub, ab, col, dd, k0, k1, k2, k3, k5, mN, hC, hn, hni, T⟩ := I.ex
  have hx := O.at_
  obtain ⟨oc, od, odt, osl⟩ := o
  have hc := O.cls
  dsimp only at hd hf hc
  subst hd hf hc
  have hx1 : (h.push { cls := .type "dict", data := .dict #[] }).get? a = some ⟨.ref C, none, .fields us, osl⟩ := Heap.get?_push_of_some _ hx
  unfold instanceDict
  repeat (first | with_reducible refine wpAny_loadPart_at hx ?_ | with_reducible refine wpAny_loadPart_at hC ?_ | wp_step)
  exact hq
theorem idict_old {Q : Option Addr → Shared → Prop} {dx : Addr} (I : ClsI h C P f) (O : ExAt h a o C) (hd : o.dict = some dx) (hq : Q (some dx) ⟨h, g, d, t, os⟩) (b : Bool) : wpAny (model prog w) A (instanceDict a b) Q E ⟨h, g, d, t, os⟩ := by
  obtain ⟨nm, q, N, bs, sn, sub, ab, col, dd, k0, k1, k2, k3, k5, mN, hC, hn, hni, T⟩ := I.ex
  have hx := O.at_
  obtain ⟨oc, od, odt, osl⟩ := o
  have hc := O.cls
  dsimp only at hd hc
  subst hd hc
  unfold instanceDict
  repeat (first | with_reducible refine wpAny_loadPart_at hx ?_ | with_reducible refine wpAny_loadPart_at hC ?_ | wp_step)
  exact hq
/-- the store into a dict -/
theorem store_in {Q : Fin → Shared → Prop} {dx : Addr} {mA : Str → Option Value} {ns : List Str} {tk : Tok} (hn : h.Ns1 dx mA) (hw : Within mA ns) (hz : ns.length ≤ 100)
    (hq : ∀ h' tk', h'.Ns1 dx (fun y => if y = name then some v else mA y) → (∀ b ob, b ≠ dx → h.get? b = some ob → h'.get? b = some ob) → Q (.done (.ret .none)) ⟨h', g, d, tk', os⟩) :
    wpAny (model prog w) A (storeInDict dx (.str name tk) name v) Q E ⟨h, g, d, t, os⟩ := by
  unfold storeInDict newKeyGuard
  refine wpAny_bind (wpAny_pure (wpAny_bind (wpAny_nsSet1 hn fun h' hn' hs => ?_)))
  obtain ⟨oD, esD, epD, hoD, hdD, hcD⟩ := hn'.count (Within.cons name v hw)
  refine wpAny_bind (wpAny_lookBehind hoD (by rw [hdD]; exact pastItsLine_dict (Nat.le_trans hcD (by rw [List.length_cons, sizeLine_eq]; omega))) ?_)
  exact wpAny_pure (hq h' _ hn' fun b ob nb q => (hs.2 b nb).trans q)
/-- the first attribute: its dict is made -/
theorem exi_set_new {Q : Unit → Shared → Prop} (X : K.In h) (I : ClsI h C P f) (F : ExK K C) (sa : findIn K (.ref C) "__setattr__" = some (some (.builtin "object.__setattr__"))) (nn : findIn K (.ref C) name = some none) (O : ExAt h a o C) (hd : o.dict = none) {us : Array Value} (hf : o.data = .fields us)
    (hq : ∀ h' tk, h'.Ns1 h.objs.size (fun y => if y = name then some v else none) → h'.get? a = some { o with dict := some h.objs.size } → (∀ b ob, b ≠ a → h.get? b = some ob → h'.get? b = some ob) → Q () ⟨h', g, d, tk, os⟩) :
    wpAny (model prog w) A (setAttr (.ref a) name v) Q E ⟨h, g, d, t, os⟩ := by
  refine exi_set_open X I F sa nn O fun A' tk => ?_
  have hx := O.at_
  have ne : a ≠ h.objs.size := Nat.ne_of_lt (Heap.lt_size hx)
  have hx1 : (h.push { cls := .type "dict", data := .dict #[] }).get? a = some o := Heap.get?_push_of_some _ hx
  unfold storeInOwnDict
  refine wpAny_bind (wpAny_pure ?_)
  show wpAny _ _ (ownDictForStores (.ref a) >>= _) _ _ _
  refine wpAny_bind (idict_new I O hd hf ?_)
  have hgd : ((h.push { cls := .type "dict", data := .dict #[] }).update a fun ob => { ob with dict := some h.objs.size }).get? h.objs.size = some { cls := .type "dict", data := .dict #[] } :=
    (Heap.get?_update_other _ _ ne).trans (Heap.get?_push_at rfl rfl)
  have hga : ((h.push { cls := .type "dict", data := .dict #[] }).update a fun ob => { ob with dict := some h.objs.size }).get? a = some { o with dict := some h.objs.size } := by
    refine Heap.get?_update_self _ hx1 ?_
    obtain ⟨oc, od, odt, osl⟩ := o
    dsimp only at hf
    subst hf
    rfl
  have hnd : ((h.push { cls := .type "dict", data := .dict #[] }).update a fun ob => { ob with dict := some h.objs.size }).Ns h.objs.size (fun _ => none) := ⟨_, #[], _, hgd, rfl, fun e he => absurd he (by simp), fun _ => rfl⟩
  refine store_in (Heap.Ns1.of_empty hnd) (ns := []) Within.nil (by decide) fun h' tk' hn' hk => ⟨_, rfl, hq h' tk' hn' (hk a _ ne hga) fun b ob nb q => hk b ob (Nat.ne_of_lt (Heap.lt_size q)) ?_⟩
  exact (Heap.get?_update_other _ _ (Ne.symm nb)).trans (Heap.get?_push_of_some _ q)
/-! ### e.name -/
theorem exi_get_entry {tk : Tok} {dx : Addr} {mA : Str → Option Value} {Q : Fin → Shared → Prop} (X : K.In h) (I : ClsI h C P f) (nn : findIn K (.ref C) name = some none) (O : ExAt h a o C) (hd : o.dict = some dx) {us : Array Value} (hf : o.data = .fields us) (hn : h.Ns dx mA) (hv : mA name = some v)
    (hq : Q (.done (.ret v)) ⟨h, g, d, t, os⟩) : wpAny (model prog w) A (Builtin.«object.__getattribute__» ⟨[.ref a, .str name tk], []⟩) Q E ⟨h, g, d, t, os⟩ := by
  have L1 := O.type (M := model prog w)
  have L3 := looks_findIn (M := model prog w) X nn
  have hx := O.at_
  have hc := O.cls
  refine wpAny_bind (wpAny_pure (wpAny_bind (wpAny_pure ?_)))
  refine wpAny_bind (L1.here (wpAny_bind ?_))
  unfold find
  refine wpAny_bind (L3.here ?_)
  refine wpAny_bind (wpAny_pure ?_)
  refine wpAny_bind (wpAny_pure ?_)
  unfold ownThenClass inOwnDict ObjectAttr.ownDict
  refine wpAny_bind (wpAny_bind ?_)
  refine wpAny_bind (wpAny_loadPart_at hx ?_)
  rw [hf]
  refine idict_old I O hd ?_ false
  refine wpAny_nsGet hn ?_
  rw [hv]
  exact wpAny_bind (wpAny_rule (wpAny_pure (wpAny_pure hq)))
theorem exi_get_call {tk : Tok} {dx : Addr} {mA : Str → Option Value} {R : Result → Shared → Prop} (X : K.In h) (I : ClsI h C P f) (F : ExK K C) (nn : findIn K (.ref C) name = some none) (O : ExAt h a o C) (hd : o.dict = some dx) {us : Array Value} (hf : o.data = .fields us) (hn : h.Ns dx mA) (hv : mA name = some v)
    (hq : R (.ok (.ret v)) ⟨h, g, d, t, os⟩) : codeAny (model prog w) A (.call (.builtin "BaseException.__getattribute__") ⟨[.ref a, .str name tk], []⟩) R ⟨h, g, d, t, os⟩ :=
  codeAny_call_builtin PySem.F.attr_ValueError.ga.plain PySem.F.entry_bexc_ga (exc_check_ga X F O (exi_get_entry X I nn O hd hf hn hv hq))
theorem exi_get_by {tk : Tok} {fill expr : Bool} {dx : Addr} {mA : Str → Option Value} {Q : Value → Shared → Prop} (X : K.In h) (I : ClsI h C P f) (F : ExK K C) (nn : findIn K (.ref C) name = some none) (O : ExAt h a o C) (hd : o.dict = some dx) {us : Array Value} (hf : o.data = .fields us) (hn : h.Ns dx mA) (hv : mA name = some v) (hh : handedIn v = true)
    (hq : Q v ⟨h, g, d, t, os⟩) : wpAny (model prog w) A (getAttrBy (.ref a) (.str name tk) fill expr) Q E ⟨h, g, d, t, os⟩ := by
  have f3 := PySem.F.attr_ValueError.ga.bind (.ref a)
  have hx0 : (expr && onTheHeap (Value.builtin "BaseException.__getattribute__")) = false := by cases expr <;> rfl
  have hx2 : (Value.builtin "BaseException.__getattribute__" == Value.builtin "object.__getattribute__") = false := by decide +kernel
  have hx1 : (onTheHeap (Value.ref C) && Value.builtin "BaseException.__getattribute__" == Value.builtin "object.__getattribute__") = false := by rw [hx2]; rfl
  have L1 := looks_findIn (M := model prog w) X F.ga
  have L2' := looks_findIn (M := model prog w) X F.gt
  have hx := O.at_
  have hc := O.cls
  repeat (any_goals (first | assumption | (with_reducible refine wpAny_loadPart_at hx ?_; rw [hc]) | with_reducible refine L1.at ?_ | with_reducible refine L2'.at ?_ | wp_step))
  refine exi_get_call X I F nn O hd hf hn hv ?_
  repeat (any_goals (first | assumption | exact handed_on hh hq | wp_step))
end
/-! ### in the layer -/
/-- what the top made of a class of errors with fields: no attribute of the class has a field's name -/
structure ExF (K : Frag) (C P f : Addr) (x : Str) : Prop where
  i : ExI K C P f
  sa : findIn K (.ref C) "__setattr__" = some (some (.builtin "object.__setattr__"))
  nn : findIn K (.ref C) x = some none
/-- the dict of an error -/
def xdE (a : Addr) (fs : List (Str × V)) : HO := .ext fun h => ∃ mA, h.Ns1 a mA ∧ (∀ g, RelO (fs.lookup g) (mA g)) ∧ Within mA (fs.map (·.1))
theorem xdE_ok {P : Program} {w : World} {H : Hp} {h : Heap} {a : Addr} {fs : List (Str × V)} {mA : Str → Option Value} (n : h.Ns1 a mA) (r : ∀ g, RelO (fs.lookup g) (mA g)) (wi : Within mA (fs.map (·.1))) : ObjOk P w H h a (xdE a fs) := by
  obtain ⟨o, es, ep, e, q⟩ := id n
  exact ⟨⟨mA, n, r, wi⟩, ⟨o, e⟩, fun h1 h2 ⟨m, n1, r1, w1⟩ k => ⟨m, n1.at k, r1, w1⟩⟩
theorem exN_ok {P : Program} {w : World} {H : Hp} {h : Heap} {a C : Addr} {dd : Option Addr} {o : Obj} {t : Value} (e : h.get? a = some o) (c : o.cls = .ref C) (dq : o.dict = dd) (fd : o.data = .fields #[t, .none, .none, .none, .bool false, .none]) : ObjOk P w H h a (exN a C dd) :=
  ⟨⟨o, t, ⟨e, c, dq⟩, fd⟩, ⟨o, e⟩, fun h1 h2 ⟨o, t, ⟨e1, e2, e3⟩, e4⟩ k => ⟨o, t, ⟨k o e1, e2, e3⟩, e4⟩⟩
section
variable {X : Cx} {pins : List (Addr × Obj)} {σ : St} {H : Hp} {s : Shared} {o e value : Expr} {x : Str} {pos pos' : Pos} {ta tv : TE} {C P f : Addr}
/-- a thing that was not there ahead is tracked -/
theorem Inv.trackNew {s' : Shared} {H' : Hp} (I : Inv X pins σ H s) (I' : Inv X pins σ H' s') {a : Addr} {u : HO} (hex : X.ex = []) (n : s.heap.get? a = none) (hn : H' a = none) (ok : ObjOk X.prog X.w (upd H' a u) s'.heap a u) : Inv X pins σ (upd H' a u) s' := by
  refine I'.track hn (I.absent0 hex n) (fun z => ?_) (fun y c q z => ?_) (fun p q z => ?_) ok
  · obtain ⟨m, ⟨oL, _, _, hoL, _⟩, _⟩ := I.loc
    rw [← z, n] at hoL
    cases hoL
  · obtain ⟨v, o, ho, _⟩ := I.cell y c q
    rw [z, n] at ho
    cases ho
  · have := (I.pin p q).1
    rw [z, n] at this
    cases this
/-- e.x = value, the first one -/
def sExN (K : Frag) (C P f : Addr) (ta tv : TE) (x : Str) : TS := fun D σ H => tv σ H fun y H1 => ta σ H1 fun z H2 => ∃ a, z = .ref a ∧ H2 a = some (exN a C none) ∧ ExF K C P f x ∧
  ∀ dx, H2 dx = none → dx ≠ a → D.nx σ (upd (upd H2 a (exN a C (some dx))) dx (xdE dx [(x, y)]))
theorem ps_exN (hex : X.ex = []) (ha : PE X o ta) (hv : PE X value tv) (hs : swapsWith value (some (.Attribute o x pos')) pos.line X.env = pure false) : PS X (.Assign [.Attribute o x pos'] value pos) (sExN X.K C P f ta tv x) := by
  intro pins s σ H D I h
  refine plainObj_wpAny_Assign_Attribute (thn (hv pins s σ H _ I h) fun u s1 ⟨y, H1, I1, ry, q⟩ => thn (ha pins s1 σ H1 _ I1 q) fun ov s2 ⟨z, H2, I2, rx, a, ez, ea, F, q2⟩ => ?_) hs
  subst ez
  obtain rfl : ov = Value.ref a := rx
  obtain ⟨⟨ob, t', ⟨o1, o2, o3⟩, o4⟩, _⟩ := I2.hok _ _ ea
  have nz : s2.heap.get? s2.heap.objs.size = none := Heap.get?_none_of_le (Nat.le_refl _)
  have Hz : H2 s2.heap.objs.size = none := I2.hok.fresh (Nat.le_refl _)
  have ne : s2.heap.objs.size ≠ a := Nat.ne_of_gt (Heap.lt_size o1)
  obtain ⟨hh, g, d, tk, os⟩ := s2
  refine exi_set_new I2.kIn (clsI_of I2.kIn F.i.xi) F.i.k F.sa F.nn ⟨o1, o2⟩ o3 o4 fun h' tk' hn' ga ks => ?_
  have J1 : Inv X pins σ (upd H2 a (exN a C (some hh.objs.size))) ⟨h', g, d, tk', os⟩ := by
    refine I2.write (x := a) (e := a) (t' := tk') (by rw [ea]; exact True.intro) (.inl rfl) ks ⟨_, ga⟩ ?_
    exact exN_ok ga o2 rfl o4
  have J2 := I2.trackNew J1 (a := hh.objs.size) (u := xdE hh.objs.size [(x, y)]) hex nz (by rw [upd_ne ne]; exact Hz) (xdE_ok hn' (fun g => ?_) (fun g hg => ?_))
  · exact ⟨σ, _, J2, q2 _ Hz ne⟩
  · by_cases z : g = x
    · subst z
      simp only [List.lookup, beq_self_eq_true, if_true]
      exact ry
    · have : ([(x, y)] : List (Str × V)).lookup g = none := by
        simp only [List.lookup]
        rw [beq_eq_false_iff_ne.mpr z]
      rw [this, if_neg z]
      exact True.intro
  · by_cases z : g = x
    · rw [z]; simp
    · rw [if_neg z] at hg
      exact absurd rfl hg
end
end L2

namespace L2
open PySem PySem.Spec PyProof.Rows PySem.W PySem.Builtin PySem.Builtin.ObjectAttr
section
variable {prog : Program} {w : World} {A : Around} {E : Value → Shared → Prop} {h : Heap} {g : Array GenState} {d : Drawn} {t : Nat} {os : OsState} {K : Frag} {C P f a : Addr} {o : Obj} {v : Value}
/-- the base's __init__ of an error that is being made: its args are laid -/
theorem binit_call {Q : Value → Shared → Prop} {rest : List Value} {us : Array Value} {a0 : Value} (I : ClsI h C P f) (O : ExAt h a o C) (hf : o.data = .fields us) (h0 : us[0]? = some a0) (hz : rest.length ≤ sizeLine)
    (hq : Q .none ⟨(h.push { cls := .type "tuple", data := .seq rest.toArray }).update a (Obj.mapFields (·.setIfInBounds 0 (.ref h.objs.size))), g, d, t, os⟩) :
    wpAny (model prog w) A (call (.builtin "ValueError.__init__") (.ref a :: rest)) Q E ⟨h, g, d, t, os⟩ := by
  obtain ⟨nm, q, N, bs, sn, sub, ab, col, dd, k0, k1, k2, k3, k5, mN, hC, hn, hni, T⟩ := I.ex
  have F := PySem.F.excBase_ValueError
  have z0 : 0 < us.size := (Array.getElem?_eq_some_iff.mp h0).1
  have g1 := Heap.get?_push_of_some (h := h) { cls := .type "tuple", data := .seq rest.toArray } O.at_
  refine wpAny_call (codeAny_call_builtin F.init.plain F.initEntry (wpAny_check_init_subU F T hC O.at_ O.cls ?_))
  unfold Builtin.«BaseException.__init__»
  dsimp only
  rw [if_neg (by simp)]
  unfold newTuple Builtin.BaseException.bexcPut
  refine wpAny_bind (wpAny_newObj_type ?_ (by show rest.toArray.size ≤ sizeLine; rw [List.size_toArray]; exact hz))
  refine wpAny_bind (wpAny_bind (wpAny_field g1 hf h0 (wpAny_bind (wpAny_setField g1 hf z0 ?_))))
  split
  · refine wpAny_letGo ?_
    exact wpAny_pure hq
  · exact wpAny_pure (wpAny_pure hq)
end
/-- the class whose __init__ is called by its name -/
structure BaseI (K : Frag) (P : Addr) : Prop where
  rd : readsIn K P (.type "type") = true
  fc : findCls K (.ref P) (.type "type") "__init__" = some (.val (.builtin "ValueError.__init__"))
  ga : specialIn K (.ref P) "__getattribute__" = some (some (.builtin "type.__getattribute__"))
section
variable {X : Cx} {C P f : Addr} {x : Str} {p apos pos : Pos} {e₁ e₂ : Expr} {t : TA}
/-- Base.__init__(self, text) -/
def tBInit (K : Frag) (P : Addr) (t : TA) : TE := fun σ H Q => t σ H fun vs H1 => ∃ a C dd f txt, vs = [.ref a, .str txt] ∧ H1 a = some (exN a C dd) ∧ ExI K C P f ∧ Q .non H1
theorem upd_id {H : Hp} {a : Addr} {o : HO} (h : H a = some o) : upd H a o = H := by
  funext b
  by_cases z : b = a
  · rw [z, upd_same, h]
  · rw [upd_ne z]
theorem pe_binit {pl : Sem Bool} (hg : Gl X x) (hm : X.mg x = some (.ref P)) (B : BaseI X.K P) (ha : PA X [e₁, e₂] t) (hdb : (x == ("__debug__" : Str)) = false := by decide)
    (hst : starEach [e₁, e₂] X.env = (false, eval e₁ X.env) :: starEach [e₂] X.env := by rfl) (hpl : (backTo pos (starEach [e₂] X.env)).any (·.1) = false := by rfl)
    (ht : eval (.Call (.Attribute (.Name x p) "__init__" apos) [e₁, e₂] [] pos) X.env = (do
      let ov ← eval (.Name x p) X.env
      standAt apos.atName
      let (f, first) ← holding [ov] (getMethod ov "__init__" pl)
      callWith pos f first (backTo pos (starEach [e₁, e₂] X.env)) (backToKw pos (keywordEach [] X.env))) := by rfl) :
    PE X (.Call (.Attribute (.Name x p) "__init__" apos) [e₁, e₂] [] pos) (tBInit X.K P t) := by
  intro pins s σ H Q I h
  refine PySem.W.methodCall_KW (pl := pl) (ld_glob I hg hm ?_ hdb) ht
  refine method_cls I.kIn B.ga (cls_value I.kIn B.rd B.fc rfl ?_)
  have I0 := I.tok (s.toks + 1)
  have hA := ha pos pins _ σ H _ I0 h
  rw [hst] at hA ⊢
  refine Calls.callWith_builtin (by show (false || (backTo pos (starEach [e₂] X.env)).any (·.1)) = false; rw [hpl] <;> rfl) (Calls.evalArgs_plain (thn hA fun us s2 ⟨vs, H2, I2, r2, a, C, dd, f, txt, e1, ea, F, q2⟩ => ?_))
  subst e1
  obtain ⟨u1, u2, rfl, ra, rt⟩ := r2.two
  obtain rfl : u1 = Value.ref a := ra
  obtain ⟨⟨ob, t', ⟨o1, o2, o3⟩, o4⟩, _⟩ := I2.hok _ _ ea
  obtain ⟨hh, g, d, tk, os⟩ := s2
  refine binit_call (clsI_of I2.kIn F.xi) ⟨o1, o2⟩ o4 rfl (by show 1 ≤ sizeLine; decide) ?_
  have g1 := Heap.get?_push_of_some (h := hh) { cls := .type "tuple", data := .seq [u2].toArray } o1
  have d1 := Obj.data_mapFields o4 (·.setIfInBounds 0 (Value.ref hh.objs.size))
  have g2 := Heap.get?_update_self (Obj.mapFields (·.setIfInBounds 0 (Value.ref hh.objs.size))) g1 (Obj.isFreed_of_fields d1)
  have J : Inv X pins σ (upd H2 a (exN a C dd)) ⟨(hh.push { cls := .type "tuple", data := .seq [u2].toArray }).update a (Obj.mapFields (·.setIfInBounds 0 (.ref hh.objs.size))), g, d, tk, os⟩ := by
    refine I2.write (x := a) (e := a) (t' := tk) (by rw [ea]; exact True.intro) (.inl rfl) (fun b u nb q => ?_) ⟨_, g2⟩ ?_
    · exact (Heap.get?_update_other _ _ (Ne.symm nb)).trans (Heap.get?_push_of_some _ q)
    · exact exN_ok g2 ((Obj.cls_mapFields _ _).trans o2) ((dict_mf _ _).trans o3) d1
  rw [upd_id ea] at J
  exact ⟨.non, H2, J, rfl, q2⟩
/-! ### e.x of an error that was caught -/
def tExF (K : Frag) (ta : TE) (x : Str) : TE := fun σ H Q => ta σ H fun z H1 => ∃ a C P f dx fs v, z = .ref a ∧ H1 a = some (excD a C (some dx)) ∧ H1 dx = some (xdE dx fs) ∧ ExF K C P f x ∧ fs.lookup x = some v ∧ Q v H1
theorem pe_exf {e : Expr} {ta : TE} (he : PE X e ta) (hb : attributeBase e x X.env (eval e X.env) = eval e X.env) : PE X (.Attribute e x pos) (tExF X.K ta x) := by
  intro pins s σ H Q I h
  refine attr_of hb (thn (he pins s σ H _ I h) fun u s1 ⟨z, H1, I1, rx, a, C, P, f, dx, fs, v, ez, ea, ed, F, l, q⟩ => ?_)
  subst ez
  obtain rfl : u = Value.ref a := rx
  obtain ⟨⟨ob, O, od, us, ou⟩, _⟩ := I1.hok _ _ ea
  obtain ⟨⟨mA, n1, r1, _⟩, _⟩ := I1.hok _ _ ed
  obtain ⟨w', hw, rw'⟩ := RelO.some_of (by rw [← l]; exact r1 x)
  unfold getAttr
  refine wpAny_bind (wpAny_mkText ?_)
  have I2 := I1.tok (s1.toks + 1)
  obtain ⟨hh, g, d, tk, os⟩ := s1
  exact exi_get_by I1.kIn (clsI_of I1.kIn F.i.xi) F.i.k F.nn O od ou n1.ns hw (handed_of rw') ⟨v, H1, I2, rw', q⟩
end
end L2

namespace L2
open PySem PySem.Spec PyProof.Rows PySem.W
/-! ### f-strings -/
/-- what stands in an f-string for a value -/
def FmtV : V → Str → Prop
  | .int i, x => i.natAbs.log2 < 1920 ∧ x = (toString i : String)
  | .str y, x => y.length ≤ sizeLine ∧ x = y
  | .non, x => x = "None"
  | _, _ => False
def tFmt (ta : TE) : TE := fun σ H Q => ta σ H fun v H1 => ∃ x, FmtV v x ∧ Q (.str x) H1
abbrev TJ := Str → St → Hp → (Str → Hp → Prop) → Prop
/-- the parts of an f-string, behind what was joined so far -/
def PJ (X : Cx) (es : List Expr) (t : TJ) : Prop :=
  ∀ (acc : Str) (pins : List (Addr × Obj)) (s : Shared) (σ : St) (H : Hp) (Q : Str → Hp → Prop), Inv X pins σ H s → t acc σ H Q → wpAny (model X.prog X.w) X.A (joinParts acc (evalEach es X.env)) (EP X pins σ fun v H' => ∃ x, v = .str x ∧ Q x H') X.xe s
def jNil : TJ := fun acc _ H Q => acc.length ≤ sizeLine ∧ Q acc H
def jCons (te : TE) (tr : TJ) : TJ := fun acc σ H Q => te σ H fun v H1 => ∃ x, v = .str x ∧ (acc ++ x).length ≤ sizeLine ∧ tr (acc ++ x) σ H1 Q
def tJoin (t : TJ) : TE := fun σ H Q => t Str.empty σ H fun x H' => Q (.str x) H'
section
variable {X : Cx} {value e e' : Expr} {es : List Expr} {ta te : TE} {tr t : TJ} {pos : Pos}
end
end L2

namespace L2
open PySem PySem.Spec PyProof.Rows PySem.W
/-! ### over a text, sign by sign -/
def Its (x : Str) : It := ⟨fun i _ => ∃ c, x.cps[i]? = some c, fun i H v H' => H' = H ∧ ∃ c, x.cps[i]? = some c ∧ v = .str ⟨#[c]⟩, fun i _ => x.cps[i]? = none⟩
def iStr (tl : TE) : TI := fun σ H R => tl σ H fun v H1 => ∃ x, v = .str x ∧ R (Its x) H1
section
variable {X : Cx}
end
/-! ### methods of texts -/
def rPart : V → List V → Hp → VK → Prop := fun z vs H Q => ∃ x y, z = .str x ∧ vs = [.str y] ∧ (y.length == 0) = false ∧ x.length ≤ sizeLine ∧ ∀ p, H p = none → Q (.ref p) (upd H p (.tup [.str (Txt.partition x y).1, .str (Txt.partition x y).2.1, .str (Txt.partition x y).2.2]))
def rSplit : V → List V → Hp → VK → Prop := fun z vs H Q => ∃ x y, z = .str x ∧ vs = [.str y] ∧ (y.length == 0) = false ∧ x.length + 2 ≤ sizeLine ∧ ∀ p, H p = none → Q (.ref p) (upd H p (.lst ((Txt.split x y).map V.str)))
section
variable {X : Cx}
end
end L2
namespace L2
open PySem PySem.Spec PyProof.Rows PySem.W
section
variable {X : Cx}
/-! ### int(text), any and all of bools, text * number -/
/-! ### text * number, text[a:b] -/
theorem sl_str : SlR X (fun x lo hi H Q => ∃ a, x = .str a ∧ a.length ≤ sizeLine ∧ Q (.str (Txt.slice a lo hi)) H) := by
  intro pins s σ H x v vl vu lo hi sl Q I rx hs pl pu h
  obtain ⟨a, rfl, hz, q⟩ := h
  obtain ⟨t, rfl⟩ := rx
  refine ⟨"str", _, PySem.F.slot_str_getitem.lookup, typeIs_str _ _ _, ?_⟩
  have fin : ∀ t' k, EP X pins σ Q (.str (Txt.slice a lo hi) t') { s with toks := k } := fun t' k => ⟨.str _, H, I.tok _, ⟨_, rfl⟩, q⟩
  cases pl with
  | none => cases pu with
    | none => exact wpAny_getItem_str_slice (l := none) (u := none) (st := none) hs rfl (post_val_or_str ⟨Nat.le_trans (Txt.slice_le a _ _) hz, fin⟩)
    | int j tj => exact wpAny_getItem_str_slice (l := none) (u := some (j, tj)) (st := none) hs rfl (post_val_or_str ⟨Nat.le_trans (Txt.slice_le a _ _) hz, fin⟩)
  | int i ti => cases pu with
    | none => exact wpAny_getItem_str_slice (l := some (i, ti)) (u := none) (st := none) hs rfl (post_val_or_str ⟨Nat.le_trans (Txt.slice_le a _ _) hz, fin⟩)
    | int j tj => exact wpAny_getItem_str_slice (l := some (i, ti)) (u := some (j, tj)) (st := none) hs rfl (post_val_or_str ⟨Nat.le_trans (Txt.slice_le a _ _) hz, fin⟩)
/-! ### a list against the empty one -/
theorem op_eqE (hu : X.A.units + 64 < cLine) : OpR X (compareOp .Eq) (fun x y H Q => ∃ a b xs, x = .ref a ∧ y = .ref b ∧ SqL X.K H a xs ∧ SqL X.K H b [] ∧ Q (.bl xs.isEmpty) H) := by
  intro pins s σ H x y v u Q I rx ry h
  obtain ⟨a, b, xs, rfl, rfl, ha, hb, q⟩ := h
  cases rx
  cases ry
  obtain ⟨its, r, p, _⟩ := I.list ha
  obtain ⟨its', r', p', _⟩ := I.list hb
  cases r'
  cases r with
  | nil => exact SeqAt.RcAt.lists (A := X.A) (e := fun _ => true) p.isList p'.isList rfl (by omega) (fun j h1 => absurd h1 (by simp)) X.prog X.w X.xe _ ⟨.bl _, H, I, rfl, q⟩
  | cons r t => exact SeqAt.RcAt.lists_lengths (A := X.A) p.isList p'.isList rfl (by omega) X.prog X.w X.xe _ ⟨.bl _, H, I, rfl, q⟩
end
end L2

/-! texts of figures, and of amounts, as lists of codes -/
namespace TM
open PySem PySem.NumText
/-- the figures of a number -/
def dg (n : Nat) : List Nat := (Nat.toDigits 10 n).map Char.toNat
/-- figures without a nought ahead of others -/
structure Fig (cs : List Nat) : Prop where
  ne : cs ≠ []
  len : cs.length ≤ 60
  all : AllDigits cs
  no : cs.head? = some 48 → cs.length = 1
/-- the text L writes the amount t / b -/
def Reads (L : List Nat) (t b : Nat) : Prop :=
  (Fig L ∧ t = digitsVal L ∧ b = 1) ∨ ∃ p q, L = p ++ 47 :: q ∧ Fig p ∧ Fig q ∧ t = digitsVal p ∧ b = digitsVal q ∧ 2 ≤ b ∧ Nat.gcd t b = 1
def showL (t b : Nat) : List Nat := if b = 1 then dg t else dg t ++ 47 :: dg b
end TM
namespace TM
open PySem PySem.StrLaws PySem.Builtin PySem.Builtin.Str
abbrev cps (x : Str) : List Nat := x.cps.toList
abbrev sl : Str := ⟨#[47]⟩
theorem ext {x y : Str} (h : cps x = cps y) : x = y := by
  obtain ⟨⟨a⟩⟩ := x
  obtain ⟨⟨b⟩⟩ := y
  have h' : a = b := h
  rw [h']
theorem cps_append' (x y : Str) : cps (x ++ y) = cps x ++ cps y := by
  show (x.cps ++ y.cps).toList = _
  rw [Array.toList_append]
end TM

namespace L2
open PySem PySem.Spec PyProof.Rows PySem.W
def rCount : V → List V → Hp → VK → Prop := fun x vs H Q => ∃ l xs y, x = .ref l ∧ vs = [y] ∧ H l = some (.lst xs) ∧ flatV y = true ∧ xs.all flatV = true ∧ Q (.int ((xs.countP fun z => eqV z y : Nat) : Int)) H
def rIndex : V → List V → Hp → VK → Prop := fun x vs H Q => ∃ l xs y, ∃ j : Nat, ∃ z, x = .ref l ∧ vs = [y] ∧ H l = some (.lst xs) ∧ flatV y = true ∧ xs.all flatV = true ∧ xs[j]? = some z ∧ eqV z y = true ∧
  (∀ m z, m < j → xs[m]? = some z → eqV z y = false) ∧ Q (.int (j : Int)) H
section
variable {X : Cx}
end
def Nx (n i : Nat) (P : Prop) : Prop := ∃ m', m' < n - i ∧ m' = n - (i + 1) ∧ i + 1 ≤ n ∧ P
end L2

namespace L2
open PySem PySem.Spec PyProof.Rows
/-! ### an empty dict, of which it is only known that it is one -/
def dcE (a : Addr) : HO := .ext fun h => ∃ o, h.get? a = some o ∧ o.cls = .type "dict"
def tDict0 : TE := fun _ H Q => ∀ p, H p = none → Q (.ref p) (upd H p (dcE p))
section
variable {X : Cx} {pos : Pos}
/-- isinstance against a built-in type, a dict among the things that are asked -/
def IsiD (K : PySem.W.Frag) (H : Hp) (v : V) (T : String) (b : Bool) : Prop := Isi K H v T b ∨ ∃ a, v = .ref a ∧ H a = some (dcE a) ∧ T = "str" ∧ b = false
end
end L2

namespace L2
open PySem PySem.Spec PyProof.Rows
/-! ### == and != of lists -/
def rEqL (K : PySem.W.Frag) : R2 := fun x y H Q => ∃ a b xs ys, ∃ e : Nat → Bool, x = .ref a ∧ y = .ref b ∧ SqL K H a xs ∧ SqL K H b ys ∧ (∀ (j : Nat) x y, xs[j]? = some x → ys[j]? = some y → DEq K H 40 x y (e j)) ∧
  Q (.bl ((List.range (min xs.length ys.length)).all e && xs.length == ys.length)) H
def rNeL (K : PySem.W.Frag) : R2 := fun x y H Q => ∃ a b xs ys, ∃ e : Nat → Bool, x = .ref a ∧ y = .ref b ∧ SqL K H a xs ∧ SqL K H b ys ∧ (∀ (j : Nat) x y, xs[j]? = some x → ys[j]? = some y → DEq K H 40 x y (e j)) ∧
  Q (.bl (!((List.range (min xs.length ys.length)).all e && xs.length == ys.length))) H
section
variable {X : Cx}
end
/-- a value that equals itself at sight -/
def Sf (v : V) : Prop := flatV v = true ∨ ∃ a, v = .ref a
theorem eqV_self {v : V} (h : flatV v = true) : eqV v v = true := by
  cases v <;> simp_all [flatV, eqV]
theorem DEq.self {K : PySem.W.Frag} {H : Hp} {n : Nat} {v : V} (h : Sf v) : DEq K H n v v true := by
  rcases h with h | ⟨a, rfl⟩
  · have := DEq.flat (K := K) (H := H) (n := n) h h
    rwa [eqV_self h] at this
  · exact .same
theorem all_true (n : Nat) (m : Nat) (h : n = m) : ((List.range (min n m)).all (fun _ => true) && n == m) = true := by
  subst h
  rw [beq_self_eq_true, Bool.and_true, List.all_eq_true]
  exact fun _ _ => rfl
/-- two lists of the same things -/
def rNeLs (K : PySem.W.Frag) : R2 := fun x y H Q => ∃ a b xs, x = .ref a ∧ y = .ref b ∧ SqL K H a xs ∧ SqL K H b xs ∧ (∀ v ∈ xs, Sf v) ∧ Q (.bl false) H
end L2

namespace L2
open PySem PySem.Spec PyProof.Rows
theorem bt_list : bootBuiltins "list" = some (.type "list") := by decide +kernel
/-! ### the tuples stay -/
def Tk (H H' : Hp) : Prop := ∀ b ys, H b = some (.tup ys) → H' b = some (.tup ys)
theorem Same.tk {H H' : Hp} (s : Same H H') : Tk H H' := fun b ys e => s b _ e
theorem Tk.lst {H : Hp} {l : Addr} {xs : List V} {o : HO} (h : H l = some (.lst xs)) : Tk H (upd H l o) := fun b ys e => by
  have ne : b ≠ l := fun z => by rw [z, h] at e; cases e
  rw [upd_ne ne]
  exact e
theorem sz1000 {n : Nat} (h : n ≤ 1000) : n ≤ sizeLine := Nat.le_trans h (by decide)
/-! ### displays of many elements -/
def starFree : Expr → Bool
  | .Starred .. => false
  | _ => true
end L2

namespace L2
open PySem PySem.Spec PyProof.Rows
/-! ### what a value tells: flat things, and tuples of such, at any depth -/
inductive Dt where
  | i (n : Int)
  | s (x : Str)
  | b (k : Bool)
  | n
  | t (l : List Dt)
/-- a tuple that nothing changes: one of the heap, or of the module -/
def SqZ (K : PySem.W.Frag) (H : Hp) (a : Addr) (xs : List V) : Prop := H a = some (.tup xs) ∨ ∃ (o : Obj) (its : Array Value) (n : Nat), K.lookup a = some o ∧ o.cls = .type "tuple" ∧ o.data = .seq its n ∧ its.size ≤ sizeLine ∧ Vals xs its.toList
theorem SqZ.of {K : PySem.W.Frag} {H : Hp} {a : Addr} {xs : List V} (h : H a = some (.tup xs)) : SqZ K H a xs := .inl h
theorem SqZ.sq {K : PySem.W.Frag} {H : Hp} {a : Addr} {xs : List V} (h : SqZ K H a xs) : SqT K H a xs := by
  rcases h with h | h
  · exact .inl (.inl h)
  · exact .inr h
inductive Dv (K : PySem.W.Frag) (H : Hp) : Nat → V → Dt → Prop where
  | i {n m} : Dv K H n (.int m) (.i m)
  | s {n x} : Dv K H n (.str x) (.s x)
  | b {n k} : Dv K H n (.bl k) (.b k)
  | n {n} : Dv K H n .non .n
  | t {n a xs ds} : SqZ K H a xs → xs.length = ds.length → (∀ (j : Nat) x d, xs[j]? = some x → ds[j]? = some d → Dv K H n x d) → Dv K H (n + 1) (.ref a) (.t ds)
theorem Dv.eq {K : PySem.W.Frag} {H : Hp} {n : Nat} {x : V} {d : Dt} (h : Dv K H n x d) : ∀ {m : Nat} {y : V}, Dv K H m y d → DEq K H n x y true := by
  induction h with
  | i => intro m y k; cases k; exact DEq.self (.inl rfl)
  | s => intro m y k; cases k; exact DEq.self (.inl rfl)
  | b => intro m y k; cases k; exact DEq.self (.inl rfl)
  | n => intro m y k; cases k; exact DEq.self (.inl rfl)
  | @t n a xs ds h1 h2 h3 ih =>
    intro m y k
    cases k with
    | @t m b ys _ k1 k2 k3 =>
      by_cases e : a = b
      · subst e
        exact .same
      · have q := DEq.tup (n := n) (e := fun _ => true) e h1.sq k1.sq fun j x y hx hy => ?_
        · rwa [all_true _ _ (h2.trans k2.symm)] at q
        · obtain ⟨d, hd⟩ : ∃ d, ds[j]? = some d := ⟨_, List.getElem?_eq_getElem (by have := (List.getElem?_eq_some_iff.mp hx).1; omega)⟩
          exact ih j x d hx hd (k3 j y d hy hd)
/-- lists of such things -/
def DL (K : PySem.W.Frag) (H : Hp) (n : Nat) (xs : List V) (ds : List Dt) : Prop := xs.length = ds.length ∧ ∀ (j : Nat) x d, xs[j]? = some x → ds[j]? = some d → Dv K H n x d
theorem DL.nil {K : PySem.W.Frag} {H : Hp} {n : Nat} : DL K H n [] [] := ⟨rfl, fun j x d h => by simp at h⟩
theorem DL.cons {K : PySem.W.Frag} {H : Hp} {n : Nat} {x : V} {d : Dt} {xs : List V} {ds : List Dt} (h : Dv K H n x d) (k : DL K H n xs ds) : DL K H n (x :: xs) (d :: ds) := by
  refine ⟨by rw [List.length_cons, List.length_cons, k.1], fun j y e hy he => ?_⟩
  cases j with
  | zero =>
    simp at hy he
    subst hy he
    exact h
  | succ j => exact k.2 j y e (by simpa using hy) (by simpa using he)
theorem Dv.tup {K : PySem.W.Frag} {H : Hp} {n : Nat} {a : Addr} {xs : List V} {ds : List Dt} (h : SqZ K H a xs) (k : DL K H n xs ds) : Dv K H (n + 1) (.ref a) (.t ds) := .t h k.1 k.2
theorem Dv.two {K : PySem.W.Frag} {H : Hp} {n : Nat} {a : Addr} {x y : V} {d e : Dt} (h : SqZ K H a [x, y]) (h1 : Dv K H n x d) (h2 : Dv K H n y e) : Dv K H (n + 1) (.ref a) (.t [d, e]) := .tup h (.cons h1 (.cons h2 .nil))
/-- the same list of things, told twice -/
def rEqDL (K : PySem.W.Frag) : R2 := fun x y H Q => ∃ a b xs ys ds, x = .ref a ∧ y = .ref b ∧ SqL K H a xs ∧ SqL K H b ys ∧ DL K H 40 xs ds ∧ DL K H 40 ys ds ∧ Q (.bl true) H
def rNeDL (K : PySem.W.Frag) : R2 := fun x y H Q => ∃ a b xs ys ds, x = .ref a ∧ y = .ref b ∧ SqL K H a xs ∧ SqL K H b ys ∧ DL K H 40 xs ds ∧ DL K H 40 ys ds ∧ Q (.bl false) H
def rEqDT (K : PySem.W.Frag) : R2 := fun x y H Q => ∃ a b xs ys ds, x = .ref a ∧ y = .ref b ∧ SqT K H a xs ∧ SqT K H b ys ∧ DL K H 40 xs ds ∧ DL K H 40 ys ds ∧ Q (.bl true) H
def rNeDT (K : PySem.W.Frag) : R2 := fun x y H Q => ∃ a b xs ys ds, x = .ref a ∧ y = .ref b ∧ SqT K H a xs ∧ SqT K H b ys ∧ DL K H 40 xs ds ∧ DL K H 40 ys ds ∧ Q (.bl false) H
section
variable {X : Cx}
end
end L2

namespace L2
open PySem PySem.Spec PyProof.Rows
/-! ### a comprehension that takes names over -/
theorem closure_go {env : Env} : ∀ (names : List (Str × NameKind)) (acc : List (Str × Addr)), (∀ y ∈ names, y.2 = NameKind.free → ∃ c, env.cells.lookup y.1 = some c) → (∀ x c, acc.lookup x = some c → env.cells.lookup x = some c) →
    ∃ cl, (forIn (m := Sem) names acc (fun x r => do if (x.2 == NameKind.free) = true then do let c ← cellOf env x.1; pure (ForInStep.yield ((x.1, c) :: r)) else pure (ForInStep.yield r))) = pure cl ∧
      (∀ x c, cl.lookup x = some c → env.cells.lookup x = some c) ∧ (∀ y ∈ names, y.2 = NameKind.free → ∃ c, cl.lookup y.1 = some c) ∧ ∀ x, (∃ c, acc.lookup x = some c) → ∃ c, cl.lookup x = some c
  | [], acc, _, h2 => ⟨acc, rfl, h2, (fun y hy => by simp at hy), fun _ h => h⟩
  | y :: r, acc, h1, h2 => by
    by_cases e : y.2 = NameKind.free
    · obtain ⟨c, hc⟩ := h1 y List.mem_cons_self e
      obtain ⟨cl, e1, e2, e3, e4⟩ := closure_go r ((y.1, c) :: acc) (fun z hz => h1 z (List.mem_cons_of_mem _ hz)) (fun x d hx => by
        rw [List.lookup_cons] at hx
        split at hx
        · rename_i hb
          have : x = y.1 := eq_of_beq hb
          rw [this, hc]
          exact hx
        · exact h2 x d hx)
      refine ⟨cl, ?_, e2, fun z hz ez => ?_, fun x hx => e4 x ?_⟩
      · rw [List.forIn_cons, if_pos (by rw [e]; rfl)]
        unfold cellOf
        rw [hc]
        simp only [pure_bind]
        exact e1
      · rcases List.mem_cons.mp hz with rfl | hz
        · exact e4 z.1 ⟨c, by rw [List.lookup_cons, beq_self_eq_true]⟩
        · exact e3 z hz ez
      · obtain ⟨d, hd⟩ := hx
        rw [List.lookup_cons]
        split
        · exact ⟨c, rfl⟩
        · exact ⟨d, hd⟩
    · obtain ⟨cl, e1, e2, e3, e4⟩ := closure_go r acc (fun z hz => h1 z (List.mem_cons_of_mem _ hz)) h2
      refine ⟨cl, ?_, e2, fun z hz ez => ?_, e4⟩
      · rw [List.forIn_cons, if_neg (by intro z; exact e (eq_of_beq z))]
        simp only [pure_bind]
        exact e1
      · rcases List.mem_cons.mp hz with rfl | hz
        · exact absurd ez e
        · exact e3 z hz ez
theorem closure_ok {scope : Scope} {env : Env} (h : ∀ y ∈ scope.names, y.2 = NameKind.free → ∃ c, env.cells.lookup y.1 = some c) :
    ∃ cl, closureFor scope env = pure cl ∧ (∀ x c, cl.lookup x = some c → env.cells.lookup x = some c) ∧ ∀ y ∈ scope.names, y.2 = NameKind.free → ∃ c, cl.lookup y.1 = some c := by
  obtain ⟨cl, e1, e2, e3, _⟩ := closure_go (env := env) scope.names [] h (fun x c e => by simp at e)
  refine ⟨cl, ?_, e2, e3⟩
  simp only [closureFor]
  rw [show (forIn (m := Sem) scope.names [] fun x r => if (x.2 == NameKind.free) = true then (do let c ← cellOf env x.1; pure (ForInStep.yield ((x.1, c) :: r))) else pure (ForInStep.yield r)) = pure cl from e1]
  rfl
theorem relabel_from {scope : Scope} {env : Env} {x : Str} (hc : ∀ y ∈ scope.names, y.2 ≠ NameKind.cell) (h : (relabel scope env).names.lookup x = some .cell ∨ (relabel scope env).names.lookup x = some .free) : ∃ y ∈ scope.names, y.1 = x ∧ y.2 = NameKind.free := by
  have e' : ∃ k, (k = NameKind.cell ∨ k = NameKind.free) ∧ (relabel scope env).names.lookup x = some k := by
    rcases h with e | e
    · exact ⟨_, .inl rfl, e⟩
    · exact ⟨_, .inr rfl, e⟩
  obtain ⟨k, hk, e⟩ := e'
  have hm := PySem.mem_of_lookup e
  obtain ⟨y, hy, hy2⟩ := List.mem_map.mp hm
  obtain ⟨n, kk⟩ := y
  have hn := hc _ hy
  simp only at hy2 hn
  split at hy2
  · rename_i hf
    injection hy2 with a1 a2
    subst a1
    simp only [Bool.and_eq_true] at hf
    exact ⟨(n, kk), hy, rfl, eq_of_beq hf.1.1⟩
  · injection hy2 with a1 a2
    subst a1 a2
    rcases hk with rfl | rfl
    · exact absurd rfl hn
    · exact ⟨_, hy, rfl, rfl⟩
theorem clOk_of {X : Cx} (ok : X.Ok) {scope : Scope} (hc : ∀ y ∈ scope.names, y.2 ≠ NameKind.cell) (h : ∀ y ∈ scope.names, y.2 = NameKind.free → X.env.kindOf y.1 = some .cell ∨ X.env.kindOf y.1 = some .free) : ∃ cl, ClOk X scope cl := by
  obtain ⟨cl, e1, e2, e3⟩ := closure_ok (scope := scope) (env := X.env) fun y hy ey => ok.has y.1 (h y hy ey)
  refine ⟨cl, e1, e2, fun x hx => ?_⟩
  obtain ⟨y, hy, rfl, ey⟩ := relabel_from hc hx
  exact e3 y hy ey
theorem pe_compC {X : Cx} {elt tg iter : Expr} {ifs : List Expr} {scope : Scope} {pos : Pos} {N' : List Str} {wi : TI} {g : TG} {tt : TT} {te : TE} (σf : St → St)
    (hc : X.calm = true) (hkind : scope.kind = .function) (hcell : ∀ y ∈ scope.names, y.2 ≠ .cell) (hnames : ∀ y ∈ scope.names, y.2 = .local → scope.names.lookup y.1 = some .local)
    (hk : ∀ y ∈ scope.names, y.2 = NameKind.free → X.env.kindOf y.1 = some .cell ∨ X.env.kindOf y.1 = some .free)
    (hN : ∀ cl (σ : St), σ.length = X.N.length → BlkN X N' scope cl σ (σf σ)) (hi : PI X tg iter wi)
    (hg : ∀ cl C s₀ H₀ ex pn, PG (blk X N' scope cl C s₀ H₀ ex pn) tg g) (ht : ∀ cl C s₀ H₀ ex pn, PIfs (blk X N' scope cl C s₀ H₀ ex pn) ifs tt) (he : ∀ cl C s₀ H₀ ex pn, PE (blk X N' scope cl C s₀ H₀ ex pn) elt te)
    (hs : ∀ x, foldedSetIterable iter X.env x = pure x := by intro _; rfl) : PE X (.ListComp elt [⟨tg, iter, ifs, 0⟩] scope pos) (tComp σf wi g tt te) := by
  intro pins s σ H Q I h
  obtain ⟨cl, hcl⟩ := clOk_of I.ok hcell hk
  exact pe_comp σf hc hkind hcell hnames hcl (hN cl) hi (hg cl) (ht cl) (he cl) hs pins s σ H Q I h
/-- the names that are taken over: free in the block, cells of the frame -/
theorem hk_of {X : Cx} {scope sc : Scope} (hs : X.env.scope = sc) (h : (scope.names.all fun y => y.2 != NameKind.free || sc.names.lookup y.1 == some NameKind.cell || sc.names.lookup y.1 == some NameKind.free) = true) :
    ∀ y ∈ scope.names, y.2 = NameKind.free → X.env.kindOf y.1 = some .cell ∨ X.env.kindOf y.1 = some .free := fun y hy ey => by
  have q := List.all_eq_true.mp h y hy
  unfold Env.kindOf
  rw [hs]
  rw [ey] at q
  simp only [bne_self_eq_false, Bool.false_or, Bool.or_eq_true] at q
  rcases q with q | q
  · exact .inl (eq_of_beq q)
  · exact .inr (eq_of_beq q)
theorem lookup_relabel_free {env : Env} {x : Str} (hk : env.scope.kind = .function) (hx : env.kindOf x = some .cell) : ∀ {names : List (Str × NameKind)}, names.lookup x = some .free →
    (names.map fun (n, k) => if (k == NameKind.free && env.scope.kind == .function && env.kindOf n == some .cell) then (n, NameKind.cell) else (n, k)).lookup x = some .cell
  | [], h => by simp at h
  | (n, k) :: r, h => by
    rw [List.map_cons]
    rw [List.lookup_cons] at h
    by_cases e : (x == n) = true
    · rw [e] at h
      have e' : x = n := eq_of_beq e
      subst e'
      have hf : k = NameKind.free := Option.some.inj h
      subst hf
      have c : (NameKind.free == NameKind.free && env.scope.kind == .function && env.kindOf x == some .cell) = true := by rw [hk, hx]; rfl
      rw [show (match ((x, NameKind.free) : Str × NameKind) with | (n, k) => if (k == NameKind.free && env.scope.kind == .function && env.kindOf n == some .cell) = true then (n, NameKind.cell) else (n, k)) = (x, NameKind.cell) from if_pos c]
      rw [List.lookup_cons, beq_self_eq_true]
    · have e0 : (x == n) = false := by simpa using e
      rw [e0] at h
      have ih := lookup_relabel_free hk hx h
      have en : ∀ q : Str × NameKind, q.1 = n → (q :: (r.map fun (n, k) => if (k == NameKind.free && env.scope.kind == .function && env.kindOf n == some .cell) then (n, NameKind.cell) else (n, k))).lookup x = some .cell := fun q hq => by
        obtain ⟨q1, q2⟩ := q
        simp only at hq
        subst hq
        rw [List.lookup_cons, e0]
        exact ih
      refine en _ ?_
      show (if _ then (n, NameKind.cell) else (n, k)).1 = n
      split <;> rfl
theorem blkN_by {X : Cx} {N' N : List Str} {scope sc : Scope} {cl : List (Str × Addr)} {σ : St} (ts : List (Option Nat)) (hN : X.N = N) (hsc : X.env.scope = sc) (hl : ts.length = N'.length) (hk : sc.kind = .function)
    (h : ((ts.zip N').all fun p => match p.1 with | none => true | some j => N[j]? == some p.2 && sc.names.lookup p.2 == some NameKind.cell && scope.names.lookup p.2 == some NameKind.free) = true) :
    BlkN X N' scope cl σ (ts.map fun t => t.bind fun j => (σ[j]?).join) := by
  refine ⟨by rw [List.length_map, hl], fun i x v h1 h2 => ?_⟩
  rw [List.getElem?_map] at h2
  cases ht : ts[i]? with
  | none => rw [ht] at h2; cases h2
  | some t =>
    rw [ht] at h2
    have h2' : (t.bind fun j => (σ[j]?).join) = some v := Option.some.inj h2
    cases t with
    | none => cases h2'
    | some j =>
      have hm : (some j, x) ∈ ts.zip N' := List.mem_of_getElem? (by rw [List.getElem?_zip_eq_some]; exact ⟨ht, h1⟩ : (ts.zip N')[i]? = some (some j, x))
      have q := List.all_eq_true.mp h _ hm
      simp only [Bool.and_eq_true] at q
      obtain ⟨⟨q1, q2⟩, q3⟩ := q
      have q1' := eq_of_beq q1
      have q2' := eq_of_beq q2
      have q3' := eq_of_beq q3
      have kd : X.env.kindOf x = some .cell := by
        unfold Env.kindOf
        rw [hsc]
        exact q2'
      refine ⟨j, by rw [hN]; exact q1', ?_, by rw [hsc]; exact .inr (.inl q2'), (by rw [kd]; decide), .inl (lookup_relabel_free (by rw [hsc]; exact hk) kd q3')⟩
      have h3 : (σ[j]?).join = some v := h2'
      cases hj : σ[j]? with
      | none => rw [hj] at h3; cases h3
      | some o => rw [hj] at h3; cases o with
        | none => cases h3
        | some u => cases h3; rfl
end L2

namespace L2
open PySem PySem.Spec PyProof.Rows

/-! ### lists of pairs as tables -/
section
variable {κ : Type} [DecidableEq κ]
def valV (kvs : List (κ × V)) (k : κ) : Option V := (kvs.find? fun kv => decide (kv.1 = k)).map (·.2)
/-- in its place, or at the end -/
def putK (kvs : List (κ × V)) (k : κ) (v : V) : List (κ × V) :=
  if (kvs.any fun kv => decide (kv.1 = k)) = true then kvs.map (fun kv => if kv.1 = k then (kv.1, v) else kv) else kvs ++ [(k, v)]
def dropK (kvs : List (κ × V)) (k : κ) : List (κ × V) := kvs.filter fun kv => decide (kv.1 ≠ k)

theorem valV_pos {p : κ × V} {r : List (κ × V)} {k : κ} (e : p.1 = k) : valV (p :: r) k = some p.2 := by simp [valV, List.find?_cons, e]
theorem valV_neg {p : κ × V} {r : List (κ × V)} {k : κ} (e : ¬ p.1 = k) : valV (p :: r) k = valV r k := by simp [valV, List.find?_cons, e]
theorem valV_any (k : κ) : ∀ kvs : List (κ × V), (kvs.any fun kv => decide (kv.1 = k)) = (valV kvs k).isSome
  | [] => rfl
  | p :: r => by
    rw [List.any_cons]
    by_cases e : p.1 = k
    · simp only [valV_pos e, decide_eq_true e, Bool.true_or, Option.isSome_some]
    · rw [valV_neg e, decide_eq_false e, Bool.false_or]; exact valV_any k r
theorem valV_map (k j : κ) (y : V) : ∀ kvs : List (κ × V), valV (kvs.map fun kv => if kv.1 = k then (kv.1, y) else kv) j = (valV kvs j).map fun x => if j = k then y else x
  | [] => rfl
  | p :: r => by
    have ih := valV_map k j y r
    rw [List.map_cons]
    by_cases h : p.1 = k
    · rw [if_pos h]
      by_cases e : p.1 = j
      · rw [valV_pos (p := (p.1, y)) e, valV_pos e, Option.map_some, if_pos (e.symm.trans h)]
      · rw [valV_neg (p := (p.1, y)) e, valV_neg e, ih]
    · rw [if_neg h]
      by_cases e : p.1 = j
      · rw [valV_pos (p := p) e, valV_pos e, Option.map_some, if_neg (fun z => h (e.trans z))]
      · rw [valV_neg (p := p) e, valV_neg e, ih]
theorem valV_snoc (k j : κ) (y : V) : ∀ kvs : List (κ × V), valV kvs k = none → valV (kvs ++ [(k, y)]) j = if j = k then some y else valV kvs j
  | [], _ => by
    by_cases e : k = j
    · rw [if_pos e.symm]; exact valV_pos (p := (k, y)) e
    · rw [if_neg (fun z => e z.symm)]; exact valV_neg (p := (k, y)) e
  | p :: r, hn => by
    rw [List.cons_append]
    have hk : ¬ p.1 = k := fun z => by rw [valV_pos z] at hn; cases hn
    rw [valV_neg hk] at hn
    have ih := valV_snoc k j y r hn
    by_cases e : p.1 = j
    · rw [valV_pos e, valV_pos e, if_neg (fun z => hk (e.trans z))]
    · rw [valV_neg e, valV_neg e, ih]
theorem valV_put (kvs : List (κ × V)) (k j : κ) (y : V) : valV (putK kvs k y) j = if j = k then some y else valV kvs j := by
  unfold putK
  by_cases a : (kvs.any fun kv => decide (kv.1 = k)) = true
  · rw [if_pos a, valV_map]
    rw [valV_any] at a
    by_cases e : j = k
    · obtain ⟨x, hx⟩ := Option.isSome_iff_exists.mp a
      rw [if_pos e, e, hx, Option.map_some, if_pos rfl]
    · rw [if_neg e]
      cases valV kvs j with
      | none => rfl
      | some x => rw [Option.map_some, if_neg e]
  · rw [if_neg a]
    refine valV_snoc k j y kvs ?_
    rw [valV_any] at a
    cases q : valV kvs k with
    | none => rfl
    | some x => rw [q] at a; exact (a rfl).elim
theorem length_putK (kvs : List (κ × V)) (k : κ) (v : V) : (putK kvs k v).length ≤ kvs.length + 1 := by
  unfold putK
  split
  · rw [List.length_map]; omega
  · rw [List.length_append, List.length_cons, List.length_nil]; omega
theorem putK_new {kvs : List (κ × V)} {k : κ} (v : V) (h : valV kvs k = none) : putK kvs k v = kvs ++ [(k, v)] := by
  unfold putK
  rw [valV_any, h]
  exact if_neg (by decide)

theorem RelO.isSome_eq {o : Option V} {u : Option Value} (r : RelO o u) : o.isSome = u.isSome := by
  cases o with
  | none => cases u with
    | none => rfl
    | some _ => exact (show False from r).elim
  | some _ => cases u with
    | none => exact (show False from r).elim
    | some _ => rfl
theorem RelO.getD {o : Option V} {u : Option Value} {d : V} {d' : Value} (r : RelO o u) (rd : RelV d d') : RelV (o.getD d) (u.getD d') := by
  cases o with
  | none => cases u with
    | none => exact rd
    | some _ => exact (show False from r).elim
  | some _ => cases u with
    | none => exact (show False from r).elim
    | some _ => exact r

/-- raw tables of the same keys -/
theorem KV.val {kvs : List (κ × V)} {vs : List (κ × Value)} (r : KV kvs vs) (k : κ) : RelO (valV kvs k) (valueAt vs k) := by
  unfold KV at r
  induction r with
  | nil => exact True.intro
  | @cons p q ps qs h t ih =>
    obtain ⟨h1, h2⟩ := h
    by_cases e : p.1 = k
    · have e' : q.1 = k := h1.symm.trans e
      have b : valueAt (q :: qs) k = some q.2 := by simp [valueAt, List.find?_cons, e']
      rw [valV_pos e, b]; exact h2
    · have e' : ¬ q.1 = k := fun z => e (h1.trans z)
      have b : valueAt (q :: qs) k = valueAt qs k := by simp [valueAt, List.find?_cons, e']
      rw [valV_neg e, b]; exact ih
theorem KV.any {kvs : List (κ × V)} {vs : List (κ × Value)} (r : KV kvs vs) (k : κ) : (kvs.any fun kv => decide (kv.1 = k)) = vs.any fun kv => decide (kv.1 = k) := by
  unfold KV at r
  induction r with
  | nil => rfl
  | cons h t ih => rw [List.any_cons, List.any_cons, ih, h.1]
theorem KV.repl {kvs : List (κ × V)} {vs : List (κ × Value)} (r : KV kvs vs) (k : κ) {y : V} {u : Value} (ry : RelV y u) :
    KV (kvs.map fun kv => if kv.1 = k then (kv.1, y) else kv) (vs.map fun kv => if kv.1 = k then (kv.1, u) else kv) := by
  unfold KV at r ⊢
  induction r with
  | nil => exact .nil
  | @cons p q ps qs h t ih =>
    rw [List.map_cons, List.map_cons]
    refine .cons ?_ ih
    obtain ⟨h1, h2⟩ := h
    by_cases e : p.1 = k
    · rw [if_pos e, if_pos (h1.symm.trans e)]; exact ⟨h1, ry⟩
    · rw [if_neg e, if_neg (fun z => e (h1.trans z))]; exact ⟨h1, h2⟩
theorem KV.put {kvs : List (κ × V)} {vs : List (κ × Value)} (r : KV kvs vs) (k : κ) {y : V} {u : Value} (ry : RelV y u) : KV (putK kvs k y) (stored vs k u) := by
  unfold putK stored
  rw [r.any k]
  by_cases e : (vs.any fun kv => decide (kv.1 = k)) = true
  · rw [if_pos e, if_pos e]; exact r.repl k ry
  · rw [if_neg e, if_neg e]; exact Paired.snoc r ⟨rfl, ry⟩
theorem KV.keys {kvs : List (κ × V)} {vs : List (κ × Value)} (r : KV kvs vs) : kvs.map (·.1) = vs.map (·.1) := by
  unfold KV at r
  induction r with
  | nil => rfl
  | cons h t ih => rw [List.map_cons, List.map_cons, ih, h.1]
theorem KV.length {kvs : List (κ × V)} {vs : List (κ × Value)} (r : KV kvs vs) : kvs.length = vs.length := Paired.length r
end


/-! ### a tracked dict, its keys ints and texts or tuples of these -/
theorem kV_is {P : Program} {w : World} {k : Key} {u : Value} (r : RelV (kV k) u) : (mixKind P w).is k u = true := by
  cases k with
  | inl i => obtain ⟨t, e⟩ := (show ∃ t, u = Value.int i t from r); subst e; exact mixKind_int P w i t
  | inr x => obtain ⟨t, e⟩ := (show ∃ t, u = Value.str x t from r); subst e; exact mixKind_str P w x t
theorem items_are {P : Program} {w : World} : ∀ {ks : List Key} {us : List Value}, Vals (ks.map kV) us → ItemsAre (mixKind P w) ks us
  | [], _, r => by rw [List.map_nil] at r; cases r; exact .nil
  | k :: ks, _, r => by
    rw [List.map_cons] at r
    cases r with
    | cons h t => exact .cons (kV_is h) (items_are t)

/-- raw entries of a dict with tuple keys -/
abbrev KT (H : Hp) : List (List Key × V) → List (List Key × Addr × Value) → Prop := Paired fun p q => p.1 = q.1 ∧ H q.2.1 = some (.tup (p.1.map kV)) ∧ RelV p.2 q.2.2
theorem KT.val {H : Hp} {kvs : List (List Key × V)} {xs : List (List Key × Addr × Value)} (r : KT H kvs xs) (k : List Key) : RelO (valV kvs k) ((atKey xs k).map (·.2)) := by
  induction r with
  | nil => exact True.intro
  | @cons p q ps qs h t ih =>
    obtain ⟨h1, _, h2⟩ := h
    by_cases e : p.1 = k
    · have e' : q.1 = k := h1.symm.trans e
      have b : atKey (q :: qs) k = some q.2 := by simp [atKey, List.find?_cons, e']
      rw [valV_pos e, b]; exact h2
    · have e' : ¬ q.1 = k := fun z => e (h1.trans z)
      have b : atKey (q :: qs) k = atKey qs k := by simp [atKey, List.find?_cons, e']
      rw [valV_neg e, b]; exact ih
theorem KT.repl {H : Hp} {kvs : List (List Key × V)} {xs : List (List Key × Addr × Value)} (r : KT H kvs xs) (k : List Key) {y : V} {u : Value} (ry : RelV y u) :
    KT H (kvs.map fun kv => if kv.1 = k then (kv.1, y) else kv) (xs.map (putAt k u)) := by
  induction r with
  | nil => exact .nil
  | @cons p q ps qs h t ih =>
    rw [List.map_cons, List.map_cons]
    refine .cons ?_ ih
    obtain ⟨h1, h2, h3⟩ := h
    unfold putAt
    by_cases e : p.1 = k
    · rw [if_pos e, if_pos (h1.symm.trans e)]; exact ⟨h1, h2, ry⟩
    · rw [if_neg e, if_neg (fun z => e (h1.trans z))]; exact ⟨h1, h2, h3⟩
theorem KT.put {H : Hp} {kvs : List (List Key × V)} {xs : List (List Key × Addr × Value)} (r : KT H kvs xs) (k : List Key) {b : Addr} {y : V} {u : Value} (hb : H b = some (.tup (k.map kV))) (ry : RelV y u) :
    KT H (putK kvs k y) (storedH xs k b u) := by
  have e : (kvs.any fun kv => decide (kv.1 = k)) = (atKey xs k).isSome := by
    rw [valV_any, (r.val k).isSome_eq, Option.isSome_map]
  unfold putK storedH
  rw [e]
  by_cases q : (atKey xs k).isSome = true
  · rw [if_pos q, if_pos q]; exact r.repl k ry
  · rw [if_neg q, if_neg q]; exact Paired.snoc r ⟨rfl, hb, ry⟩
theorem KT.keeps {H H' : Hp} {kvs : List (List Key × V)} {xs : List (List Key × Addr × Value)} (r : KT H kvs xs) (ht : ∀ b ys, H b = some (.tup ys) → H' b = some (.tup ys)) : KT H' kvs xs :=
  Paired.mapP r fun _ _ z => ⟨z.1, ht _ _ z.2.1, z.2.2⟩

section
variable {P : Program} {w : World} {H : Hp} {h : Heap} {a : Addr}
theorem rd_of {u : HO} (ok : HOk P w H h) (e : Rd H a u) : ObjOk P w H h a u := e.ok ok
theorem dk_rd {kvs : List (Key × V)} (ok : HOk P w H h) (e : Rd H a (.dK kvs)) : kvs.length ≤ sizeLine ∧ (a == sysModules) = false ∧ ∃ vs, KV kvs vs ∧ h.DictOf (mixKind P w) a vs :=
  show ObjOk P w H h a (.dK kvs) from rd_of ok e
theorem dk_of {kvs : List (Key × V)} (ok : HOk P w H h) (e : H a = some (.dK kvs)) : kvs.length ≤ sizeLine ∧ (a == sysModules) = false ∧ ∃ vs, KV kvs vs ∧ h.DictOf (mixKind P w) a vs := dk_rd ok (.inl e)
/-- a tracked tuple of ints and texts is a key -/
theorem key_of {ks : List Key} (ok : HOk P w H h) (e : H a = some (.tup (ks.map kV))) : (tupleKind (mixKind P w)).is h ks a := by
  obtain ⟨_, its, r, o, h1, h2, n, h3⟩ := (show ObjOk P w H h a (.tup (ks.map kV)) from ok a _ e)
  exact ⟨o, its.toArray, n, h1, h2, h3, by simpa using items_are r⟩
theorem dt_rd {kvs : List (List Key × V)} (ok : HOk P w H h) (e : Rd H a (.dT kvs)) : kvs.length ≤ sizeLine ∧ (a == sysModules) = false ∧
    ∃ xs, KT H kvs xs ∧ h.DictOfH (tupleKind (mixKind P w)) a xs := by
  obtain ⟨z, y, xs, r, o, es, ep, h1, h2, h3, h4, h5⟩ := (show ObjOk P w H h a (.dT kvs) from rd_of ok e)
  refine ⟨z, y, xs, r, o, es, ep, h1, h2, h3, h4, fun x hx => ?_, h5⟩
  have all : ∀ {l : List (List Key × V)} {m : List (List Key × Addr × Value)}, KT H l m → ∀ x ∈ m, (tupleKind (mixKind P w)).is h x.1 x.2.1 := by
    intro l m q
    induction q with
    | nil => intro x hx; exact nomatch hx
    | @cons p q ps qs hq t ih =>
      intro x hx
      rcases List.mem_cons.mp hx with e | hx
      · subst e
        exact key_of ok (by rw [← hq.1]; exact hq.2.1)
      · exact ih x hx
  exact all r x hx
theorem dt_of {kvs : List (List Key × V)} (ok : HOk P w H h) (e : H a = some (.dT kvs)) : kvs.length ≤ sizeLine ∧ (a == sysModules) = false ∧
    ∃ xs, KT H kvs xs ∧ h.DictOfH (tupleKind (mixKind P w)) a xs := dt_rd ok (.inl e)
end

/-- what the dict at a holds at the key y -/
def DGet (H : Hp) (a : Addr) (y : V) (r : Option V) : Prop :=
  (∃ kvs k, Rd H a (.dK kvs) ∧ y = kV k ∧ r = valV kvs k) ∨ ∃ kvs k b, Rd H a (.dT kvs) ∧ y = .ref b ∧ H b = some (.tup (k.map kV)) ∧ r = valV kvs k
/-- the heap behind a[y] = v -/
def DPut (H : Hp) (a : Addr) (y v : V) (H' : Hp) : Prop :=
  (∃ kvs k, H a = some (.dK kvs) ∧ y = kV k ∧ kvs.length < sizeLine ∧ H' = upd H a (.dK (putK kvs k v))) ∨
  ∃ kvs k b, H a = some (.dT kvs) ∧ y = .ref b ∧ H b = some (.tup (k.map kV)) ∧ kvs.length < sizeLine ∧ H' = upd H a (.dT (putK kvs k v))
theorem DGet.k {H : Hp} {a : Addr} {kvs : List (Key × V)} {k : Key} (e : H a = some (.dK kvs)) : DGet H a (kV k) (valV kvs k) := .inl ⟨kvs, k, .inl e, rfl, rfl⟩
theorem DPut.k {H : Hp} {a : Addr} {kvs : List (Key × V)} {k : Key} {v : V} (e : H a = some (.dK kvs)) (hl : kvs.length < sizeLine) : DPut H a (kV k) v (upd H a (.dK (putK kvs k v))) := .inl ⟨kvs, k, e, rfl, hl, rfl⟩
section
variable {X : Cx} {pins : List (Addr × Obj)} {σ : St} {H : Hp} {s : Shared} {a : Addr} {y v : V} {u r : Value} {o : Option V} {A : Around} {E : Value → Shared → Prop}

theorem Inv.big (I : Inv X pins σ H s) : sysModules < s.heap.objs.size := by
  have h : mainGlobals < s.heap.objs.size := (I.mod.glob.keeps I.bk).lt
  exact Nat.lt_trans (by decide) h

/-- d[y], there -/
theorem d_getItem {Q : Value → Shared → Prop} (hu : A.units + 1 < cLine) (I : Inv X pins σ H s) (g : DGet H a y (some v)) (ry : RelV y u) (h : ∀ w' s', Inv X pins σ H s' → RelV v w' → Q w' s') :
    wpAny (model X.prog X.w) A (getItem (.ref a) u) Q E s := by
  rcases g with ⟨kvs, k, e, ey, l⟩ | ⟨kvs, k, b, e, ey, eb, l⟩
  · subst ey
    obtain ⟨z, hd, vs, rel, dd⟩ := dk_rd I.hok e
    obtain ⟨w', hw, rw'⟩ := RelO.some_of (v := v) (o := valueAt vs k) (by rw [l]; exact rel.val k)
    exact wpAny_getItem_of (kV_is ry) dd.mapOf hw (h w' _ (I.tok _) rw')
  · subst ey
    cases (show u = Value.ref b from ry)
    obtain ⟨z, hd, xs, rel, dd⟩ := dt_rd I.hok e
    obtain ⟨w', hw, rw'⟩ := RelO.some_of (v := v) (o := (atKey xs k).map (·.2)) (by rw [l]; exact rel.val k)
    obtain ⟨p, hp, hp2⟩ := Option.map_eq_some_iff.mp hw
    refine wpAny_getItem_heap (tupleKind_room_in1 hu) (key_of I.hok eb) dd hp ?_
    rw [hp2]
    exact h w' _ (I.tok _) rw'
theorem d_notIn {Q : Value → Shared → Prop} (hu : A.units + 1 < cLine) (I : Inv X pins σ H s) (g : DGet H a y o) (ry : RelV y u) (h : ∀ s', Inv X pins σ H s' → Q (.bool (!o.isSome)) s') :
    wpAny (model X.prog X.w) A (compareOp .NotIn u (.ref a)) Q E s := by
  rcases g with ⟨kvs, k, e, ey, l⟩ | ⟨kvs, k, b, e, ey, eb, l⟩
  · subst ey
    obtain ⟨z, hd, vs, rel, dd⟩ := dk_rd I.hok e
    refine wpAny_notIn_of (kV_is ry) hd dd.mapOf ?_
    rw [← (rel.val k).isSome_eq, ← l]
    exact h _ (I.tok _)
  · subst ey
    cases (show u = Value.ref b from ry)
    obtain ⟨z, hd, xs, rel, dd⟩ := dt_rd I.hok e
    refine wpAny_notIn_heap (tupleKind_room_in1 hu) (key_of I.hok eb) hd dd ?_
    have q := (rel.val k).isSome_eq
    rw [Option.isSome_map] at q
    rw [← q, ← l]
    exact h _ (I.tok _)
/-- a dict's object is replaced -/
theorem d_write {h' : Heap} {t' : Nat} {ob : HO} (I : Inv X pins σ H s) (mu : Mut (H a)) (hs : Heap.SameBut a s.heap h') (he : ∃ q, h'.get? a = some q) (new : ObjOk X.prog X.w (upd H a ob) h' a ob) :
    Inv X pins σ (upd H a ob) { s with heap := h', toks := t' } :=
  I.write (x := a) (e := a) mu (.inl rfl) (fun b q hb z => (hs.2 b hb).trans z) he new
theorem dk_new {P : Program} {w : World} {H' : Hp} {h' : Heap} {kvs : List (Key × V)} {vs : List (Key × Value)} (z : kvs.length ≤ sizeLine) (hd : (a == sysModules) = false) (rel : KV kvs vs) (dd : h'.DictOf (mixKind P w) a vs) :
    ObjOk P w H' h' a (.dK kvs) := ⟨z, hd, vs, rel, dd⟩
/-- d[y] = v -/
theorem d_setItem {H' : Hp} {Q : Unit → Shared → Prop} (hu : A.units + 1 < cLine) (I : Inv X pins σ H s) (g : DPut H a y v H') (ry : RelV y u) (rv : RelV v r) (h : ∀ s', Inv X pins σ H' s' → Q () s') :
    wpAny (model X.prog X.w) A (setItem (.ref a) u r) Q E s := by
  rcases g with ⟨kvs, k, e, ey, l, eH⟩ | ⟨kvs, k, b, e, ey, eb, l, eH⟩
  · subst ey eH
    obtain ⟨z, hd, vs, rel, dd⟩ := dk_of I.hok e
    have hz : vs.length ≤ sizeLine := by rw [← rel.length]; exact z
    have hl : (putK kvs k v).length ≤ sizeLine := by have := length_putK kvs k v; omega
    refine wpAny_setItem_pairs (hsz := hz) (kV_is ry) dd fun h' dd' hs => h _ ?_
    have he : ∃ q, h'.get? a = some q := let ⟨q, _, _, hq, _⟩ := dd'; ⟨q, hq⟩
    exact d_write I (by rw [e]; exact True.intro) hs he (dk_new hl hd (rel.put k rv) dd')
  · subst ey eH
    cases (show u = Value.ref b from ry)
    obtain ⟨z, hd, xs, rel, dd⟩ := dt_of I.hok e
    have hz : xs.length ≤ sizeLine := by rw [← Paired.length rel]; exact z
    have hl : (putK kvs k v).length ≤ sizeLine := by have := length_putK kvs k v; omega
    refine wpAny_setItem_heap (hsz := hz) (tupleKind_room_in1 hu) (key_of I.hok eb) dd fun h' dd' hs => h _ ?_
    obtain ⟨q, es, ep, hq, h2, h3, h4, _, h5⟩ := dd'
    refine d_write I (by rw [e]; exact True.intro) hs ⟨q, hq⟩ ⟨hl, hd, _, (rel.put k eb rv).keeps fun c ys ec => ?_, q, es, ep, hq, h2, h3, h4, h5⟩
    rw [upd_ne (ne_of ec e (fun z => nomatch z))]
    exact ec
end

section
variable {X : Cx} {pins : List (Addr × Obj)} {σ : St} {H : Hp} {s : Shared} {a : Addr} {kvs : List (Key × V)} {k : Key} {u : Value} {A : Around} {E : Value → Shared → Prop}
end


/-! ### readings and rules -/
/-- the element of a subscription, not a slice -/
def NoSl (i : Expr) : Prop := ∀ ov iv, subscripted i false ov iv = operate [ov, iv] (getItem ov iv)
theorem subD_of {prog : Program} {w : World} {A : Around} {E : Value → Shared → Prop} {s : Shared} {env : Env} {value slice : Expr} {pos : Pos} {T id : String} {Q : Value → Shared → Prop}
    (hl : typeLookup (.type T) "__getitem__" = pure (some (.builtin id))) (hs : NoSl slice)
    (h : wpAny (model prog w) A (eval value env) (fun o s₁ => wpAny (model prog w) A (eval slice env) (fun i s₂ => s₂.TypeIs o T ∧ wpAny (model prog w) A (getItem o i) Q E s₂) E s₁) E s) :
    wpAny (model prog w) A (eval (.Subscript value slice pos) env) Q E s := by
  refine Subscript_ (wpAny_mono h (fun o s₁ h₁ => wpAny_mono h₁ (fun i s₂ h₂ => ?_) fun _ _ x => x) fun _ _ x => x)
  obtain ⟨hT, h₂⟩ := h₂
  unfold subscriptTail
  refine wpAny_bind ?_
  rw [getitemInPython_of_ne hT.not_modules]
  refine wpAny_bind (wpAny_specialOf hT hl ?_)
  have fin : wpAny (model prog w) A (subscripted slice false o i) (fun r s₃ => wpAny (model prog w) A (letTemporaryGo value o r >>= fun _ => pure r) Q E s₃) E s₂ := by
    rw [hs o i]
    exact wpAny_operating (wpAny_mono h₂ (fun r s₃ h₃ => wpAny_bind (wpAny_letTemporaryGo (wpAny_pure h₃))) fun _ _ x => x)
  first
    | exact wpAny_pure (wpAny_bind fin)
    | exact wpAny_bind (wpAny_pure (wpAny_bind fin))
    | exact wpAny_bind fin

theorem dict_typeIs {X : Cx} {pins : List (Addr × Obj)} {σ : St} {H : Hp} {s : Shared} {a : Addr} {y : V} {o : Option V} (I : Inv X pins σ H s) (g : DGet H a y o) : s.TypeIs (.ref a) "dict" := by
  rcases g with ⟨kvs, k, e, _, _⟩ | ⟨kvs, k, b, e, _, _, _⟩
  · obtain ⟨_, _, vs, _, dd⟩ := dk_rd I.hok e
    exact dd.typeIs
  · obtain ⟨_, _, xs, _, dd⟩ := dt_rd I.hok e
    exact dd.typeIs
/-- d[y] -/
def tDGet (td ty : TE) : TE := fun σ H Q => td σ H fun x H1 => ty σ H1 fun y H2 => ∃ a v, x = .ref a ∧ DGet H2 a y (some v) ∧ Q v H2
/-- y in d, y not in d -/
def tDIn (ty td : TE) : TE := fun σ H Q => ty σ H fun y H1 => td σ H1 fun x H2 => ∃ a o, x = .ref a ∧ DGet H2 a y o ∧ Q (.bl o.isSome) H2
def tDNotIn (ty td : TE) : TE := fun σ H Q => ty σ H fun y H1 => td σ H1 fun x H2 => ∃ a o, x = .ref a ∧ DGet H2 a y o ∧ Q (.bl (!o.isSome)) H2
/-- d[y] = v -/
def sDPut (td ty tv : TE) : TS := fun D σ H => tv σ H fun v H1 => td σ H1 fun x H2 => ty σ H2 fun y H3 => ∃ a H4, x = .ref a ∧ DPut H3 a y v H4 ∧ D.nx σ H4
/-- d[y] op= v -/
def sDAug (td ty tv : TE) (rd : V → V → Hp → VK → Prop) : TS := fun D σ H => td σ H fun x H1 => ty σ H1 fun y H2 => ∃ a v, x = .ref a ∧ DGet H2 a y (some v) ∧
  tv σ H2 fun y2 H3 => rd v y2 H3 fun z H4 => ∃ H5, DPut H4 a y z H5 ∧ D.nx σ H5
/-- del d[y] -/
def sDDel (td ty : TE) : TS := fun D σ H => td σ H fun x H1 => ty σ H1 fun y H2 => ∃ a kvs k, x = .ref a ∧ H2 a = some (.dK kvs) ∧ y = kV k ∧ (valV kvs k).isSome = true ∧ D.nx σ (upd H2 a (.dK (dropK kvs k)))

section
variable {X : Cx} {o i e value : Expr} {pos pos' tpos : Pos} {td ty tv : TE}
theorem pe_dget (hu : X.A.units + 1 < cLine) (ho : PE X o td) (hi : PE X i ty) (hs : NoSl i) : PE X (.Subscript o i pos) (tDGet td ty) := by
  intro pins s σ H Q I h
  refine subD_of PySem.F.slot_dict_getitem.lookup hs (thn (ho pins s σ H _ I h) fun u s1 ⟨x, H1, I1, rx, q1⟩ => thn (hi pins s1 σ H1 _ I1 q1) fun iv s2 ⟨y, H2, I2, ry, a, v, ex, g, q2⟩ => ?_)
  subst ex
  obtain rfl : u = Value.ref a := rx
  exact ⟨dict_typeIs I2 g, d_getItem hu I2 g ry fun w' s3 I3 rw' => ⟨v, H2, I3, rw', q2⟩⟩
theorem pc_dnotin (hu : X.A.units + 1 < cLine) (hi : PE X i ty) (ho : PE X o td) : PC X .NotIn i o (tDNotIn ty td) := by
  intro pins s σ H Q I h
  refine thn (hi pins s σ H _ I h) fun iv s1 ⟨y, H1, I1, ry, q1⟩ => thn (ho pins s1 σ H1 _ I1 q1) fun u s2 ⟨x, H2, I2, rx, a, ov, ex, g, q2⟩ => ?_
  subst ex
  obtain rfl : u = Value.ref a := rx
  exact d_notIn hu I2 g ry fun s3 I3 => ⟨.bl (!ov.isSome), H2, I3, rfl, q2⟩
theorem ps_dput (hu : X.A.units + 1 < cLine) (ho : PE X o td) (hi : PE X i ty) (hv : PE X value tv) (hs : swapsWith value (some (.Subscript o i pos')) pos.line X.env = pure false) :
    PS X (.Assign [.Subscript o i pos'] value pos) (sDPut td ty tv) := by
  intro pins s σ H D I h
  refine wpAny_Assign_Subscript (thn (hv pins s σ H _ I h) fun r s1 ⟨v, H1, I1, rv, q1⟩ => thn (ho pins s1 σ H1 _ I1 q1) fun u s2 ⟨x, H2, I2, rx, q2⟩ => thn (hi pins s2 σ H2 _ I2 q2) fun iv s3 ⟨y, H3, I3, ry, a, H4, ex, g, q3⟩ => ?_) hs
  subst ex
  obtain rfl : u = Value.ref a := rx
  exact d_setItem hu I3 g ry rv fun s4 I4 => ⟨σ, H4, I4, q3⟩
end


/-! ### displays -/
theorem dk_empty {P : Program} {w : World} {H : Hp} (h : Heap) (hb : sysModules < h.objs.size) : ObjOk P w H (h.push { cls := .type "dict", data := .dict #[] }) h.objs.size (.dK []) :=
  ⟨Nat.zero_le _, beq_eq_false_iff_ne.mpr (Ne.symm (Nat.ne_of_lt hb)), [], .nil, Heap.DictOf.new h⟩
/-- {}, to be a dict of the kind that is wanted -/
def tDNewK : TE := fun _ H Q => ∀ p, H p = none → Q (.ref p) (upd H p (.dK []))
def tDNewT : TE := fun _ H Q => ∀ p, H p = none → Q (.ref p) (upd H p (.dT []))
section
variable {X : Cx} {pos : Pos}
theorem pe_dnewK : PE X (.Dict [] [] pos) tDNewK := fun pins s σ H Q I h =>
  wpAny_Dict_empty ⟨.ref s.heap.objs.size, _, I.laid (a := s.heap.objs.size) (o := .dK []) (t' := s.toks) (fun _ _ q => Heap.get?_push_of_some _ q) (Nat.le_refl _) (dk_empty s.heap I.big), rfl, h _ (I.hok.fresh (Nat.le_refl _))⟩
end

/-- the pairs of a display, from the left -/
def tPairs : List (TE × TE) → St → Hp → (List (V × V) → Hp → Prop) → Prop
  | [], _, H, Q => Q [] H
  | (tk, tv) :: r, σ, H, Q => tk σ H fun x H1 => tv σ H1 fun y H2 => tPairs r σ H2 fun ps H3 => Q ((x, y) :: ps) H3
abbrev VV : List (V × V) → List (Value × Value) → Prop := Paired fun p q => RelV p.1 q.1 ∧ RelV p.2 q.2
def PPs (X : Cx) (pos : Pos) (keys : List (Option Expr)) (values : List Expr) (trs : List (TE × TE)) : Prop :=
  ∀ (pins : List (Addr × Obj)) (s : Shared) (σ : St) (H : Hp) (Q : List (V × V) → Hp → Prop), Inv X pins σ H s → tPairs trs σ H Q →
    wpAny (model X.prog X.w) X.A (evalPairs (pairTrees keys values X.env pos)) (fun vs s' => ∃ ps H', Inv X pins σ H' s' ∧ VV ps vs ∧ Q ps H') X.xe s
theorem pps_nil {X : Cx} {pos : Pos} : PPs X pos [] [] [] := fun pins s σ H Q I h => pairTrees_nil_walk ⟨[], H, I, .nil, h⟩
theorem pps_cons {X : Cx} {pos : Pos} {k v : Expr} {ks : List (Option Expr)} {vs : List Expr} {tk tv : TE} {trs : List (TE × TE)} (hk : PE X k tk) (hv : PE X v tv) (hr : PPs X pos ks vs trs) :
    PPs X pos (some k :: ks) (v :: vs) ((tk, tv) :: trs) := fun pins s σ H Q I h =>
  pairTrees_cons_walk (thn (hk pins s σ H _ I h) fun u s1 ⟨x, H1, I1, rx, q1⟩ => thn (hv pins s1 σ H1 _ I1 q1) fun w2 s2 ⟨y, H2, I2, ry, q2⟩ =>
    thn (hr pins s2 σ H2 _ I2 q2) fun ws s3 ⟨ps, H3, I3, rel, q3⟩ => ⟨(x, y) :: ps, H3, I3, .cons ⟨rx, ry⟩ rel, q3⟩)

def mergeK (kvs more : List (Key × V)) : List (Key × V) := more.foldl (fun acc kv => putK acc kv.1 kv.2) kvs
theorem KV.merge : ∀ {more : List (Key × V)} {rs : List (Key × Value)} {kvs : List (Key × V)} {vs : List (Key × Value)}, KV more rs → KV kvs vs → KV (mergeK kvs more) (merged vs rs) := by
  intro more rs kvs vs r
  unfold KV at r
  induction r generalizing kvs vs with
  | nil => intro q; exact q
  | @cons p q ps qs h t ih =>
    intro r0
    have e : KV (putK kvs p.1 p.2) (stored vs q.1 q.2) := by
      have := r0.put p.1 h.2
      rw [← h.1]; exact this
    exact ih e
theorem length_mergeK : ∀ (more kvs : List (Key × V)), (mergeK kvs more).length ≤ kvs.length + more.length
  | [], kvs => by show kvs.length ≤ kvs.length + 0; omega
  | p :: r, kvs => by
    have h1 := length_mergeK r (putK kvs p.1 p.2)
    have h2 := length_putK kvs p.1 p.2
    show (mergeK (putK kvs p.1 p.2) r).length ≤ _
    rw [List.length_cons]; omega
theorem carries_of {P : Program} {w : World} : ∀ {kvs : List (Key × V)} {ws : List (Value × Value)}, VV (kvs.map fun kv => (kV kv.1, kv.2)) ws → ∃ rs, Carries (mixKind P w) ws rs ∧ KV kvs rs
  | [], _, r => by rw [List.map_nil] at r; cases r; exact ⟨[], True.intro, .nil⟩
  | p :: kvs, _, r => by
    rw [List.map_cons] at r
    cases r with
    | @cons a b as bs h t =>
      obtain ⟨rs, c, q⟩ := carries_of (P := P) (w := w) t
      obtain ⟨b1, b2⟩ := b
      exact ⟨(p.1, b2) :: rs, ⟨kV_is h.1, rfl, c⟩, .cons ⟨rfl, h.2⟩ q⟩
/-- {k: v, ..} with keys ints and texts; the new dict stands empty while the pairs are made -/
def tDisp (trs : List (TE × TE)) : TE := fun σ H Q => ∀ p, H p = none → tPairs trs σ (upd H p (.dK [])) fun ps H2 => H2 p = some (.dK []) ∧ ∃ kvs : List (Key × V), ps = kvs.map (fun kv => (kV kv.1, kv.2)) ∧ kvs.length ≤ 15 ∧ Q (.ref p) (upd H2 p (.dK (mergeK [] kvs)))
theorem pe_disp {X : Cx} {pos : Pos} {keys : List (Option Expr)} {values : List Expr} {trs : List (TE × TE)} (h : PPs X pos keys values trs) (hall : keys.all (·.isSome) = true) (hl : keys.length = values.length) (h0 : keys ≠ [])
    (h15 : keys.length ≤ 15) : PE X (.Dict keys values pos) (tDisp trs) := by
  intro pins s σ H Q I q
  have hn := I.hok.fresh (Nat.le_refl s.heap.objs.size)
  have I1 := I.laid (a := s.heap.objs.size) (o := .dK []) (h' := s.heap.push { cls := .type "dict", data := .dict #[] }) (t' := s.toks) (fun _ _ q => Heap.get?_push_of_some _ q) (Nat.le_refl _) (dk_empty s.heap I.big)
  refine wpAny_Dict_walk (knd := mixKind X.prog X.w) hall hl h0 h15 (thn (h pins _ σ _ _ I1 (q _ hn)) fun ws s2 ⟨ps, H2, I2, rel, e, kvs, ep, lk, q2⟩ => ?_)
  subst ep
  obtain ⟨rs, c, rk⟩ := carries_of (P := X.prog) (w := X.w) rel
  obtain ⟨z, hd, vs0, r0, dd⟩ := dk_of I2.hok e
  cases r0
  refine ⟨rs, c, dd, fun h' dd' hs => ⟨.ref s.heap.objs.size, _, ?_, rfl, q2⟩⟩
  have hz : (mergeK [] kvs).length ≤ sizeLine := by
    have h1 := length_mergeK kvs []
    rw [List.length_nil] at h1
    rw [sizeLine_eq]; omega
  have he : ∃ q, h'.get? s.heap.objs.size = some q := let ⟨q, _, _, hq, _⟩ := dd'; ⟨q, hq⟩
  exact d_write I2 (by rw [e]; exact True.intro) hs he (dk_new hz hd (rk.merge .nil) dd')


/-! ### methods -/
/-- a method call o.m(e) of a built-in, with one argument: what must be seen of the text -/
structure M1 (X : Cx) (o : Expr) (m : Str) (apos : Pos) (e : Expr) (cpos : Pos) : Prop where
  base : attributeBase o m X.env (eval o X.env) = eval o X.env
  few : ((backTo cpos (starEach [e] X.env)).all (fun x => !x.1) && (backToKw cpos (keywordEach [] X.env)).all (fun x => x.1.isSome)
    && decide (([e] : List Expr).length + ([] : List Keyword).length + (if ([] : List Keyword).isEmpty then 0 else 1) < 30)) = true
  line : (apos.endLine == cpos.line) = true
  trees : backTo cpos (starEach [e] X.env) = [(false, eval e X.env)]
structure M2 (X : Cx) (o : Expr) (m : Str) (apos : Pos) (e f : Expr) (cpos : Pos) : Prop where
  base : attributeBase o m X.env (eval o X.env) = eval o X.env
  few : ((backTo cpos (starEach [e, f] X.env)).all (fun x => !x.1) && (backToKw cpos (keywordEach [] X.env)).all (fun x => x.1.isSome)
    && decide (([e, f] : List Expr).length + ([] : List Keyword).length + (if ([] : List Keyword).isEmpty then 0 else 1) < 30)) = true
  line : (apos.endLine == cpos.line) = true
  trees : backTo cpos (starEach [e, f] X.env) = [(false, eval e X.env), (false, eval f X.env)]

/-- a is a dict, whatever its keys -/
def IsD (H : Hp) (a : Addr) : Prop := (∃ kvs, Rd H a (.dK kvs)) ∨ ∃ kvs, Rd H a (.dT kvs)
theorem isD_at {X : Cx} {pins : List (Addr × Obj)} {σ : St} {H : Hp} {s : Shared} {a : Addr} (I : Inv X pins σ H s) (d : IsD H a) :
    s.TypeIs (.ref a) "dict" ∧ (∀ b, Value.ref a = .ref b → ∃ ob, s.heap.get? b = some ob ∧ ob.dict = none) ∧ (a == sysModules) = false := by
  rcases d with ⟨kvs, e⟩ | ⟨kvs, e⟩
  · obtain ⟨_, hd, vs, _, dd⟩ := dk_rd I.hok e
    refine ⟨dd.typeIs, fun b q => ?_, hd⟩
    cases q
    obtain ⟨ob, _, _, h1, h2, _⟩ := dd
    exact ⟨ob, h1, h2.2.1⟩
  · obtain ⟨_, hd, xs, _, dd⟩ := dt_rd I.hok e
    refine ⟨dd.typeIs, fun b q => ?_, hd⟩
    cases q
    obtain ⟨ob, _, _, h1, h2, _⟩ := dd
    exact ⟨ob, h1, h2.2.1⟩

section
variable {X : Cx} {pins : List (Addr × Obj)} {σ : St} {H : Hp} {s : Shared} {a : Addr} {y d : V} {u r : Value} {o : Option V} {A : Around} {E : Value → Shared → Prop}
/-- d.get(y, x) -/
theorem d_get2 {Q : Value → Shared → Prop} (hu : A.units + 1 < cLine) (I : Inv X pins σ H s) (g : DGet H a y o) (ry : RelV y u) (rd : RelV d r) (h : ∀ w' s', Inv X pins σ H s' → RelV (o.getD d) w' → Q w' s') :
    wpAny (model X.prog X.w) A (call (.builtin "dict.get") [.ref a, u, r]) Q E s := by
  rcases g with ⟨kvs, k, e, ey, l⟩ | ⟨kvs, k, b, e, ey, eb, l⟩
  · subst ey
    obtain ⟨z, hd, vs, rel, dd⟩ := dk_rd I.hok e
    refine call_meetsIn PySem.F.slot_dict_get dd.typeIs PySem.F.entry_dict_get (PySem.F.args_dict_get_3 _ _ _) (meets_dict_get_default (mixKind X.prog X.w) a (kV_is ry) hd r) ⟨_, dd.mapOf, h _ _ (I.tok _) ?_⟩
    rw [l]
    exact (rel.val k).getD rd
  · subst ey
    cases (show u = Value.ref b from ry)
    obtain ⟨z, hd, xs, rel, dd⟩ := dt_rd I.hok e
    refine call_meetsIn PySem.F.slot_dict_get dd.typeIs PySem.F.entry_dict_get (PySem.F.args_dict_get_3 _ _ _) (meetsH_dict_get_default (tupleKind (mixKind X.prog X.w)) a b hd r) ⟨tupleKind_room_in1 hu, k, xs, key_of I.hok eb, dd, h _ _ (I.tok _) ?_⟩
    rw [l]
    exact (rel.val k).getD rd
end

def tDGet1 (td ty : TE) : TE := fun σ H Q => td σ H fun x H1 => ∃ a, x = .ref a ∧ IsD H1 a ∧ ty σ H1 fun y H2 => ∃ o, DGet H2 a y o ∧ Q (o.getD .non) H2
def tDGet2 (td ty tx : TE) : TE := fun σ H Q => td σ H fun x H1 => ∃ a, x = .ref a ∧ IsD H1 a ∧ ty σ H1 fun y H2 => tx σ H2 fun z H3 => ∃ o, DGet H3 a y o ∧ Q (o.getD z) H3
/-- d.pop(k): there; d.pop(k, x): there or not -/
def tDPop1 (td ty : TE) : TE := fun σ H Q => td σ H fun x H1 => ∃ a, x = .ref a ∧ IsD H1 a ∧ ty σ H1 fun y H2 => ∃ kvs k v, H2 a = some (.dK kvs) ∧ y = kV k ∧ valV kvs k = some v ∧ Q v (upd H2 a (.dK (dropK kvs k)))
def tDPop2 (td ty tx : TE) : TE := fun σ H Q => td σ H fun x H1 => ∃ a, x = .ref a ∧ IsD H1 a ∧ ty σ H1 fun y H2 => tx σ H2 fun z H3 => ∃ kvs k, H3 a = some (.dK kvs) ∧ y = kV k ∧
  (∀ v, valV kvs k = some v → Q v (upd H3 a (.dK (dropK kvs k)))) ∧ (valV kvs k = none → Q z H3)
section
variable {X : Cx} {o e f : Expr} {apos cpos : Pos} {td ty tx : TE}
theorem pe_dget2 (hu : X.A.units + 1 < cLine) (ho : PE X o td) (he : PE X e ty) (hf : PE X f tx) (m : M2 X o "get" apos e f cpos) : PE X (.Call (.Attribute o "get" apos) [e, f] [] cpos) (tDGet2 td ty tx) := by
  intro pins s σ H Q I h
  refine wpAny_Call_method m.base m.few m.line PySem.F.plainAttrs_dict PySem.F.slot_dict_get PySem.F.type_dict_get (thn (ho pins s σ H _ I h) fun u s1 ⟨x, H1, I1, rx, a, ex, d, q1⟩ => ?_)
  subst ex
  obtain rfl : u = Value.ref a := rx
  obtain ⟨t1, t2, _⟩ := isD_at I1 d
  refine ⟨t1, t2, ?_⟩
  rw [m.trees]
  refine Calls.callWith_builtin rfl (Calls.evalArgs_plain (Calls.spliced_cons (thn (he pins s1 σ H1 _ I1 q1) fun iv s2 ⟨y, H2, I2, ry, q2⟩ =>
    Calls.spliced_cons (thn (hf pins s2 σ H2 _ I2 q2) fun fv s3 ⟨z, H3, I3, rz, ov, g, q3⟩ => Calls.spliced_nil ?_))))
  exact d_get2 hu I3 g ry rz fun w' s4 I4 rw' => ⟨_, H3, I4, rw', q3⟩
end

/-! ### dict(d): a copy -/
section
variable {X : Cx} {pins : List (Addr × Obj)} {σ : St} {H : Hp} {s : Shared} {a : Addr} {kvs : List (Key × V)} {A : Around} {E : Value → Shared → Prop}
end


section
variable {X : Cx} {pins : List (Addr × Obj)} {σ : St} {H : Hp} {s : Shared} {a : Addr} {y : V} {u : Value} {A : Around} {E : Value → Shared → Prop}
end
end L2

namespace L2
open PySem PySem.Spec PyProof.Rows
/-! ### sorted -/
theorem vals_of_strs : ∀ {us : List Value} {ss : List Str}, StrsAre us ss → Vals (ss.map V.str) us
  | _, _, .nil => .nil
  | _, _, .cons _ _ h => .cons ⟨_, rfl⟩ (vals_of_strs h)
theorem lst_ok {P : Program} {w : World} {H : Hp} {h : Heap} {a : Addr} {xs : List V} {its : List Value} {e : Nat} (hv : Vals xs its) (hz : xs.length ≤ sizeLine) (ho : h.get? a = some (seqObj "list" its.toArray e)) : ObjOk P w H h a (.lst xs) := ⟨hz, its, e, hv, ho⟩
section
variable {X : Cx}
def rSortS (K : PySem.W.Frag) : List V → Hp → VK → Prop := fun xs H Q => ∃ a, ∃ ss : List Str, xs = [.ref a] ∧ SqL K H a (ss.map V.str) ∧ ss.length < 64 ∧ ∀ (p : Addr) (ss' : List Str), ss'.Perm ss → sortedS ss' = true → H p = none → Q (.ref p) (upd H p (.lst (ss'.map V.str)))
def rSortI (K : PySem.W.Frag) : List V → Hp → VK → Prop := fun xs H Q => ∃ a, ∃ ns : List Int, xs = [.ref a] ∧ SqL K H a (ns.map V.int) ∧ ns.length < 64 ∧ ∀ (p : Addr) (ns' : List Int), ns'.Perm ns → ns'.Pairwise (· ≤ ·) → H p = none → Q (.ref p) (upd H p (.lst (ns'.map V.int)))
/-- what a dict's keys are, collected -/
theorem keys_strs {P : Program} {w : World} : ∀ {ss : List Str} {vs : List (Key × Value)} {acc : List Value}, vs.map (·.1) = ss.map Sum.inr → acc.length = vs.length → (∀ (j : Nat) (v : Value), acc[j]? = some v → ∃ k x, vs[j]? = some (k, x) ∧ (mixKind P w).is k v = true) → StrsAre acc ss
  | [], [], [], _, _, _ => .nil
  | [], _ :: _, _, e, _, _ => by simp at e
  | _ :: _, [], _, e, _, _ => by simp at e
  | [], [], _ :: _, _, l, _ => by simp at l
  | _ :: _, _ :: _, [], _, l, _ => by simp at l
  | x :: ss, (k, y) :: vs, v :: acc, e, l, h => by
    simp only [List.map_cons, List.cons.injEq] at e
    obtain ⟨e1, e2⟩ := e
    obtain ⟨k', x', h1, h2⟩ := h 0 v rfl
    simp at h1
    obtain ⟨rfl, rfl⟩ := h1
    subst e1
    obtain ⟨t, rfl⟩ := Value.isStrOf_shape (x := x) (v := v) h2
    exact .cons _ _ (keys_strs e2 (by simpa using l) fun j v hv => h (j + 1) v (by simpa using hv))
/-- sorted of a dict: its keys are collected, then sorted in their place -/
theorem sorted_dict {Q : Value → Shared → Prop} {A : Around} {E : Value → Shared → Prop} {pins : List (Addr × Obj)} {σ : St} {H : Hp} {s : Shared} {a : Addr} {kvs : List (Key × V)} (hh : A.handled = none) (I : Inv X pins σ H s) (hH : H a = some (.dK kvs))
    (h : ∀ (h' : Heap) (tk : Nat) (acc : List Value) (vs : List (Key × Value)), KV kvs vs → acc.length = vs.length → (∀ (j : Nat) (v : Value), acc[j]? = some v → ∃ k x, vs[j]? = some (k, x) ∧ (mixKind X.prog X.w).is k v = true) → (∀ b o, s.heap.get? b = some o → h'.get? b = some o) →
      wpAny (model X.prog X.w) A.in1 (call (.builtin "list.sort") [.ref h'.objs.size]) (fun _ s' => Q (.ref h'.objs.size) s') E { s with heap := h'.push (seqObj "list" acc.toArray 0), toks := tk }) :
    wpAny (model X.prog X.w) A (call (.builtin "sorted") [.ref a]) Q E s := by
  obtain ⟨z, lo, vs, rel, dd⟩ := dk_of I.hok hH
  obtain ⟨ep, hat⟩ := dd.dictAt
  have hlen := rel.length
  refine Calls.call_function_entry kind_sorted plain_sorted entry_sorted (args_sorted1 _) ?_
  unfold Builtin.«sorted»
  refine wpAny_bind (m := checkCount "sorted" 1 1 _) (wpAny_pure ?_)
  refine wpAny_bind (PySem.W.kdu_collect (A := A.in1) (PySem.W.kdl_dict (knd := mixKind X.prog X.w) (kvs := vs) (ep := ep) lo) hh hat (by rw [← hlen]; exact z) fun h' tk acc hk hacc => ?_)
  have hl : acc.toList.length = vs.length := by rw [Array.length_toList]; exact hacc.1
  refine wpAny_bind (wpAny_newList ?_ (by rw [hl, ← hlen]; exact z))
  have hg := h h' tk acc.toList vs rel hl (fun j v e => hacc.2 j v (by rw [← Array.getElem?_toList]; exact e)) hk
  refine wpAny_bind (wpAny_holding (wpAny_mono hg (fun _ s' x => ?_) fun _ _ e => e))
  exact wpAny_pure ⟨_, rfl, x⟩
def rSortDS : List V → Hp → VK → Prop := fun xs H Q => ∃ a kvs, ∃ ss : List Str, xs = [.ref a] ∧ H a = some (.dK kvs) ∧ kvs.map (·.1) = ss.map Sum.inr ∧ kvs.length < 64 ∧ ∀ (p : Addr) (ss' : List Str), ss'.Perm ss → sortedS ss' = true → H p = none → Q (.ref p) (upd H p (.lst (ss'.map V.str)))
theorem call_sortDS (hc : X.calm = true) : CallR X (.builtin "sorted") rSortDS := by
  intro pins s σ H xs us Q I r h
  obtain ⟨a, kvs, ss, rfl, hH, hk, h64, q⟩ := h
  obtain ⟨u, rfl, rx⟩ := vals1 r
  cases rx
  refine sorted_dict (I.ok.hd hc) I hH fun h' tk acc vs rel hl hacc keep => ?_
  have hS := keys_strs (ss := ss) (by rw [← rel.keys]; exact hk) hl hacc
  have hlen := rel.length
  have hssl : ss.length = kvs.length := by
    have := congrArg List.length hk
    rw [List.length_map, List.length_map] at this
    exact this.symm
  have hoL : (h'.push (seqObj "list" acc.toArray 0)).get? h'.objs.size = some (seqObj "list" acc.toArray 0) := Heap.get?_push_size _ rfl
  refine wpAny_call_entry slot_list_sort ⟨_, hoL, rfl⟩ entry_list_sort (list_sort_treeK strKind_oneLt hoL hS.keysOf (fun v₁ v₂ rest e => keyKind_strs (by rw [← e]; exact hS)) (by omega) fun st' hp hs => ⟨_, rfl, ?_⟩) (args_list_sort _)
  obtain ⟨ss', a1, a2, a3⟩ := sorted_out_str hS hp hs
  obtain ⟨e, he⟩ : ∃ e, (sortedHeap (h'.push (seqObj "list" acc.toArray 0)) h'.objs.size acc ((arrOf st').map (·.2))).get? h'.objs.size = some (seqObj "list" ((arrOf st').map (·.2)) e) := sortedHeap_at hoL
  have I1 := I.kept (t' := tk) keep
  refine ⟨.ref h'.objs.size, _, I1.laid (a := h'.objs.size) (o := .lst (ss'.map V.str)) (t' := tk) (fun b o hb' => ?_) (Nat.le_refl _) (lst_ok (its := ((arrOf st').map (·.2)).toList) (e := e) (vals_of_strs a1) ?_ (by rw [Array.toArray_toList]; exact he)), rfl, q _ ss' a2 a3 (I1.hok.fresh (Nat.le_refl _))⟩
  · have lt := Heap.lt_size hb'
    rw [sortedHeap_old (Nat.ne_of_lt lt) (by rw [Heap.size_push]; exact Nat.lt_succ_of_lt lt)]
    exact Heap.get?_push_of_some _ hb'
  · rw [List.length_map, a2.length_eq]
    exact sz1000 (by omega)
def rSortDI : List V → Hp → VK → Prop := fun xs H Q => ∃ a kvs, ∃ ns : List Int, xs = [.ref a] ∧ H a = some (.dK kvs) ∧ kvs.map (·.1) = ns.map Sum.inl ∧ kvs.length < 64 ∧ ∀ (p : Addr) (ns' : List Int), ns'.Perm ns → ns'.Pairwise (· ≤ ·) → H p = none → Q (.ref p) (upd H p (.lst (ns'.map V.int)))
end
end L2

namespace L2
open PySem PySem.Spec PyProof.Rows
/-! ### name = [ .. for .. ]: the name is stored ahead of the block's end -/
theorem ps_comp {X : Cx} {iy : Nat} {y : Str} {py spos : Pos} {elt tg iter : Expr} {ifs : List Expr} {scope : Scope} {pos : Pos} {N' : List Str} {cl : List (Str × Addr)} {wi : TI} {g : TG} {tt : TT} {te : TE} (σf : St → St)
    (hc : X.calm = true) (hkind : scope.kind = .function) (hcell : ∀ y ∈ scope.names, y.2 ≠ .cell) (hnames : ∀ y ∈ scope.names, y.2 = .local → scope.names.lookup y.1 = some .local) (hcl : ClOk X scope cl)
    (hN : ∀ σ : St, σ.length = X.N.length → BlkN X N' scope cl σ (σf σ)) (hi : PI X tg iter wi)
    (hg : ∀ C s₀ H₀ ex pn, PG (blk X N' scope cl C s₀ H₀ ex pn) tg g) (ht : ∀ C s₀ H₀ ex pn, PIfs (blk X N' scope cl C s₀ H₀ ex pn) ifs tt) (he : ∀ C s₀ H₀ ex pn, PE (blk X N' scope cl C s₀ H₀ ex pn) elt te)
    (hnd : X.N.Nodup) (hiy : X.N[iy]? = some y) (hy : Loc X.env.scope y) (hfy : X.fn y = true ∨ X.env.scope.names.lookup y = some .local)
    (hsw : swapsWith (.ListComp elt [⟨tg, iter, ifs, 0⟩] scope pos) (some (.Name y py)) spos.line X.env = pure true)
    (hs : ∀ x, foldedSetIterable iter X.env x = pure x := by intro _; rfl) : PS X (.Assign [.Name y py] (.ListComp elt [⟨tg, iter, ifs, 0⟩] scope pos) spos) (tAsg (tComp σf wi g tt te) (gName iy)) := by
  intro pins s σ H Dn I h
  rw [exec_Assign_Name_used _ _ _ _ hsw]
  refine wpAny_bind (wpAny_standAt (wpAny_bind ?_))
  show wpAny _ X.A (do let _ ← comprehension (.ListComp elt [⟨tg, iter, ifs, 0⟩] scope pos) scope X.env _ (newList []) false (eval iter X.env) (some (assign (.Name y py) X.env))) _ _ s
  refine wpAny_bind (wpAny_mono (wpAny_comprehension_free (use := some (assign (.Name y py) X.env)) (Q := fun _ s' => SP X pins Dn .next s') rfl hs hcl.run hkind hnames
    (thn (hi pins s σ H _ I h) fun v s1 h1 => thn h1 fun itv s2 h2 => ?_)) (fun _ s' hq => wpAny_pure (wpAny_pure hq)) fun _ _ e => e)
  obtain ⟨it, fp, tn, J, H2, rfl, I2, T, st2, f2, q⟩ := h2
  refine wpAny_newObj_type (wpAny_newFunctionEnv hcell (by intro y hy; simp at hy) (fun h₁ hns₁ hsb₁ => ?_) hkind)
  dsimp only at hns₁ hsb₁ ⊢
  have hfo : ∀ b ∈ fp, b < s2.heap.objs.size := fun b hb => by
    obtain ⟨o, e, _⟩ := T.obj _ _ st2 b hb
    exact Heap.lt_size e
  have hDf : H2 s2.heap.objs.size = none := I2.hok.fresh (Nat.le_refl _)
  obtain ⟨W, ⟨m0, w0⟩, turn⟩ := q s2.heap.objs.size hDf
  have I3 : Inv X pins σ (upd H2 s2.heap.objs.size (.lst [])) { s2 with heap := s2.heap.push { cls := .type "list", data := .seq ([] : List Value).toArray } } := I2.lnew (its := []) (t' := s2.toks) .nil (Nat.zero_le _)
  have f3 : ∀ b ∈ fp, FpOk X pins (upd H2 s2.heap.objs.size (.lst [])) b := fun b hb => ⟨by rw [upd_ne (Nat.ne_of_lt (hfo b hb))]; exact (f2 b hb).1, (f2 b hb).2⟩
  generalize hD : s2.heap.objs.size = D at *
  generalize hs3 : ({ s2 with heap := s2.heap.push { cls := .type "list", data := .seq ([] : List Value).toArray } } : Shared) = s3 at *
  have hh3 : s3.heap = s2.heap.push { cls := .type "list", data := .seq ([] : List Value).toArray } := by rw [← hs3]
  have hsz3 : s2.heap.objs.size < s3.heap.objs.size := by rw [hh3, Heap.size_push]; exact Nat.lt_succ_self _
  have e3 : ∀ h t, ({ s2 with heap := h, toks := t } : Shared) = { s3 with heap := h, toks := t } := fun h t => by rw [← hs3]
  rw [← hh3] at hns₁ hsb₁ ⊢
  have hk3 : ∀ b o, s3.heap.get? b = some o → h₁.get? b = some o := fun b o e => hsb₁.extBut b o (Nat.ne_of_lt (Heap.lt_size e)) (Heap.get?_push_of_some _ e)
  have I4 := blk_start (t' := s3.toks) I3 hkind hcl (hN σ I.len) f3 (fun b hb => Nat.lt_trans (hfo b hb) (hD ▸ hsz3)) (hns := by simpa using hns₁) hk3
  generalize hB : blk X N' scope cl s3.heap.objs.size s3 (upd H2 D (.lst [])) fp (X.pn ++ pins) = B at *
  have hBp : B.prog = X.prog := by rw [← hB]; rfl
  have hBw : B.w = X.w := by rw [← hB]; rfl
  have hBK : B.K = X.K := by rw [← hB]; rfl
  have hBA : B.A = X.A := by rw [← hB]; rfl
  have hBc : B.calm = true := by rw [← hB]; exact hc
  have hBe : B.env = compEnvC scope cl s3.heap.objs.size X.env := by rw [← hB]; rfl
  have hBx : B.xe = fun _ _ => False := by rw [← hB]; rfl
  have hGB : PG B tg g := hB ▸ hg _ _ _ _ _
  have hTB : PIfs B ifs tt := hB ▸ ht _ _ _ _ _
  have hEB : PE B elt te := hB ▸ he _ _ _ _ _
  have stat : ∀ {H' : Hp}, (∀ b ∈ fp, H' b = none) → ∀ b ∈ fp, FpOk B [] H' b := fun {H'} hn b hb => by
    obtain ⟨f0, f1, f2', f3', f4, f5⟩ := f3 b hb
    rw [← hB]
    refine ⟨hn b hb, Nat.ne_of_lt (Nat.lt_trans (hfo b hb) (hD ▸ hsz3)), fun z => ?_, .inl hb, fun x c e => f4 x c (hcl.sub x c e), fun p hp => ?_⟩
    · rcases List.mem_cons.mp (I.stkSub b z) with z | z
      · exact f1 z
      · exact f2' z
    · rw [show (blk X N' scope cl s3.heap.objs.size s3 (upd H2 D (.lst [])) fp (X.pn ++ pins)).pn = X.pn ++ pins from rfl, List.append_nil] at hp
      exact f5 p hp
  have loop : ∀ s4 : Shared, Inv B [] (σf σ) (upd H2 D (.lst [])) s4 → tn 0 s4.heap →
      codeAny (model X.prog X.w) X.A (.compLoop (.ListComp elt [⟨tg, iter, ifs, 0⟩] scope pos) 0 (.ref it) (.ref D) (compEnvC scope cl s3.heap.objs.size X.env)) (compPost (model X.prog X.w) X.A X.xe (some (assign (.Name y py) X.env)) (fun _ s' => SP X pins Dn .next s') (.ref D) s3.heap.objs.size) s4 := by
    intro s4 I4 st4
    refine compLoop_gen (I := fun n s' => ∃ i ys H', Inv B [] (σf σ) H' s' ∧ tn i s'.heap ∧ (∀ b ∈ fp, H' b = none) ∧ W i n ys H') ?_ m0 ⟨0, [], _, I4, st4, fun b hb => (f3 b hb).1, w0⟩
    rintro n s5 ⟨i, ys, H5, I5, st5, fr5, w5⟩
    obtain ⟨hD5, hlen5, alt⟩ := turn i n ys H5 w5
    rcases alt with ⟨stop, qn⟩ | ⟨go, step⟩
    · have z := T.done B hBp hBw hBK hBc i [] s5 (σf σ) H5 (fun _ _ => False) I5 (stat fr5) st5 stop
      rw [hBA] at z
      refine thn z fun r s6 ⟨hr, I6⟩ => ?_
      subst hr
      obtain ⟨m6, hn6, _⟩ := I6.loc
      rw [hBe] at hn6
      subst hB
      have I6x : Inv X pins σ H5 s6 := blk_end I3 f3 I6 (h'' := s6.heap) ⟨rfl, fun _ _ => rfl⟩
      have fC : FpOk X pins H5 s3.heap.objs.size := I3.fpOk (Nat.le_refl _) I6.free
      obtain ⟨g0, g1, g2, g3, g4, g5⟩ := id fC
      obtain ⟨oC, es, ep, hoC, hdC, rest⟩ := hn6
      have I6p := I6x.pinned (fp := [s3.heap.objs.size]) (fun b hb => by rw [List.mem_singleton.mp hb]; exact fC) (fun b hb => ⟨oC, by rw [List.mem_singleton.mp hb]; exact hoC, fun v e => by rw [hdC] at e; cases e⟩)
      show wpAny (model X.prog X.w) X.A (assign (.Name y py) X.env (.ref D)) _ X.xe s6
      refine thn (pg_name (i := iy) (pos := py) hnd hiy hy hfy _ s6 σ H5 (.ref D) (.ref D) (fun σ' H' => Dn.nx σ' H') I6p rfl qn) fun _ s7 ⟨σ7, H7, I7, q7⟩ => ?_
      have pc := I7.pin (s3.heap.objs.size, oC) (List.mem_append_right _ (List.mem_append_right _ (mem_pinsAt (by simp) hoC)))
      refine ⟨m6, ⟨oC, es, ep, pc.1, hdC, rest⟩, fun h' hs' => ⟨σ7, H7, ?_, q7⟩⟩
      exact I7.unpinned.turned (t' := s7.toks) (fun b o hb e => hs'.extBut b o hb e) pc.2.1 g1 g3 g4 g5
    · have z := T.item B hBp hBw hBK hBc i [] s5 (σf σ) H5 (fun _ _ => False) I5 (stat fr5) st5 go
      rw [hBA] at z
      refine thn z fun r s6 ⟨u, hr, h6⟩ => ?_
      subst hr
      refine thn h6 fun _ s7 ⟨x, H7, I7, r7, y7, st7, fr7⟩ => ?_
      have I7' := I7.pinned (stat fr7) (T.obj _ _ st7)
      have z8 := hGB _ s7 (σf σ) H7 x u _ I7' r7 (step x H7 y7)
      rw [hBp, hBw, hBA, hBe, hBx] at z8
      refine thn z8 fun _ s8 ⟨σ8, H8, I8, k8, q8⟩ => ?_
      have z9 := hTB _ s8 σ8 H8 _ I8 q8
      rw [hBp, hBw, hBA, hBe, hBx] at z9
      refine thn z9 fun ok s9 ⟨H9, I9, q9⟩ => ?_
      have again : ∀ {ys' : List V} {H' : Hp} {s' : Shared}, Inv B ([] ++ pinsAt fp s7.heap) σ8 H' s' → (∃ m', m' < n ∧ W (i + 1) m' ys' H') → ∃ m, m < n ∧ ∃ i ys H', Inv B [] (σf σ) H' s' ∧ tn i s'.heap ∧ (∀ b ∈ fp, H' b = none) ∧ W i m ys H' := fun {ys' H' s'} J ⟨m', hm, w'⟩ => by
        refine ⟨m', hm, i + 1, ys', H', J.unpinned.weak k8.len.symm k8.at', T.keep _ _ _ st7 fun b hb o e => (J.pin (b, o) (List.mem_append_right _ (List.mem_append_right _ (mem_pinsAt hb e)))).1, fun b hb => ?_, w'⟩
        obtain ⟨o, e, d⟩ := T.obj _ _ st7 b hb
        exact (J.pin (b, o) (List.mem_append_right _ (List.mem_append_right _ (mem_pinsAt hb e)))).2.1
      cases ok with
      | false => exact again I9 q9
      | true =>
        have z10 := hEB _ s9 σ8 H9 _ I9 q9
        rw [hBp, hBw, hBA, hBe, hBx] at z10
        refine thn z10 fun y10 s10 ⟨y, H10, I10, r10, hD10, q10⟩ => ?_
        have z11 := mt_append (X := B) _ s10 σ8 H10 (.ref D) [y] (.ref D) [y10] (fun _ H' => ∃ m', m' < n ∧ W (i + 1) m' (ys ++ [y]) H') I10 rfl (.cons r10 .nil) ⟨D, ys, y, rfl, rfl, hD10, hlen5, q10⟩
        rw [hBp, hBw, hBA, hBx] at z11
        refine thn z11 fun _ s11 ⟨_, H11, I11, _, q11⟩ => again I11 q11
  have st4 : tn 0 ({ s3 with heap := h₁, toks := s3.toks } : Shared).heap := T.keep _ _ _ st2 fun b hb o e => hk3 b o (by rw [hh3]; exact Heap.get?_push_of_some _ e)
  have L4 := loop _ I4 st4
  subst hs3
  exact codeAny_compStart_list L4 (T.self _ 0 _ _ _ st4 L4)
theorem ps_compC {X : Cx} {iy : Nat} {y : Str} {py spos : Pos} {elt tg iter : Expr} {ifs : List Expr} {scope : Scope} {pos : Pos} {N' : List Str} {wi : TI} {g : TG} {tt : TT} {te : TE} (σf : St → St)
    (hc : X.calm = true) (hkind : scope.kind = .function) (hcell : ∀ y ∈ scope.names, y.2 ≠ .cell) (hnames : ∀ y ∈ scope.names, y.2 = .local → scope.names.lookup y.1 = some .local)
    (hk : ∀ y ∈ scope.names, y.2 = NameKind.free → X.env.kindOf y.1 = some .cell ∨ X.env.kindOf y.1 = some .free)
    (hN : ∀ cl (σ : St), σ.length = X.N.length → BlkN X N' scope cl σ (σf σ)) (hi : PI X tg iter wi)
    (hg : ∀ cl C s₀ H₀ ex pn, PG (blk X N' scope cl C s₀ H₀ ex pn) tg g) (ht : ∀ cl C s₀ H₀ ex pn, PIfs (blk X N' scope cl C s₀ H₀ ex pn) ifs tt) (he : ∀ cl C s₀ H₀ ex pn, PE (blk X N' scope cl C s₀ H₀ ex pn) elt te)
    (hnd : X.N.Nodup) (hiy : X.N[iy]? = some y) (hy : Loc X.env.scope y) (hfy : X.fn y = true ∨ X.env.scope.names.lookup y = some .local)
    (hsw : swapsWith (.ListComp elt [⟨tg, iter, ifs, 0⟩] scope pos) (some (.Name y py)) spos.line X.env = pure true)
    (hs : ∀ x, foldedSetIterable iter X.env x = pure x := by intro _; rfl) : PS X (.Assign [.Name y py] (.ListComp elt [⟨tg, iter, ifs, 0⟩] scope pos) spos) (tAsg (tComp σf wi g tt te) (gName iy)) := by
  intro pins s σ H D I h
  obtain ⟨cl, hcl⟩ := clOk_of I.ok hcell hk
  exact ps_comp σf hc hkind hcell hnames hcl (hN cl) hi (hg cl) (ht cl) (he cl) hnd hiy hy hfy hsw hs pins s σ H D I h
end L2

namespace L2
open PySem PySem.Spec PyProof.Rows
/-! ### comprehensions, by what each element is -/
/-- an iterator that gives the things xs, as long as the heap only grows -/
structure Ys (J : It) (xs : List V) (H1 : Hp) : Prop where
  go : ∀ i H, Same H1 H → i < xs.length → J.go i H
  yld : ∀ i H x H', Same H1 H → i < xs.length → J.yld i H x H' → H' = H ∧ xs[i]? = some x
  stop : ∀ i H, Same H1 H → xs.length ≤ i → J.stop i H
theorem Ys.list {K : PySem.W.Frag} {a : Addr} {xs : List V} {H1 : Hp} (h : SqL K H1 a xs) : Ys (Itl K a) xs H1 where
  go := fun i H s hi => ⟨xs, xs[i], s.seq h, List.getElem?_eq_getElem hi⟩
  yld := fun i H x H' s _ y => ⟨y.1, y.2 xs (s.seq h)⟩
  stop := fun i H s hi => ⟨xs, s.seq h, hi⟩
theorem Ys.tup {K : PySem.W.Frag} {a : Addr} {xs : List V} {H1 : Hp} (h : SqT K H1 a xs) : Ys (Itt K a) xs H1 where
  go := fun i H s hi => ⟨xs, xs[i], s.tup h, List.getElem?_eq_getElem hi⟩
  yld := fun i H x H' s _ y => ⟨y.1, y.2 xs (s.tup h)⟩
  stop := fun i H s hi => ⟨xs, s.tup h, hi⟩
def rngV (lo : Int) (n : Nat) : List V := (List.range n).map fun (i : Nat) => V.int (lo + (i : Int))
theorem snoc_get {α : Type} {ys : List α} {y z : α} {j : Nat} (h : (ys ++ [y])[j]? = some z) : (j < ys.length ∧ ys[j]? = some z) ∨ (j = ys.length ∧ z = y) := by
  by_cases hj : j < ys.length
  · rw [List.getElem?_append_left hj] at h
    exact .inl ⟨hj, h⟩
  · rw [List.getElem?_append_right (by omega)] at h
    have e0 : j - ys.length = 0 := by
      cases hz : j - ys.length with
      | zero => rfl
      | succ n => rw [hz] at h; simp at h
    rw [e0] at h
    exact .inr ⟨by omega, by simpa using h.symm⟩
theorem comp_rel {J : It} {xs : List V} {D : Addr} {g : TG} {te : TE} {σ0 : St} {QD : Hp → Prop} {H1 : Hp} (Y : Ys J xs H1) (Pr : Nat → V → V → Hp → Prop) (hP : ∀ i x y H H', Pr i x y H → Tk H H' → Pr i x y H') (hD : H1 D = none) (hl : xs.length ≤ 1000)
    (hs : ∀ i x H' (R : VK), xs[i]? = some x → Same H1 H' → (∀ y H4, Same H' H4 → Pr i x y H4 → R y H4) → g x σ0 H' fun σ2 H2 => Keep σ0 σ2 ∧ te σ2 H2 R)
    (hd : ∀ ys H', Same H1 H' → H' D = some (.lst ys) → ys.length = xs.length → (∀ i x y, xs[i]? = some x → ys[i]? = some y → Pr i x y H') → QD H') :
    ∃ W : Nat → Nat → List V → Hp → Prop, (∃ m, W 0 m [] (upd H1 D (.lst []))) ∧ ∀ i m ys H, W i m ys H → H D = some (.lst ys) ∧ ys.length < sizeLine ∧
      ((J.stop i H ∧ QD H) ∨ (J.go i H ∧ ∀ x H', J.yld i H x H' → g x σ0 H' fun σ2 H2 => Keep σ0 σ2 ∧ tNoIf σ2 H2 fun b H3 =>
        if b = true then te σ2 H3 fun y H4 => H4 D = some (.lst ys) ∧ ∃ m', m' < m ∧ W (i + 1) m' (ys ++ [y]) (upd H4 D (.lst (ys ++ [y]))) else ∃ m', m' < m ∧ W (i + 1) m' ys H3)) := by
  refine ⟨fun i m ys H => m = xs.length - i ∧ i ≤ xs.length ∧ Same H1 H ∧ H D = some (.lst ys) ∧ ys.length = i ∧ ∀ j x y, xs[j]? = some x → ys[j]? = some y → Pr j x y H,
    ⟨_, rfl, Nat.zero_le _, Same.upd hD, upd_same, rfl, fun j x y _ h => by simp at h⟩, ?_⟩
  rintro i m ys H ⟨rfl, hi, sm, hDH, yl, pr⟩
  refine ⟨hDH, small1000 (by omega), ?_⟩
  by_cases hlt : i < xs.length
  · refine .inr ⟨Y.go i H sm hlt, fun x H' y => ?_⟩
    obtain ⟨rfl, hx⟩ := Y.yld i H x H' sm hlt y
    refine hs i x H' _ hx sm fun y H4 s4 py => ?_
    have hD4 := s4 _ _ hDH
    have tk : Tk H4 (upd H4 D (.lst (ys ++ [y]))) := Tk.lst hD4
    refine ⟨hD4, xs.length - (i + 1), by omega, rfl, hlt, fun b o hb => ?_, upd_same, by rw [List.length_append, yl]; rfl, fun j x' y' hx' hy' => ?_⟩
    · rw [upd_ne (ne_of_none hb hD)]
      exact s4 _ _ (sm _ _ hb)
    · rcases snoc_get hy' with ⟨_, hy'⟩ | ⟨e, e'⟩
      · exact hP _ _ _ _ _ (hP _ _ _ _ _ (pr j x' y' hx' hy') (Same.tk s4)) tk
      · subst e'
        have : j = i := by omega
        subst this
        rw [hx] at hx'
        cases hx'
        exact hP _ _ _ _ _ py tk
  · have e : i = xs.length := by omega
    subst e
    exact .inl ⟨Y.stop _ H sm (Nat.le_refl _), hd ys H sm hDH yl pr⟩
/-! ### rules within a comprehension: the module is named, so that the reading does not hang on the block -/
/-- a comprehension with a test -/
theorem comp_filt {J : It} {xs : List V} {D : Addr} {g : TG} {tt : TT} {te : TE} {σ0 : St} {QD : Hp → Prop} {H1 : Hp} (Y : Ys J xs H1) (p : V → Bool) (Pr : V → V → Hp → Prop) (hP : ∀ x y H H', Pr x y H → Tk H H' → Pr x y H') (hD : H1 D = none) (hl : xs.length ≤ 1000)
    (hs : ∀ (i : Nat) x H' (R1 : VK) (R2 : Hp → Prop), xs[i]? = some x → Same H1 H' → (p x = true → ∀ y H4, Same H' H4 → Pr x y H4 → R1 y H4) → (p x = false → ∀ H4, Same H' H4 → R2 H4) → g x σ0 H' fun σ2 H2 => Keep σ0 σ2 ∧ tt σ2 H2 fun b H3 => if b = true then te σ2 H3 R1 else R2 H3)
    (hd : ∀ ys H', Same H1 H' → H' D = some (.lst ys) → ys.length = (xs.filter p).length → (∀ (i : Nat) x y, (xs.filter p)[i]? = some x → ys[i]? = some y → Pr x y H') → QD H') :
    ∃ W : Nat → Nat → List V → Hp → Prop, (∃ m, W 0 m [] (upd H1 D (.lst []))) ∧ ∀ i m ys H, W i m ys H → H D = some (.lst ys) ∧ ys.length < sizeLine ∧
      ((J.stop i H ∧ QD H) ∨ (J.go i H ∧ ∀ x H', J.yld i H x H' → g x σ0 H' fun σ2 H2 => Keep σ0 σ2 ∧ tt σ2 H2 fun b H3 =>
        if b = true then te σ2 H3 fun y H4 => H4 D = some (.lst ys) ∧ ∃ m', m' < m ∧ W (i + 1) m' (ys ++ [y]) (upd H4 D (.lst (ys ++ [y]))) else ∃ m', m' < m ∧ W (i + 1) m' ys H3)) := by
  refine ⟨fun i m ys H => m = xs.length - i ∧ i ≤ xs.length ∧ Same H1 H ∧ H D = some (.lst ys) ∧ ys.length = ((xs.take i).filter p).length ∧ ∀ (j : Nat) x y, ((xs.take i).filter p)[j]? = some x → ys[j]? = some y → Pr x y H,
    ⟨_, rfl, Nat.zero_le _, Same.upd hD, upd_same, rfl, fun j x y _ h => by simp at h⟩, ?_⟩
  rintro i m ys H ⟨rfl, hi, sm, hDH, yl, pr⟩
  have yl' : ys.length ≤ xs.length := by
    rw [yl]
    exact Nat.le_trans (List.length_filter_le _ _) (by rw [List.length_take]; omega)
  refine ⟨hDH, small1000 (by omega), ?_⟩
  by_cases hlt : i < xs.length
  · refine .inr ⟨Y.go i H sm hlt, fun x H' y => ?_⟩
    obtain ⟨rfl, hx⟩ := Y.yld i H x H' sm hlt y
    have et : xs.take (i + 1) = xs.take i ++ [x] := by rw [List.take_add_one, hx]; rfl
    refine hs i x H' _ _ hx sm (fun px y H4 s4 py => ?_) (fun px H4 s4 => ?_)
    · have hD4 := s4 _ _ hDH
      have tk : Tk H4 (upd H4 D (.lst (ys ++ [y]))) := Tk.lst hD4
      refine ⟨hD4, xs.length - (i + 1), by omega, rfl, hlt, fun b o hb => ?_, upd_same, ?_, fun j x' y' hx' hy' => ?_⟩
      · rw [upd_ne (ne_of_none hb hD)]
        exact s4 _ _ (sm _ _ hb)
      · rw [et, List.filter_append, List.length_append, List.length_append, yl, List.filter_cons_of_pos px]
        rfl
      · rw [et, List.filter_append, List.filter_cons_of_pos px] at hx'
        rcases snoc_get hx' with ⟨h1, hx'⟩ | ⟨h1, hx'⟩
        · rcases snoc_get hy' with ⟨_, hy'⟩ | ⟨e, _⟩
          · exact hP _ _ _ _ (hP _ _ _ _ (pr j x' y' hx' hy') (Same.tk s4)) tk
          · omega
        · rcases snoc_get hy' with ⟨h2, _⟩ | ⟨_, hy'⟩
          · omega
          · subst hx' hy'
            exact hP _ _ _ _ py tk
    · refine ⟨xs.length - (i + 1), by omega, rfl, hlt, sm.trans s4, s4 _ _ hDH, ?_, fun j x' y' hx' hy' => ?_⟩
      · rw [et, List.filter_append, List.filter_cons_of_neg (by rw [px]; exact Bool.false_ne_true), List.filter_nil, List.append_nil, yl]
      · rw [et, List.filter_append, List.filter_cons_of_neg (by rw [px]; exact Bool.false_ne_true), List.filter_nil, List.append_nil] at hx'
        exact hP _ _ _ _ (pr j x' y' hx' hy') (Same.tk s4)
  · have e : i = xs.length := by omega
    subst e
    rw [List.take_length] at yl pr
    exact .inl ⟨Y.stop _ H sm (Nat.le_refl _), hd ys H sm hDH yl pr⟩
end L2

namespace L2
open PySem PySem.Spec PyProof.Rows
/-! ### zip of a tuple and a list -/
section
variable {prog : Program} {w : World} {A : Around} {E : Value → Shared → Prop} {s : Shared}
/-- the objects of a zip are apart -/
structure Ap (z TI TO i1 i2 : Addr) (f1 f2 : List Addr) : Prop where
  a1 : ∀ b ∈ f1, b ≠ z ∧ b ≠ TO ∧ b ≠ i2
  a2 : ∀ b ∈ f2, b ≠ z ∧ b ≠ TO ∧ b ≠ i1
  m1 : i1 ∈ f1
  m2 : i2 ∈ f2
  tz : TI ≠ z
  tO : TI ≠ TO
  t1 : TI ≠ i1
  t2 : TI ≠ i2
  oz : TO ≠ z
section
variable {z TI TO i1 i2 : Addr} {f1 f2 : List Addr} {n1 n2 k : Nat} {P1 P2 : Nat → Value → Prop} {S1 S2 : Nat → Heap → Prop} {a b : Value}
end
end
/-- the i-th items of a tuple and of a list, in a new tuple -/
def Itz (K : PySem.W.Frag) (a b : Addr) : It :=
  ⟨fun i H => ∃ xs ys, SqT K H a xs ∧ SqL K H b ys ∧ i < xs.length ∧ i < ys.length,
   fun i H v H' => ∃ T, H T = none ∧ v = .ref T ∧ ∀ xs ys, SqT K H a xs → SqL K H b ys → ∃ x y, xs[i]? = some x ∧ ys[i]? = some y ∧ H' = upd H T (.tup [x, y]),
   fun i H => ∃ xs ys, SqT K H a xs ∧ SqL K H b ys ∧ (i = xs.length ∨ (i < xs.length ∧ i = ys.length))⟩
/-- a zip's objects, laid one behind another from n on -/
def ZipSt (n a b : Nat) (i : Nat) (h : Heap) : Prop := IsZip h (n + 4) (n + 2) (n + 3) .none ∧ IsPair h (n + 2) (.ref n) (.ref (n + 1)) ∧ (∃ x y, IsPair h (n + 3) x y) ∧ h.IsTupleIter n a i ∧ h.IsListIter (n + 1) b i
abbrev zo1 (h : Heap) (a : Addr) : Heap := h.push { cls := .type "tuple_iterator", data := .fields #[.ref a, .int 0 0] }
abbrev zo2 (h : Heap) (a b : Addr) : Heap := (zo1 h a).push { cls := .type "list_iterator", data := .fields #[.ref b, .int 0 0] }
abbrev zo3 (h : Heap) (a b : Addr) : Heap := (zo2 h a b).push { cls := .type "tuple", data := .seq #[.ref h.objs.size, .ref (zo1 h a).objs.size] }
abbrev zo4 (h : Heap) (a b : Addr) : Heap := (zo3 h a b).push { cls := .type "tuple", data := .seq #[.none, .none] }
abbrev zo5 (h : Heap) (a b : Addr) : Heap := (zo4 h a b).push { cls := .type "zip", data := .fields #[.none, .bool false, .bool false, .ref (zo2 h a b).objs.size, .ref (zo3 h a b).objs.size] }
def iZip (K : PySem.W.Frag) (ta : TA) : TI := fun σ H R => ta σ H fun vs H1 => ∃ a b, vs = [.ref a, .ref b] ∧ (∃ xs, SqT K H1 a xs) ∧ (∃ ys, SqL K H1 b ys) ∧ R (Itz K a b) H1
theorem op_neIK {X : Cx} {K : PySem.W.Frag} (h : X.K = K) (hu : X.A.units + 64 < cLine) : OpR X (compareOp .NotEq) (rNeI K) := h ▸ op_neI hu
end L2

namespace K8
open PySem PySem.Spec PyProof.Rows L2 GM
def top (i : Nat) : Stmt := PySem.Challenge.pw_phialhouse_k08_whole_tub.main.body.getD i (.Pass ⟨0, 0, 0, 0⟩)
abbrev sGcd : Stmt := top 8
abbrev sLow : Stmt := top 9
abbrev sPlus : Stmt := top 10
abbrev sMinus : Stmt := top 11
abbrev sTimes : Stmt := top 12
abbrev sOver : Stmt := top 13
abbrev sLess : Stmt := top 14
abbrev sMixture : Stmt := top 16
abbrev sWholeM : Stmt := top 17
abbrev sOfWare : Stmt := top 18
abbrev sTogether : Stmt := top 19
abbrev sBrought : Stmt := top 20
abbrev sTaken : Stmt := top 21
abbrev sAlike : Stmt := top 22
abbrev sCell : Stmt := top 24
abbrev sLeft : Stmt := top 25
abbrev sNext : Stmt := top 26
abbrev sDiv : Stmt := top 27
abbrev sLlow : Stmt := top 28
abbrev sWhole : Stmt := top 29
abbrev sIsAm : Stmt := top 30
abbrev sNames : Stmt := top 31
abbrev sAsDict : Stmt := top 32
abbrev sIsSum : Stmt := top 33
abbrev sSum : Stmt := top 34
abbrev sPut : Stmt := top 35
abbrev sRatio : Stmt := top 36
abbrev sShort : Stmt := top 37
abbrev sTake : Stmt := top 38
abbrev sAsked : Stmt := top 39
abbrev sLaw : Stmt := top 40
def spGcd : Sp := fun vs H Q _ => ∃ a b : Int, vs = [.int a, .int b] ∧ 0 ≤ a ∧ 0 ≤ b ∧ Q (.int (G a b)) H
def spLow : Sp := fun vs H Q _ => ∃ t b : Int, vs = [.int t, .int b] ∧ 0 ≤ t ∧ 1 ≤ b ∧ Bt 9000 b ∧ RetT H Q [t / G t b, b / G t b]
section
variable {P : Program} {w : World} {K : PySem.W.Frag} {mg : Str → Option Value} {base : Heap}
theorem gcd_turn {a0 b0 a b : Int} (e : G a b = G a0 b0) (hb : 0 ≤ b) (h : ¬ b = 0) : 0 ≤ a % b ∧ G b (a % b) = G a0 b0 := ⟨Int.emod_nonneg a h, by rw [G_step]; exact e⟩
theorem scGcd : FnScope ["one", "other", "rest"] ["one", "other"] (defScope sGcd) := ⟨rfl, rfl, rfl, by decide +kernel, rfl, by decide +kernel, by decide +kernel⟩
theorem ok_gcd {f : Addr} {fd : FuncData} (F : Fun K "common_divisor" "common_divisor" sGcd f fd) : FnOk P w K mg base CX0 1 f fd ["one", "other"] spGcd := by
  refine F.ok scGcd (fun vs H Q E h => ?_) (fun cdv A outer s H vs Q E hr h => ?_)
  · obtain ⟨a, b, rfl, _⟩ := h
    rfl
  · obtain ⟨a, b, rfl, ha, hb, k⟩ := h
    refine ⟨_, pss_cons (ps_while PassesOwn.never (pt_cmpR op_ne (pv 1) pe_int (nomark _))
      (pss_cons (ps_set (i := 2) scGcd.nd rfl (Or.inl rfl) (pe_op op_mod (pv 0) (pv 1)))
      (pss_cons (ps_set (i := 0) scGcd.nd rfl (Or.inl rfl) (pv 1))
      (pss_one (ps_set (i := 1) scGcd.nd rfl (Or.inl rfl) (pv 2))))))
      (pss_one (ps_ret (pv 0))), ?_⟩
    refine while_by (fun σ H' => H' = H ∧ ∃ (x y : Int) (r : Option V), σ = [some (.int x), some (.int y), r] ∧ 0 ≤ x ∧ 0 ≤ y ∧ G x y = G a b) (fun σ _ => match σ with | [_, some (.int y), _] => y.toNat | _ => 0) ⟨rfl, a, b, none, rfl, ha, hb, rfl⟩ ?_ ?_
    · rintro σ H' ⟨rfl, x, y, r, rfl, hx, hy, e⟩
      refine ⟨_, rfl, rfl, _, rfl, ?_⟩
      refine ite2 (fun hc => ?_) (fun hc => ?_)
      · have hy0 : ¬ y = 0 := by
          intro z
          subst z
          simp at hc
        have t := gcd_turn e hy hy0
        refine ⟨_, rfl, _, rfl, _, _, rfl, rfl, (by show 0 < y; omega), _, rfl, _, rfl, ⟨rfl, y, x % y, _, rfl, hy, t.1, t.2⟩, ?_⟩
        have := Int.emod_lt_of_pos x (show 0 < y by omega)
        have := t.1
        show (x % y).toNat < y.toNat
        omega
      · have hy0 : y = 0 := by
          by_cases z : y = 0
          · exact z
          · exfalso
            apply hc
            simp [z]
        subst hy0
        rw [G_zero hx] at e
        exact ⟨_, rfl, by rw [e]; exact k⟩
    · rintro σ H' Q1 Q2 hq ⟨v, e, z, q⟩
      exact ⟨v, e, z, by obtain ⟨k, e, q⟩ := q; exact ⟨k, e, hq _ _ q⟩⟩
theorem scLow : FnScope ["top", "bottom", "divisor"] ["top", "bottom"] (defScope sLow) := ⟨rfl, rfl, rfl, by decide +kernel, rfl, by decide +kernel, by decide +kernel⟩
theorem low_small {t b : Int} (h1 : 1 ≤ b) (hs : Bt 9000 b) : 0 < G t b ∧ Bt 9000 (G t b) := by
  have p := G_pos (a := t) (b := b) (by omega)
  exact ⟨p, hs.le (by omega) (G_le_r (by omega))⟩
theorem ok_low {f : Addr} {fd : FuncData} (F : Fun K "lowest_terms" "lowest_terms" sLow f fd) (cG : Cal P w K mg base CX0 1 "common_divisor" ["one", "other"] spGcd) : FnOk P w K mg base CX0 2 f fd ["top", "bottom"] spLow := by
  refine F.ok scLow (fun vs H Q E h => ?_) (fun cdv A outer s H vs Q E hr h => ?_)
  · obtain ⟨a, b, rfl, _⟩ := h
    rfl
  · obtain ⟨t, b, rfl, ht, hb, hs, k⟩ := h
    refine ⟨_, pss_cons (ps_set (i := 2) scLow.nd rfl (Or.inl rfl) (pe_cal cG hr rfl pass0 (pa_cons (pv 0) (pa_cons (pv 1) pa_nil))))
      (pss_one (ps_ret (pe_tup (pa_cons (pe_op op_fdivB (pv 0) (pv 2)) (pa_cons (pe_op op_fdivB (pv 1) (pv 2)) pa_nil))))), ?_⟩
    refine ⟨_, rfl, _, rfl, t, b, rfl, ht, by omega, ?_⟩
    have g := low_small (t := t) hb hs
    refine ⟨_, rfl, _, rfl, _, _, rfl, rfl, g, _, rfl, _, rfl, _, _, rfl, rfl, g, (by show 2 ≤ sizeLine; decide), fun p hp => ?_⟩
    exact k p _ (Same.upd hp) upd_same
theorem b6 {n : Nat} {x : Int} (h : Bt n x) (hn : n ≤ 1000000 := by decide) : Bt 1000000 x := h.mono hn
end
theorem bt_lt (n : Nat) {x c : Int} (h0 : 0 ≤ x) (h : x < c) (hc : c ≤ ((2 ^ n : Nat) : Int) := by decide +kernel) : Bt n x := by
  show x.natAbs < 2 ^ n
  omega
theorem emod_in (x : Int) {m : Int} (h : 0 < m) : 0 ≤ x % m ∧ x % m < m := ⟨Int.emod_nonneg x (by omega), Int.emod_lt_of_pos x h⟩
def spWhole : Sp := fun vs H Q _ => ∃ n : Int, vs = [.int n] ∧ Q (.bl true) H
def spIsAm (K : PySem.W.Frag) : Sp := fun vs H Q _ => ∃ (p : Addr) (t b : Int), vs = [.ref p] ∧ SqT K H p [.int t, .int b] ∧ Amt t b ∧ Q (.bl true) H
structure Txt (mg : Str → Option Value) : Prop where
  isi : mg "isinstance" = none
  int' : mg "int" = none
  bool' : mg "bool" = none
  tup' : mg "tuple" = none
  len : mg "len" = none
  range : mg "range" = none
  min' : mg "min" = none
  all' : mg "all" = none
  str' : mg "str" = none
  abs' : mg "abs" = none
  list' : mg "list" = none
  sum' : mg "sum" = none
  sorted' : mg "sorted" = none
  zip' : mg "zip" = none
  val : mg "ValueError" = none
section
variable {P : Program} {w : World} {K : PySem.W.Frag} {mg : Str → Option Value} {base : Heap}
theorem scDiv : FnScope ["_law_one", "_law_other"] ["_law_one", "_law_other"] (defScope sDiv) := ⟨rfl, rfl, rfl, by decide +kernel, rfl, by decide +kernel, by decide +kernel⟩
theorem ok_div {f : Addr} {fd : FuncData} (F : Fun K "_law_divisor" "_law_divisor" sDiv f fd) : FnOk P w K mg base CX0 1 f fd ["_law_one", "_law_other"] spGcd := by
  refine F.ok scDiv (fun vs H Q E h => ?_) (fun cdv A outer s H vs Q E hr h => ?_)
  · obtain ⟨a, b, rfl, _⟩ := h
    rfl
  · obtain ⟨a, b, rfl, ha, hb, k⟩ := h
    refine ⟨_, pss_cons (ps_while PassesOwn.never (pt_cmpR op_gt (pv 1) pe_int (nomark _))
      (pss_one (ps_par (i := 0) (j := 1) rfl scDiv.nd rfl rfl (by decide) rfl rfl (pa_cons (pv 1) (pa_cons (pe_op op_mod (pv 0) (pv 1)) pa_nil)) rfl)))
      (pss_one (ps_ret (pv 0))), ?_⟩
    refine while_by (fun σ H' => H' = H ∧ ∃ (x y : Int), σ = [some (.int x), some (.int y)] ∧ 0 ≤ x ∧ 0 ≤ y ∧ G x y = G a b) (fun σ _ => match σ with | [_, some (.int y)] => y.toNat | _ => 0) ⟨rfl, a, b, rfl, ha, hb, rfl⟩ ?_ ?_
    · rintro σ H' ⟨rfl, x, y, rfl, hx, hy, e⟩
      refine ⟨_, rfl, _, _, rfl, rfl, _, rfl, ?_⟩
      refine ite2 (fun hc => ?_) (fun hc => ?_)
      · have hy0 : 0 < y := of_decide_eq_true hc
        have t := gcd_turn e hy (by omega)
        refine ⟨_, rfl, _, rfl, _, rfl, _, _, rfl, rfl, (by show 0 < y; omega), _, _, rfl, ⟨rfl, y, x % y, rfl, hy, t.1, t.2⟩, ?_⟩
        have := Int.emod_lt_of_pos x (show 0 < y by omega)
        have := t.1
        show (x % y).toNat < y.toNat
        omega
      · have hy0 : y = 0 := by
          have : ¬ 0 < y := fun z => hc (decide_eq_true z)
          omega
        subst hy0
        rw [G_zero hx] at e
        exact ⟨_, rfl, by rw [e]; exact k⟩
    · rintro σ H' Q1 Q2 hq ⟨v, e, i, j, e1, e2, z, ez, q⟩
      exact ⟨v, e, i, j, e1, e2, z, ez, hq _ _ q⟩
theorem scLlow : FnScope ["_law_top", "_law_bottom", "_law_by"] ["_law_top", "_law_bottom"] (defScope sLlow) := ⟨rfl, rfl, rfl, by decide +kernel, rfl, by decide +kernel, by decide +kernel⟩
theorem ok_llow {f : Addr} {fd : FuncData} (F : Fun K "_law_low" "_law_low" sLlow f fd) (cG : Cal P w K mg base CX0 1 "_law_divisor" ["_law_one", "_law_other"] spGcd) : FnOk P w K mg base CX0 2 f fd ["_law_top", "_law_bottom"] spLow := by
  refine F.ok scLlow (fun vs H Q E h => ?_) (fun cdv A outer s H vs Q E hr h => ?_)
  · obtain ⟨a, b, rfl, _⟩ := h
    rfl
  · obtain ⟨t, b, rfl, ht, hb, hs, k⟩ := h
    refine ⟨_, pss_cons (ps_set (i := 2) scLlow.nd rfl (Or.inl rfl) (pe_cal cG hr rfl pass0 (pa_cons (pv 0) (pa_cons (pv 1) pa_nil))))
      (pss_one (ps_ret (pe_tup (pa_cons (pe_op op_fdivB (pv 0) (pv 2)) (pa_cons (pe_op op_fdivB (pv 1) (pv 2)) pa_nil))))), ?_⟩
    refine ⟨_, rfl, _, rfl, t, b, rfl, ht, by omega, ?_⟩
    have g := low_small (t := t) hb hs
    refine ⟨_, rfl, _, rfl, _, _, rfl, rfl, g, _, rfl, _, rfl, _, _, rfl, rfl, g, (by show 2 ≤ sizeLine; decide), fun p hp => ?_⟩
    exact k p _ (Same.upd hp) upd_same
theorem bt_int : bootBuiltins "int" = some (.type "int") := by decide +kernel
theorem bt_bool : bootBuiltins "bool" = some (.type "bool") := by decide +kernel
theorem bt_tuple : bootBuiltins "tuple" = some (.type "tuple") := by decide +kernel
theorem scWhole : FnScope ["_law_found"] ["_law_found"] (defScope sWhole) := ⟨rfl, rfl, rfl, by decide +kernel, rfl, by decide +kernel, by decide +kernel⟩
theorem ok_whole {f : Addr} {fd : FuncData} (F : Fun K "_law_whole" "_law_whole" sWhole f fd) (T : Txt mg) : FnOk P w K mg base CX0 1 f fd ["_law_found"] spWhole := by
  refine F.ok scWhole (fun vs H Q E h => ?_) (fun cdv A outer s H vs Q E hr h => ?_)
  · obtain ⟨_, rfl, _⟩ := h
    rfl
  · obtain ⟨n, rfl, k⟩ := h
    refine ⟨_, pss_one (ps_ret (pe_and (pe_callB call_isi rfl T.isi boot_isinstance (pa_cons (pv 0) (pa_cons (pe_bltn (v := .ty "int") rfl T.int' bt_int rfl) pa_nil)))
      (pe_one (pe_not (pe_callB call_isi rfl T.isi boot_isinstance (pa_cons (pv 0) (pa_cons (pe_bltn (v := .ty "bool") rfl T.bool' bt_bool rfl) pa_nil))))))), ?_⟩
    refine ⟨_, rfl, _, "int", true, rfl, .int_int, _, rfl, iteT ?_⟩
    exact ⟨_, rfl, _, "bool", false, rfl, .int_bool, _, rfl, k⟩
theorem scIsAm : FnScope ["_law_found"] ["_law_found"] (defScope sIsAm) := ⟨rfl, rfl, rfl, by decide +kernel, rfl, by decide +kernel, by decide +kernel⟩
theorem ok_isam {f : Addr} {fd : FuncData} (F : Fun K "_law_is_amount" "_law_is_amount" sIsAm f fd) (T : Txt mg) (cW : Cal P w K mg base CX0 1 "_law_whole" ["_law_found"] spWhole)
    (cG : Cal P w K mg base CX0 1 "_law_divisor" ["_law_one", "_law_other"] spGcd) : FnOk P w K mg base CX0 2 f fd ["_law_found"] (spIsAm K) := by
  refine F.ok scIsAm (fun vs H Q E h => ?_) (fun cdv A outer s H vs Q E hr h => ?_)
  · obtain ⟨_, _, _, rfl, _⟩ := h
    rfl
  · obtain ⟨p, t, b, rfl, hs, am, k⟩ := h
    refine ⟨_, pss_cons (ps_if (PW.pt (pw_or (pt_not (pt_val (pe_callB call_isi rfl T.isi boot_isinstance (pa_cons (pv 0) (pa_cons (pe_bltn (v := .ty "tuple") rfl T.tup' bt_tuple rfl) pa_nil)))))
        (pw_or1 (pt_cmpR op_ne (pe_callB call_len_seq rfl T.len PySem.boot_len (pa_cons (pv 0) pa_nil)) pe_int (nomark _))))) (pss_one (ps_ret pe_bl)) pss_nil)
      (pss_cons (ps_if (PW.pt (pw_or (pt_not (pt_val (pe_cal cW hr rfl pass0 (pa_cons (pit 0 0) pa_nil)))) (pw_or (pt_not (pt_val (pe_cal cW hr rfl pass0 (pa_cons (pit 0 1) pa_nil))))
          (pw_or (pt_cmpR op_lt (pit 0 0) pe_int (nomark _)) (pw_or1 (pt_cmpR op_lt (pit 0 1) pe_int (nomark _))))))) (pss_one (ps_ret pe_bl)) pss_nil)
      (pss_one (ps_ret (pe_cmpR op_eq (pe_cal cG hr rfl pass0 (pa_cons (pit 0 0) (pa_cons (pit 0 1) pa_nil))) pe_int (nomark _))))), ?_⟩
    refine ⟨_, rfl, _, "tuple", true, rfl, .tup_tuple hs, _, rfl, iteF ?_⟩
    refine ⟨_, rfl, p, _, rfl, .inr hs, rfl, _, rfl, iteF ?_⟩
    have a0 := am.t0
    have a1 := am.b1
    refine ⟨p, _, _, rfl, hs, rfl, _, rfl, _, rfl, iteF ⟨p, _, _, rfl, hs, rfl, _, rfl, _, rfl, iteF ?_⟩⟩
    refine ⟨p, _, _, rfl, hs, rfl, _, _, rfl, rfl, _, rfl, ?_⟩
    rw [decide_eq_false (by omega)]
    refine iteF ⟨p, _, _, rfl, hs, rfl, _, _, rfl, rfl, _, rfl, ?_⟩
    rw [decide_eq_false (by omega)]
    refine iteF ?_
    refine ⟨p, _, _, rfl, hs, rfl, p, _, _, rfl, hs, rfl, t, b, rfl, a0, by omega, rfl, ?_⟩
    rw [am.g]
    exact k
theorem bt_str : bootBuiltins "str" = some (.type "str") := by decide +kernel
end
theorem bl {c : Int} (h0 : 0 ≤ c := by decide) (h : c < 18446744073709551616 := by decide) : Bt 1000000 c := b6 (bt_lt 64 h0 h)
theorem bk {c : Int} (h0 : 0 ≤ c := by decide) (h : c < 18446744073709551616 := by decide) : Bt 1000 c := (bt_lt 64 h0 h).mono (by decide)
end K8

namespace K8
open PySem PySem.Spec PyProof.Rows L2 GM TM
/-- all but the object at a has stayed -/
def SmB (a : Addr) (H H' : Hp) : Prop := ∀ b o, b ≠ a → H b = some o → H' b = some o
theorem SmB.trans {a : Addr} {H H1 H2 : Hp} (h : SmB a H H1) (k : SmB a H1 H2) : SmB a H H2 := fun b o n e => k b o n (h b o n e)
theorem SmB.of {a : Addr} {H H' : Hp} (h : Same H H') : SmB a H H' := fun b o _ e => h b o e
theorem SmB.upd {a : Addr} {H : Hp} {o : HO} : SmB a H (upd H a o) := fun b u n e => by rw [upd_ne n]; exact e
/-- what is left of a cell: a number that is taken apart, or one that is mixed -/
def Lf (H : Hp) (a : Addr) : Prop := ∃ n fl : Int, H a = some (.lst [.int n, .int fl]) ∧ 0 ≤ n ∧ (fl = 0 ∨ (fl = 1 ∧ n < 2147483647))
theorem pick18 (k : Bool) : atI [V.int 1, V.int 8] (if k = true then 1 else 0) = some (V.int (if k = true then 8 else 1)) := by cases k <;> rfl
theorem pick8 (k : Bool) : -(2 ^ 62) ≤ (if k = true then (8 : Int) else 1) ∧ (if k = true then (8 : Int) else 1) < 2 ^ 62 ∧ (if k = true then (8 : Int) else 1).toNat ≤ 8 := by cases k <;> decide
def spCell (K : PySem.W.Frag) : Sp := fun vs H Q _ => ∃ (a : Addr) (ns : List Int) (k : Int), vs = [.ref a, .int k] ∧ SqL K H a (ns.map V.int) ∧ 0 ≤ k ∧ ∀ c : Int, Q (.int c) H
def spLeft (K : PySem.W.Frag) : Sp := fun vs H Q _ => ∃ (a : Addr) (ns : List Int) (k : Int), vs = [.ref a, .int k] ∧ SqL K H a (ns.map V.int) ∧ 0 ≤ k ∧ k ≤ 63 ∧ ∀ p H', Same H H' → H p = none → Lf H' p → Q (.ref p) H'
def spNext : Sp := fun vs H Q _ => ∃ (a : Addr) (m : Int), vs = [.ref a, .int m] ∧ Lf H a ∧ 1 ≤ m ∧ Bt 9000 m ∧ ∀ (d : Int) H', 0 ≤ d → d < m → SmB a H H' → Lf H' a → Q (.int d) H'
section
variable {P : Program} {w : World} {K : PySem.W.Frag} {mg : Str → Option Value} {base : Heap}
theorem scCell : FnScope ["_law_script", "_law_k"] ["_law_script", "_law_k"] (defScope sCell) := ⟨rfl, rfl, rfl, by decide +kernel, rfl, by decide +kernel, by decide +kernel⟩
theorem ok_cell {f : Addr} {fd : FuncData} (F : Fun K "_law_cell_at" "_law_cell_at" sCell f fd) (T : Txt mg) : FnOk P w K mg base CX0 1 f fd ["_law_script", "_law_k"] (spCell K) := by
  refine F.ok scCell (fun vs H Q E h => ?_) (fun cdv A outer s H vs Q E hr h => ?_)
  · obtain ⟨_, _, _, rfl, _⟩ := h
    rfl
  · obtain ⟨a, ns, j, rfl, hS, h0, k⟩ := h
    refine ⟨_, (pss_cons (ps_if (pt_cmpR op_lt (pv 1) (pe_callB call_len_seq rfl T.len PySem.boot_len (pa_cons (pv 0) pa_nil)) (nomark _))
        (pss_one (ps_ret (pe_ix ix_list (pv 0) (pv 1) (fun _ _ => rfl))))
        pss_nil)
      (pss_one (ps_ret pe_int))), ?_⟩
    refine ⟨_, rfl, _, rfl, a, _, rfl, .inl hS, _, _, rfl, rfl, _, rfl, ite2 (fun hc => ?_) (fun _ => k _)⟩
    have hc' : j < ((ns.map V.int).length : Int) := of_decide_eq_true hc
    rw [List.length_map] at hc'
    obtain ⟨i, rfl⟩ := Int.eq_ofNat_of_zero_le h0
    obtain ⟨c, hc⟩ : ∃ c, ns[i]? = some c := ⟨_, List.getElem?_eq_getElem (show i < ns.length by omega)⟩
    exact ⟨_, rfl, _, rfl, a, _, (i : Int), .int c, rfl, rfl, hS, atI_nat (by rw [List.getElem?_map, hc]; rfl), k c⟩
theorem bt_abs : bootBuiltins "abs" = some (.builtin "abs") := by decide +kernel
theorem scLeft : FnScope ["_law_script", "_law_k", "_law_cell", "_law_number"] ["_law_script", "_law_k"] (defScope sLeft) := ⟨rfl, rfl, rfl, by decide +kernel, rfl, by decide +kernel, by decide +kernel⟩
theorem ok_left {f : Addr} {fd : FuncData} (F : Fun K "_law_left" "_law_left" sLeft f fd) (T : Txt mg) (cC : Cal P w K mg base CX0 1 "_law_cell_at" ["_law_script", "_law_k"] (spCell K)) : FnOk P w K mg base CX0 2 f fd ["_law_script", "_law_k"] (spLeft K) := by
  refine F.ok scLeft (fun vs H Q E h => ?_) (fun cdv A outer s H vs Q E hr h => ?_)
  · obtain ⟨_, _, _, rfl, _⟩ := h
    rfl
  · obtain ⟨a, ns, j, rfl, hS, h0, h63, k⟩ := h
    refine ⟨_, (pss_cons (ps_set (i := 2) scLeft.nd rfl (Or.inl rfl) (pe_callB call_abs rfl T.abs' bt_abs (pa_cons (pe_cal cC hr rfl pass0 (pa_cons (pv 0) (pa_cons (pv 1) pa_nil))) pa_nil)))
      (pss_cons (ps_if (pt_cmpR op_eq (pe_op op_mod (pe_cal cC hr rfl pass0 (pa_cons (pv 0) (pa_cons pe_int pa_nil))) pe_int) pe_int (nomark _))
        (pss_one (ps_ret (pe_lst (pa_cons (pe_op op_fdivB (pv 2) (pe_op op_add pe_int (pe_callTy call_int1 rfl T.int' bt_int (pa_cons (pe_cmpR op_eq (pv 1) pe_int (nomark _)) pa_nil)))) (pa_cons pe_int pa_nil)))))
        pss_nil)
      (pss_cons (ps_set (i := 3) scLeft.nd rfl (Or.inl rfl) (pe_op op_mod (pe_op op_mulB (pe_op op_add (pe_op op_add (pe_op op_mod (pv 2) pe_int) (pe_op op_mulB (pe_op op_mulB pe_int (pv 1)) (pv 1))) pe_int) pe_int) pe_int))
      (pss_one (ps_ret (pe_lst (pa_cons (pe_op op_add (pe_op op_mod (pe_op op_mulB (pv 3) pe_int) pe_int) pe_int) (pa_cons pe_int pa_nil)))))))), ?_⟩
    refine ⟨_, rfl, _, rfl, a, ns, j, rfl, hS, h0, fun c => ⟨c, rfl, ?_⟩⟩
    have ha : 0 ≤ (if c < 0 then -c else c) := by split <;> omega
    generalize (if c < 0 then -c else c) = n at *
    refine ⟨_, rfl, a, ns, 0, rfl, hS, by decide, fun c' => ⟨_, _, rfl, rfl, (by show (0 : Int) < 2; decide), rfl, _, rfl, ite2 (fun _ => ?_) (fun _ => ?_)⟩⟩
    · refine ⟨_, rfl, _, rfl, rfl, .inr ⟨_, rfl, _, _, rfl, rfl, _, _, rfl, rfl, ⟨?_, ?_⟩, (by show 2 ≤ sizeLine; decide), fun z hz => ?_⟩⟩
      · split <;> decide
      · split <;> exact (bt_lt 64 (c := 4) (by decide) (by decide)).mono (by decide)
      · refine k z _ (Same.upd hz) hz ⟨_, 0, upd_same, Int.ediv_nonneg ha ?_, .inl rfl⟩
        split <;> decide
    · have bj : Bt 6 j := bt_lt 6 (c := 64) h0 (by omega)
      have p1 : Bt 70 (7919 * j) := (bt_lt 64 (x := 7919) (c := 7920) (by decide) (by decide)).mul bj
      have e1 := emod_in n (show (0 : Int) < 2147483647 by decide)
      have bs : Bt 1000000 (n % 2147483647 + 7919 * j * j + 1) := b6 ((((bt_lt 76 e1.1 e1.2).add (p1.mul bj)).add (bt_lt 77 (c := 2) (by decide) (by decide))))
      refine ⟨_, rfl, _, _, rfl, rfl, (by show (0 : Int) < 2147483647; decide), _, rfl, _, _, rfl, rfl, ⟨bl, b6 bj⟩, _, rfl, _, _, rfl, rfl, ⟨b6 p1, b6 bj⟩, _, _, rfl, rfl, _, _, rfl, rfl, _, _, rfl, rfl, ⟨bs, bl⟩, _, _, rfl, rfl, (by show (0 : Int) < 2147483647; decide), ?_⟩
      have e2 := emod_in ((n % 2147483647 + 7919 * j * j + 1) * 48271) (show (0 : Int) < 2147483647 by decide)
      refine ⟨_, rfl, _, _, rfl, rfl, ⟨b6 (bt_lt 64 e2.1 e2.2), bl⟩, _, _, rfl, rfl, (by show (0 : Int) < 2147483629; decide), _, _, rfl, rfl, (by show 2 ≤ sizeLine; decide), fun z hz => ?_⟩
      have e3 := emod_in ((n % 2147483647 + 7919 * j * j + 1) * 48271 % 2147483647 * 69621) (show (0 : Int) < 2147483629 by decide)
      exact k z _ (Same.upd hz) hz ⟨_, 1, upd_same, by omega, .inr ⟨rfl, by omega⟩⟩
theorem scNext : FnScope ["_law_left_here", "_law_many", "_law_digit", "_law_turn"] ["_law_left_here", "_law_many"] (defScope sNext) := ⟨rfl, rfl, rfl, by decide +kernel, rfl, by decide +kernel, by decide +kernel⟩
theorem ok_next {f : Addr} {fd : FuncData} (F : Fun K "_law_next" "_law_next" sNext f fd) (T : Txt mg) : FnOk P w K mg base CX0 1 f fd ["_law_left_here", "_law_many"] spNext := by
  refine F.ok scNext (fun vs H Q E h => ?_) (fun cdv A outer s H vs Q E hr h => ?_)
  · obtain ⟨_, _, rfl, _⟩ := h
    rfl
  · obtain ⟨a, m, rfl, ⟨n, fl, ha, n0, hf⟩, m1, bm, k⟩ := h
    refine ⟨_, (pss_cons (ps_if (pt_cmpR op_eq (pe_ix ix_list (pv 0) pe_int (fun _ _ => rfl)) pe_int (nomark _))
        (pss_cons (ps_set (i := 2) scNext.nd rfl (Or.inl rfl) (pe_op op_mod (pe_ix ix_list (pv 0) pe_int (fun _ _ => rfl)) (pv 1)))
      (pss_cons (ps_asg (pe_op op_fdivB (pe_ix ix_list (pv 0) pe_int (fun _ _ => rfl)) (pv 1)) (pg_sub (pv 0) pe_int set_list))
      (pss_one (ps_ret (pv 2)))))
        pss_nil)
      (pss_cons (ps_set (i := 2) scNext.nd rfl (Or.inl rfl) pe_int)
      (pss_cons (ps_for PassesOwn.never rfl (pi_range1 rfl T.range (pa_cons (pe_ix ix_list (pe_lst (pa_cons pe_int (pa_cons pe_int pa_nil))) (pe_callTy call_int1 rfl T.int' bt_int (pa_cons (pe_cmpR op_gt (pv 1) (pe_op op_powB pe_int pe_int) (nomark _)) pa_nil)) (fun _ _ => rfl)) pa_nil)) (pg_name (i := 3) scNext.nd rfl (Or.inl rfl))
        (pss_cons (ps_asg (pe_op op_mod (pe_op op_mulB (pe_ix ix_list (pv 0) pe_int (fun _ _ => rfl)) pe_int) pe_int) (pg_sub (pv 0) pe_int set_list))
      (pss_one (ps_set (i := 2) scNext.nd rfl (Or.inl rfl) (pe_op op_add (pe_op op_mulB (pv 2) pe_int) (pe_op op_mod (pe_op op_mulB (pe_ix ix_list (pv 0) pe_int (fun _ _ => rfl)) pe_int) pe_int))))))
      (pss_one (ps_ret (pe_op op_mod (pv 2) (pv 1))))))), ?_⟩
    refine ⟨_, rfl, a, _, 1, .int fl, rfl, rfl, SqL.of ha, atI_nat (j := 1) rfl, rfl, _, rfl, ite2 (fun hc => ?_) (fun hc => ?_)⟩
    · have hc' : fl = 0 := V.int.inj (of_decide_eq_true hc)
      refine ⟨_, rfl, a, _, 0, .int n, rfl, rfl, SqL.of ha, atI_nat (j := 0) rfl, _, rfl, _, _, rfl, rfl, (by show 0 < m; omega), ?_⟩
      refine ⟨_, rfl, a, _, 0, .int n, rfl, rfl, SqL.of ha, atI_nat (j := 0) rfl, _, rfl, _, _, rfl, rfl, ⟨by omega, bm⟩, _, rfl, a, _, 0, 0, rfl, rfl, ha, rfl, ?_⟩
      have e := emod_in n (show (0 : Int) < m by omega)
      exact ⟨_, rfl, k _ _ e.1 e.2 SmB.upd ⟨_, fl, upd_same, Int.ediv_nonneg n0 (by omega), .inl hc'⟩⟩
    · have hf' : fl = 1 ∧ n < 2147483647 := hf.resolve_left fun z => hc (decide_eq_true (by rw [z]))
      obtain ⟨rfl, nl⟩ := hf'
      refine ⟨(by show 2 ≤ sizeLine; decide), fun z hz => ⟨_, rfl, _, _, rfl, rfl, ⟨by decide, by decide, bk⟩, _, _, rfl, rfl, .inr ⟨_, rfl, z, _, _, _, rfl, rfl, SqL.of upd_same, pick18 _, _, rfl, (pick8 _).1, (pick8 _).2.1, ?_⟩⟩⟩
      refine for_range (fun i σ H' => ∃ (d n' : Int) (t : Option V), σ = [some (.ref a), some (.int m), some (.int d), t] ∧ 0 ≤ d ∧ Bt (32 * i + 1) d ∧ SmB a H H' ∧ H' a = some (.lst [.int n', .int 1]) ∧ 0 ≤ n' ∧ n' < 2147483647)
        ⟨0, n, none, rfl, by decide, bt_lt 1 (c := 1) (by decide) (by decide), .of (Same.upd hz), (Same.upd hz) _ _ ha, n0, nl⟩ ?_ ?_
      · rintro i σ H' hi ⟨d, n', t, rfl, d0, bd, sm, hA, a0, al⟩
        have hi8 := Nat.lt_of_lt_of_le hi (pick8 _).2.2
        have e1 := emod_in (n' * 16807) (show (0 : Int) < 2147483647 by decide)
        refine ⟨_, rfl, a, _, 0, .int n', rfl, rfl, SqL.of hA, atI_nat (j := 0) rfl, _, _, rfl, rfl, ⟨b6 (bt_lt 64 a0 al), bl⟩, _, _, rfl, rfl, (by show (0 : Int) < 2147483647; decide), _, rfl, a, _, 0, 0, rfl, rfl, hA, rfl, ?_⟩
        have e2 := emod_in (n' * 16807 % 2147483647 * 40692) (show (0 : Int) < 2147483629 by decide)
        refine ⟨_, rfl, _, _, rfl, rfl, ⟨b6 (bd.mono (show 32 * i + 1 ≤ 300 by omega)), bl⟩, _, rfl, a, _, 0, .int (n' * 16807 % 2147483647), rfl, rfl, SqL.of upd_same, atI_nat (j := 0) rfl, _, _, rfl, rfl, ⟨b6 (bt_lt 64 e1.1 e1.2), bl⟩, _, _, rfl, rfl, (by show (0 : Int) < 2147483629; decide), _, _, rfl, rfl, ?_⟩
        refine ⟨_, _, _, rfl, ?_, ?_, sm.trans SmB.upd, upd_same, e1.1, e1.2⟩
        · have := Int.mul_nonneg d0 (show (0 : Int) ≤ 2147483629 by decide)
          omega
        · have b1 : Bt (32 * i + 32) (d * 2147483629) := (bd.mul (bt_lt 31 (x := 2147483629) (c := 2147483630) (by decide) (by decide))).mono (by omega)
          exact (b1.add ((bt_lt 31 e2.1 e2.2).mono (by omega))).mono (by omega)
      · rintro σ H' ⟨d, n', t, rfl, d0, bd, sm, hA, a0, al⟩
        have e := emod_in d (show (0 : Int) < m by omega)
        exact ⟨_, rfl, _, rfl, _, _, rfl, rfl, (by show 0 < m; omega), k _ _ e.1 e.2 sm ⟨n', 1, hA, a0, .inr ⟨rfl, al⟩⟩⟩
end
end K8

namespace L2
open PySem PySem.Spec PyProof.Rows PySem.W
section
variable {X : Cx}
theorem mt_find : MtR X "str.find" (fun z vs H Q => ∃ x y, z = .str x ∧ vs = [.str y] ∧ Q (.int (Txt.find x y)) H) := by
  intro pins s σ H z vs v us Q I rx rv h
  obtain ⟨x, y, rfl, rfl, q⟩ := h
  obtain ⟨t, rfl⟩ := rx
  obtain ⟨u, rfl, tu, rfl⟩ := rv.one
  refine call_gives PySem.F.slot_str_find (typeIs_str _ _ _) PySem.F.entry_str_find (PySem.F.args_str_find_2 _ _) (gives_str_find x y t tu) ?_
  exact ⟨.int _, H, I.tok _, ⟨_, rfl⟩, q⟩
end
end L2
namespace TM
open PySem PySem.Spec PyProof.Rows PySem.W
/-- j unlike things of a list: it is that long -/
theorem pigeon {α : Type} [BEq α] [LawfulBEq α] (f : Nat → α) : ∀ (j : Nat) (l : List α), (∀ i, i < j → f i ∈ l) → (∀ i k, i < j → k < j → f i = f k → i = k) → j ≤ l.length := by
  intro j
  induction j with
  | zero =>
    intro l _ _
    exact Nat.zero_le _
  | succ j ih =>
    intro l hm hi
    have h1 := hm j (Nat.lt_succ_self _)
    have := ih (l.erase (f j)) (fun i hij => (List.mem_erase_of_ne (fun e => by
      have := hi i j (by omega) (by omega) e
      omega)).mpr (hm i (by omega))) (fun i k a b e => hi i k (by omega) (by omega) e)
    rw [List.length_erase_of_mem h1] at this
    have : 0 < l.length := List.length_pos_of_mem h1
    omega
/-- the letter j places on, round the 26 -/
def rd (c j : Nat) : Nat := 97 + (c - 97 + j) % 26
theorem rd_in (c j : Nat) : 97 ≤ rd c j ∧ rd c j ≤ 122 := by
  unfold rd
  omega
theorem rd_zero {c : Nat} (h : 97 ≤ c ∧ c ≤ 122) : rd c 0 = c := by
  unfold rd
  omega
theorem rd_next (c j : Nat) : rd (rd c j) 1 = rd c (j + 1) := by
  unfold rd
  omega
theorem rd_inj {c i k : Nat} (hi : i < 26) (hk : k < 26) (e : rd c i = rd c k) : i = k := by
  unfold rd at e
  omega
abbrev LET : Str := "abcdefghijklmnopqrstuvwxyz"
theorem find_let {c : Nat} (h : 97 ≤ c ∧ c ≤ 122) : Txt.find LET ⟨#[c]⟩ = ((c - 97 : Nat) : Int) := by
  have all : ∀ k : Fin 26, Txt.find LET ⟨#[97 + k.val]⟩ = ((k.val : Nat) : Int) := by decide +kernel
  have := all ⟨c - 97, by omega⟩
  simp only at this
  rw [show 97 + (c - 97) = c by omega] at this
  exact this
theorem at_let {j : Nat} (h : j < 26) : (cps LET)[j]? = some (97 + j) := by
  have all : ∀ k : Fin 26, (cps LET)[k.val]? = some (97 + k.val) := by decide +kernel
  exact all ⟨j, h⟩
end TM

namespace K8
open PySem PySem.Spec PyProof.Rows L2 GM TM
theorem Lf.keep {H H' : Hp} {a : Addr} (h : Lf H a) (s : Same H H') : Lf H' a := by
  obtain ⟨n, fl, e, r⟩ := h
  exact ⟨n, fl, s _ _ e, r⟩
/-- a drawn amount: its bottom goes into 27720 times the large one -/
theorem lenC (x : Str) : x.length = (cps x).length := by simp [Str.length, cps]
theorem lenA (x y : Str) : (x ++ y).length = x.length + y.length := by rw [lenC, cps_append', List.length_append, ← lenC, ← lenC]
theorem sz1000 {n : Nat} (h : n ≤ 1000) : n ≤ sizeLine := Nat.le_trans h (by decide)
theorem slice_tail {x : Str} (h : 1 ≤ x.length) : cps (Txt.slice x (some 1) none) = (cps x).drop 1 := by
  have e : Txt.slice x (some 1) none = StrLaws.sliceText x (some 1) none := rfl
  rw [e, StrLaws.sliceText_from ⟨by decide, by rw [← lenC]; omega⟩]
  simp [cps]
  exact List.take_of_length_le (by simp)
/-- a ware's name: one to eight small letters -/
structure Wr (x : Str) : Prop where
  l1 : 1 ≤ x.length
  l8 : x.length ≤ 8
  lt : ∀ c ∈ cps x, 97 ≤ c ∧ c ≤ 122
theorem in_strs {x : Str} {ws : List Str} : inV (.str x) (ws.map V.str) = true ↔ x ∈ ws := by
  unfold inV
  rw [List.any_map, List.any_eq_true]
  constructor
  · rintro ⟨y, hy, e⟩
    have : y = x := by simpa [eqV] using e
    exact this ▸ hy
  · intro h
    exact ⟨x, h, by simp [eqV]⟩
theorem flat_strs (ws : List Str) : (ws.map V.str).all flatV = true := by
  rw [List.all_map, List.all_eq_true]
  intro x _
  rfl
theorem wide_in (j : Nat) (h : j < 4) : ∃ m : Int, ([V.int 26, V.int 2, V.int 26, V.int 3])[j]? = some (V.int m) ∧ 1 ≤ m ∧ m ≤ 26 := by
  have : j = 0 ∨ j = 1 ∨ j = 2 ∨ j = 3 := by omega
  rcases this with rfl | rfl | rfl | rfl
  · exact ⟨26, rfl, by decide, by decide⟩
  · exact ⟨2, rfl, by decide, by decide⟩
  · exact ⟨26, rfl, by decide, by decide⟩
  · exact ⟨3, rfl, by decide, by decide⟩
theorem SmB.own {a p : Addr} {H H' : Hp} {o : HO} (h : SmB a H H') (n : H p = none) : SmB a H (L2.upd H' p o) := fun b u nb e => by
  have ne : b ≠ p := fun z => by rw [z, n] at e; cases e
  rw [upd_ne ne]
  exact h b u nb e
theorem Lf.there {H : Hp} {a b : Addr} (h : Lf H a) (n : H b = none) : b ≠ a := fun z => by
  obtain ⟨_, _, e, _⟩ := h
  rw [← z, n] at e
  cases e
theorem Lf.own {H : Hp} {a p : Addr} {o : HO} (h : Lf H a) (n : p ≠ a) : Lf (upd H p o) a := by
  obtain ⟨m, fl, e, r⟩ := h
  exact ⟨m, fl, by rw [upd_ne (Ne.symm n)]; exact e, r⟩
theorem nodup_snoc {ws : List Str} {x : Str} (h : ws.Nodup) (n : x ∉ ws) : (ws ++ [x]).Nodup := by
  rw [List.nodup_append]
  refine ⟨h, by simp, fun y hy z hz e => ?_⟩
  rw [List.mem_singleton.mp hz] at e
  exact n (e ▸ hy)
def spNames : Sp := fun vs H Q _ => ∃ (a : Addr) (m : Int), vs = [.ref a, .int m] ∧ Lf H a ∧ 0 ≤ m ∧ m ≤ 20 ∧ ∀ (ws : List Str) p H', (ws.length : Int) = m → ws.Nodup → (∀ x ∈ ws, Wr x) → SmB a H H' → Lf H' a → H p = none → H' p = some (.lst (ws.map V.str)) → Q (.ref p) H'
section
variable {P : Program} {w : World} {K : PySem.W.Frag} {mg : Str → Option Value} {base : Heap}
theorem scNames : FnScope ["_law_left_here", "_law_many", "_law_letters", "_law_wide", "_law_names_here", "_law_k", "_law_word", "_law_j"] ["_law_left_here", "_law_many"] (defScope sNames) := ⟨rfl, rfl, rfl, by decide +kernel, rfl, by decide +kernel, by decide +kernel⟩
theorem ok_names {f : Addr} {fd : FuncData} (F : Fun K "_law_names" "_law_names" sNames f fd) (T : Txt mg) (cN : Cal P w K mg base CX0 1 "_law_next" ["_law_left_here", "_law_many"] spNext) : FnOk P w K mg base CX0 2 f fd ["_law_left_here", "_law_many"] spNames := by
  refine F.ok scNames (fun vs H Q E h => ?_) (fun cdv A outer s H vs Q E hr h => ?_)
  · obtain ⟨_, _, rfl, _⟩ := h
    rfl
  · obtain ⟨a, m, rfl, lf, m0, m20, k⟩ := h
    refine ⟨_, (pss_cons (ps_set (i := 2) scNames.nd rfl (Or.inl rfl) pe_str)
      (pss_cons (ps_set (i := 3) scNames.nd rfl (Or.inl rfl) (pe_ix ix_list (pe_lst (pa_cons pe_int (pa_cons pe_int (pa_cons pe_int (pa_cons pe_int pa_nil))))) (pe_cal cN hr rfl pass0 (pa_cons (pv 0) (pa_cons pe_int pa_nil))) (fun _ _ => rfl)))
      (pss_cons (ps_set (i := 4) scNames.nd rfl (Or.inl rfl) (pe_lst pa_nil))
      (pss_cons (ps_for PassesOwn.never rfl (pi_range1 rfl T.range (pa_cons (pv 1) pa_nil)) (pg_name (i := 5) scNames.nd rfl (Or.inl rfl))
        (pss_cons (ps_set (i := 6) scNames.nd rfl (Or.inl rfl) pe_str)
        (pss_cons (ps_for PassesOwn.never rfl (pi_range1 rfl T.range (pa_cons (pe_op op_add pe_int (pe_cal cN hr rfl pass0 (pa_cons (pv 0) (pa_cons pe_int pa_nil)))) pa_nil)) (pg_name (i := 7) scNames.nd rfl (Or.inl rfl))
          (pss_one (ps_set (i := 6) scNames.nd rfl (Or.inl rfl) (pe_op op_add_str (pv 6) (pe_ix ix_str (pv 2) (pe_cal cN hr rfl pass0 (pa_cons (pv 0) (pa_cons (pv 3) pa_nil))) (fun _ _ => rfl))))))
        (pss_cons (ps_while PassesOwn.never (pt_cmpR op_in_seq (pv 6) (pv 4) rfl)
          (pss_one (ps_set (i := 6) scNames.nd rfl (Or.inl rfl) (pe_op op_add_str (pe_ix ix_str (pv 2) (pe_op op_mod (pe_op op_add (pe_bm PySem.F.plainAttrs_str PySem.F.slot_str_find PySem.F.type_str_find mt_find (pv 2) (pa_cons (pe_ix ix_str (pv 6) pe_int (fun _ _ => rfl)) pa_nil)) pe_int) pe_int) (fun _ _ => rfl)) (pe_slice sl_str (pv 6) (po_some pe_int) po_none)))))
        (pss_one (ps_expr (pe_bm PySem.F.plainAttrs_list PySem.F.slot_list_append PySem.F.type_list_append mt_append (pv 4) (pa_cons (pv 6) pa_nil))))))))
      (pss_one (ps_ret (pv 4))))))), ?_⟩
    have bs : ∀ {i : Int}, 0 ≤ i → i < 100 → Bt 9000 i := fun h0 h => bt_lt 9000 (c := 100) h0 h
    have zL : LET.length ≤ sizeLine := by decide +kernel
    refine ⟨(by show 4 ≤ sizeLine; decide), fun z hz => ⟨_, rfl, a, 4, rfl, lf.keep (Same.upd hz), by decide, bs (by decide) (by decide), fun d H1 d0 dl s1 lf1 => ?_⟩⟩
    have za : z ≠ a := lf.there hz
    obtain ⟨dn, rfl⟩ := Int.eq_ofNat_of_zero_le d0
    obtain ⟨wd, hw, w1, w26⟩ := wide_in dn (by omega)
    refine ⟨z, _, (dn : Int), .int wd, rfl, rfl, SqL.of (s1 z _ za upd_same), atI_nat hw, (by show 0 ≤ sizeLine; decide), fun p hp => ?_⟩
    have pa : p ≠ a := lf1.there hp
    have s01 : SmB a H H1 := (SmB.of (Same.upd hz)).trans s1
    have pn : H p = none := by
      cases e : H p with
      | none => rfl
      | some o =>
        have := s01 p o pa e
        rw [hp] at this
        cases this
    refine ⟨_, rfl, m, rfl, by omega, by omega, ?_⟩
    refine for_range (fun i σ H' => ∃ (ws : List Str) (v5 v6 v7 : Option V), σ = [some (.ref a), some (.int m), some (.str LET), some (.int wd), some (.ref p), v5, v6, v7] ∧ ws.length = i ∧ ws.Nodup ∧ (∀ x ∈ ws, Wr x) ∧ SmB a H H' ∧ Lf H' a ∧ H' p = some (.lst (ws.map V.str)))
      ⟨[], none, none, none, rfl, rfl, List.nodup_nil, (fun _ h => nomatch h), s01.own pn, lf1.own pa, upd_same⟩ ?_ ?_
    · rintro i σ H2 hi ⟨ws, v5, v6, v7, rfl, wl, nd, wr, s2, lf2, hp2⟩
      refine ⟨_, rfl, a, 8, rfl, lf2, by decide, bs (by decide) (by decide), fun e H3 e0 el s3 lf3 => ⟨_, _, rfl, rfl, 1 + e, rfl, by omega, by omega, ?_⟩⟩
      refine for_range (fun j σ H' => ∃ (x : Str) (v7 : Option V), σ = [some (.ref a), some (.int m), some (.str LET), some (.int wd), some (.ref p), some (.int (0 + i)), some (.str x), v7] ∧ x.length = j ∧ (∀ c ∈ cps x, 97 ≤ c ∧ c ≤ 122) ∧ SmB a H H' ∧ Lf H' a ∧ H' p = some (.lst (ws.map V.str)))
        ⟨"", v7, rfl, rfl, (fun _ h => nomatch h), s2.trans s3, lf3, s3 _ _ pa hp2⟩ ?_ ?_
      · rintro j σ H4 hj ⟨x, u7, rfl, xl, xc, s4, lf4, hp4⟩
        refine ⟨_, rfl, _, rfl, _, rfl, _, rfl, a, wd, rfl, lf4, w1, bs (by omega) (by omega), fun g H5 g0 gl s5 lf5 => ?_⟩
        obtain ⟨gn, rfl⟩ := Int.eq_ofNat_of_zero_le g0
        have lx : x.length ≤ 8 := by omega
        refine ⟨LET, (gn : Int), 97 + gn, rfl, rfl, zL, atI_nat (at_let (by omega)), _, _, rfl, rfl, sz1000 (by show x.length + 1 ≤ 1000; omega), ?_⟩
        refine ⟨_, _, rfl, ?_, fun c hc => ?_, s4.trans s5, lf5, s5 _ _ pa hp4⟩
        · rw [lenA, xl]
          rfl
        · rw [cps_append'] at hc
          rcases List.mem_append.mp hc with h | h
          · exact xc c h
          · have : c = 97 + gn := by simpa [cps] using h
            omega
      · rintro σ H4 ⟨x, u7, rfl, xl, xc, s4, lf4, hp4⟩
        have wx : Wr x := ⟨by omega, by omega, xc⟩
        obtain ⟨c0, r, ec⟩ : ∃ c0 r, cps x = c0 :: r := List.exists_cons_of_ne_nil fun z => by
          have := wx.l1
          rw [lenC, z] at this
          cases this
        have hc0 := xc c0 (by rw [ec]; exact List.mem_cons_self ..)
        refine ⟨fun mm σ H' => ∃ (y : Str) (jj : Nat), σ = [some (.ref a), some (.int m), some (.str LET), some (.int wd), some (.ref p), some (.int (0 + i)), some (.str y), u7] ∧ H' = H4 ∧ Wr y ∧ mm = 26 - jj ∧ jj < 26 ∧ cps y = rd c0 jj :: r ∧ ∀ q, q < jj → ∃ u ∈ ws, cps u = rd c0 q :: r,
          ⟨26, x, 0, rfl, rfl, wx, rfl, by decide, by rw [rd_zero hc0]; exact ec, fun q h => absurd h (by omega)⟩, ?_⟩
        rintro mm σ H5 ⟨y, jj, rfl, rfl, wy, rfl, j26, ey, hq⟩
        have zy : y.length ≤ sizeLine := sz1000 (by have := wy.l8; omega)
        refine ⟨_, rfl, _, rfl, p, _, rfl, .inl (SqL.of hp4), rfl, flat_strs ws, _, rfl, ite2 (fun hin => ?_) (fun hno => ?_)⟩
        · have hin' : y ∈ ws := in_strs.mp hin
          have pg : jj + 1 ≤ (ws.map cps).length := by
            refine pigeon (fun q => rd c0 q :: r) (jj + 1) (ws.map cps) (fun q hq' => ?_) (fun q1 q2 h1 h2 e => ?_)
            · by_cases z : q = jj
              · exact List.mem_map.mpr ⟨y, hin', by rw [ey, z]⟩
              · obtain ⟨u, hu, eu⟩ := hq q (by omega)
                exact List.mem_map.mpr ⟨u, hu, eu⟩
            · injection e with e1 _
              exact rd_inj (by omega) (by omega) e1
          rw [List.length_map] at pg
          have hr1 := rd_in c0 jj
          have fd : Txt.find LET ⟨#[rd c0 jj]⟩ = ((rd c0 jj - 97 : Nat) : Int) := find_let hr1
          refine ⟨_, fun σ' H' h => h, ?_⟩
          refine ⟨_, rfl, _, rfl, rfl, _, rfl, y, 0, rd c0 jj, rfl, rfl, zy, (by show atI (cps y) 0 = some _; rw [ey]; exact atI_nat (j := 0) rfl), LET, ⟨#[rd c0 jj]⟩, rfl, rfl, _, _, rfl, rfl, _, _, rfl, rfl, (by show (0 : Int) < 26; decide), LET, _, rd (rd c0 jj) 1, rfl, rfl, zL, ?_, ?_⟩
          · rw [fd, show (((rd c0 jj - 97 : Nat) : Int) + 1) % 26 = (((rd c0 jj - 97 + 1) % 26 : Nat) : Int) by omega]
            exact atI_nat (at_let (Nat.mod_lt _ (by decide)))
          · have ls := PyProof.Txt.length_slice_le y (some 1) none
            have l8 := wy.l8
            have ct : cps (Txt.slice y (some 1) none) = r := by rw [slice_tail wy.l1, ey]; rfl
            have cn : cps ((⟨#[rd (rd c0 jj) 1]⟩ : Str) ++ Txt.slice y (some 1) none) = rd c0 (jj + 1) :: r := by
              rw [cps_append', ct, rd_next]
              rfl
            refine ⟨_, rfl, _, rfl, y, rfl, zy, _, _, rfl, rfl, sz1000 (by show 1 + _ ≤ 1000; omega), 26 - (jj + 1), by omega, _, jj + 1, rfl, rfl, ⟨?_, ?_, fun c hc => ?_⟩, rfl, by omega, cn, fun q hq' => ?_⟩
            · rw [lenC, cn]
              exact Nat.succ_le_succ (Nat.zero_le _)
            · rw [lenC, cn]
              have : y.length = (cps y).length := lenC y
              rw [ey] at this
              simp at this ⊢
              omega
            · rw [cn] at hc
              rcases List.mem_cons.mp hc with h | h
              · rw [h]
                exact rd_in _ _
              · exact xc c (by rw [ec]; exact List.mem_cons_of_mem _ h)
            · by_cases z : q = jj
              · exact ⟨y, hin', by rw [ey, z]⟩
              · exact hq q (by omega)
        · have hno' : y ∉ ws := fun z => hno (in_strs.mpr z)
          refine ⟨_, rfl, .inl ⟨rfl, _, SqL.of hp4⟩, _, rfl, p, _, _, rfl, rfl, hp4, small1000 (by rw [List.length_map]; omega), ?_⟩
          refine ⟨ws ++ [y], _, _, _, rfl, by rw [List.length_append, wl]; rfl, nodup_snoc nd hno', fun x hx => ?_, s4.own pn, lf4.own pa, by rw [List.map_append]; exact upd_same⟩
          rcases List.mem_append.mp hx with h | h
          · exact wr x h
          · rw [List.mem_singleton.mp h]
            exact wy
    · rintro σ H2 ⟨ws, v5, v6, v7, rfl, wl, nd, wr, s2, lf2, hp2⟩
      exact ⟨_, rfl, k ws p H2 (by omega) nd wr s2 lf2 pn hp2⟩
end
end K8

namespace K8
open PySem PySem.Spec PyProof.Rows L2 GM TM
/-- a pair (ware, amount) -/
def Pr (H : Hp) (v : V) (x : Str × Int × Int) : Prop := ∃ p q, v = .ref p ∧ H p = some (.tup [.str x.1, .ref q]) ∧ H q = some (.tup [.int x.2.1, .int x.2.2])
theorem Pr.keep {H H' : Hp} {v : V} {x : Str × Int × Int} (h : Pr H v x) (k : Tk H H') : Pr H' v x := by
  obtain ⟨p, q, e, h1, h2⟩ := h
  exact ⟨p, q, e, k _ _ h1, k _ _ h2⟩
inductive PrL (H : Hp) : List V → List (Str × Int × Int) → Prop where
  | nil : PrL H [] []
  | cons {v x vs xs} : Pr H v x → PrL H vs xs → PrL H (v :: vs) (x :: xs)
theorem PrL.keep {H H' : Hp} {vs : List V} {xs : List (Str × Int × Int)} (h : PrL H vs xs) (k : Tk H H') : PrL H' vs xs := by
  induction h with
  | nil => exact .nil
  | cons p _ ih => exact .cons (p.keep k) ih
theorem PrL.snoc {H : Hp} {vs : List V} {xs : List (Str × Int × Int)} {v : V} {x : Str × Int × Int} (h : PrL H vs xs) (p : Pr H v x) : PrL H (vs ++ [v]) (xs ++ [x]) := by
  induction h with
  | nil => exact .cons p .nil
  | cons q _ ih => exact .cons q ih
theorem PrL.length {H : Hp} {vs : List V} {xs : List (Str × Int × Int)} (h : PrL H vs xs) : vs.length = xs.length := by
  induction h with
  | nil => rfl
  | cons _ _ ih => simp [ih]
section
variable {P : Program} {w : World} {K : PySem.W.Frag} {mg : Str → Option Value} {base : Heap}
end
end K8

namespace GM
/-- t over b, in lowest terms, is N over M -/
structure Fr (M t b N : Int) : Prop where
  am : Amt t b
  e : t * M = N * b
theorem Fr.of {M t b : Int} (am : Amt t b) (d : b ∣ M) : Fr M t b (t * (M / b)) := ⟨am, by rw [Int.mul_assoc, Int.ediv_mul_cancel d]⟩
theorem Fr.zero {M : Int} : Fr M 0 1 0 := ⟨amt_one (by decide), by simp⟩
theorem Fr.plus {M t1 b1 N1 t2 b2 N2 : Int} (h1 : Fr M t1 b1 N1) (h2 : Fr M t2 b2 N2) : Fr M ((t1 * b2 + t2 * b1) / G (t1 * b2 + t2 * b1) (b1 * b2)) (b1 * b2 / G (t1 * b2 + t2 * b1) (b1 * b2)) (N1 + N2) := by
  have a1 := h1.am.b1
  have a2 := h2.am.b1
  have n1 := Int.mul_nonneg h1.am.t0 (show 0 ≤ b2 by omega)
  have n2 := Int.mul_nonneg h2.am.t0 (show 0 ≤ b1 by omega)
  have hb : 1 ≤ b1 * b2 := by
    have := Int.mul_le_mul a1 a2 (by decide) (by omega)
    omega
  refine ⟨low_amt (by omega) hb, ?_⟩
  have crs := low_cross (t1 * b2 + t2 * b1) (b1 * b2)
  generalize (t1 * b2 + t2 * b1) / G (t1 * b2 + t2 * b1) (b1 * b2) = x at *
  generalize b1 * b2 / G (t1 * b2 + t2 * b1) (b1 * b2) = y at *
  refine Int.eq_of_mul_eq_mul_right (show b1 * b2 ≠ 0 by omega) ?_
  calc x * M * (b1 * b2) = (x * (b1 * b2)) * M := by rw [Int.mul_assoc, Int.mul_comm M, ← Int.mul_assoc]
    _ = ((t1 * b2 + t2 * b1) * y) * M := by rw [crs]
    _ = ((t1 * M) * b2 + (t2 * M) * b1) * y := by
      rw [Int.mul_right_comm, Int.add_mul, Int.mul_right_comm t1, Int.mul_right_comm t2]
    _ = ((N1 * b1) * b2 + (N2 * b2) * b1) * y := by rw [h1.e, h2.e]
    _ = (N1 + N2) * y * (b1 * b2) := by
      rw [Int.mul_right_comm (N1 + N2), Int.add_mul N1, Int.mul_assoc N1, Int.mul_assoc N2, Int.mul_comm b2 b1]
theorem Fr.uniq {M t b N t' b' : Int} (hM : 0 < M) (h : Fr M t b N) (h' : Fr M t' b' N) : t = t' ∧ b = b' := by
  have c : t' * b = t * b' := by
    refine Int.eq_of_mul_eq_mul_right (show M ≠ 0 by omega) ?_
    calc t' * b * M = (t' * M) * b := by rw [Int.mul_right_comm]
      _ = (N * b') * b := by rw [h'.e]
      _ = (N * b) * b' := by rw [Int.mul_right_comm]
      _ = t * M * b' := by rw [h.e]
      _ = t * b' * M := by rw [Int.mul_right_comm]
  obtain ⟨e1, e2⟩ := low_unique h.am.t0 h.am.b1 h'.am c
  rw [h.am.g, Int.ediv_one] at e1 e2
  exact ⟨e1, e2⟩
theorem Fr.nonneg {M t b N : Int} (hM : 0 < M) (h : Fr M t b N) : 0 ≤ N := by
  have a1 := h.am.b1
  have n1 := Int.mul_nonneg h.am.t0 (show 0 ≤ M by omega)
  rw [h.e] at n1
  by_cases z : 0 ≤ N
  · exact z
  · have := Int.mul_neg_of_neg_of_pos (show N < 0 by omega) (show 0 < b by omega)
    omega
theorem Fr.dvd {M t b N : Int} (h : Fr M t b N) : b ∣ M := by
  have d : b ∣ M * t := ⟨N, by rw [Int.mul_comm M, h.e, Int.mul_comm]⟩
  have g : Int.gcd b t = 1 := by
    have := h.am.g
    unfold G at this
    rw [Int.gcd_comm]
    omega
  have d' : b.natAbs ∣ M.natAbs * t.natAbs := by
    rw [← Int.natAbs_mul]
    exact Int.natAbs_dvd_natAbs.mpr d
  have c : Nat.Coprime b.natAbs t.natAbs := g
  exact Int.natAbs_dvd_natAbs.mp (c.dvd_of_dvd_mul_right d')
theorem Fr.nought {M t b N : Int} (hM : 0 < M) (h : Fr M t b N) : N = 0 ↔ t = 0 := by
  have a1 := h.am.b1
  constructor
  · intro z
    have := h.e
    rw [z, Int.zero_mul] at this
    rcases Int.mul_eq_zero.mp this with q | q
    · exact q
    · omega
  · intro z
    have := h.e
    rw [z, Int.zero_mul] at this
    rcases Int.mul_eq_zero.mp this.symm with q | q
    · exact q
    · omega
end GM

namespace K8
open PySem PySem.Spec PyProof.Rows L2 GM TM
/-- two amounts handed in, the second one in the heap -/
structure Two (K : PySem.W.Frag) (H : Hp) (p q : Addr) (t1 b1 t2 b2 : Int) : Prop where
  sp : SqT K H p [.int t1, .int b1]
  sq : H q = some (.tup [.int t2, .int b2])
  ht1 : 0 ≤ t1
  hb1 : 1 ≤ b1
  am : Amt t2 b2
  st1 : Bt 4000 t1
  sb1 : Bt 4000 b1
  st2 : Bt 4000 t2
  sb2 : Bt 4000 b2
def spPlus (K : PySem.W.Frag) : Sp := fun vs H Q _ => ∃ (p q : Addr) (t1 b1 t2 b2 : Int), vs = [.ref p, .ref q] ∧ Two K H p q t1 b1 t2 b2 ∧
  RetT H Q [(t1 * b2 + t2 * b1) / G (t1 * b2 + t2 * b1) (b1 * b2), (b1 * b2) / G (t1 * b2 + t2 * b1) (b1 * b2)]
theorem PrL.get {H : Hp} {vs : List V} {xs : List (Str × Int × Int)} (h : PrL H vs xs) : ∀ {i : Nat} {v : V}, vs[i]? = some v → ∃ x, xs[i]? = some x ∧ Pr H v x := by
  induction h with
  | nil => intro i v e; simp at e
  | cons p _ ih =>
    intro i v e
    cases i with
    | zero => cases e; exact ⟨_, rfl, p⟩
    | succ i => exact ih (by simpa using e)
/-- a pair's number over M -/
def nOf (M : Int) (x : Str × Int × Int) : Int := x.2.1 * (M / x.2.2)
def sumN (M : Int) (xs : List (Str × Int × Int)) : Int := (xs.map (nOf M)).sum
theorem sumN_snoc {M : Int} {xs : List (Str × Int × Int)} {i : Nat} {x : Str × Int × Int} (h : xs[i]? = some x) : sumN M (xs.take (i + 1)) = sumN M (xs.take i) + nOf M x := by
  unfold sumN
  rw [List.take_add_one, h, List.map_append, List.sum_append]
  simp
theorem frSmall {M t b N : Int} (hM : 0 < M) (h : Fr M t b N) : t ≤ N ∧ b ≤ M := by
  have hb := Int.le_of_dvd hM h.dvd
  refine ⟨?_, hb⟩
  have n0 := h.nonneg hM
  have := Int.mul_le_mul_of_nonneg_left hb n0
  rw [← h.e] at this
  exact Int.le_of_mul_le_mul_right this hM
/-- pairs whose bottoms go into M -/
def Over (M : Int) (xs : List (Str × Int × Int)) : Prop := ∀ x ∈ xs, Amt x.2.1 x.2.2 ∧ x.2.2 ∣ M
def spWholeM (K : PySem.W.Frag) : Sp := fun vs H Q _ => ∃ (m : Addr) (us : List V) (xs : List (Str × Int × Int)) (M : Int), vs = [.ref m] ∧ SqT K H m us ∧ PrL H us xs ∧ Over M xs ∧ 0 < M ∧ Bt 3000 M ∧ (∀ i, Bt 3000 (sumN M (xs.take i))) ∧
  ∀ (f : Addr) (t b : Int) H', Same H H' → SqT K H' f [.int t, .int b] → Fr M t b (sumN M xs) → Q (.ref f) H'
def spOfWare (K : PySem.W.Frag) (aN : Addr) : Sp := fun vs H Q _ => ∃ (m : Addr) (us : List V) (xs : List (Str × Int × Int)) (y : Str), vs = [.ref m, .str y] ∧ SqT K H m us ∧ PrL H us xs ∧
  (∀ (x : Str × Int × Int) (q : Addr), x ∈ xs → x.1 = y → SqT K H q [.int x.2.1, .int x.2.2] → Q (.ref q) H) ∧ ((∀ x ∈ xs, x.1 ≠ y) → Q (.ref aN) H)
section
variable {P : Program} {w : World} {K : PySem.W.Frag} {mg : Str → Option Value} {base : Heap}
theorem Two.botS {K : PySem.W.Frag} {H : Hp} {p q : Addr} {t1 b1 t2 b2 : Int} (T : Two K H p q t1 b1 t2 b2) : 1 ≤ b1 * b2 ∧ Bt 8000 (b1 * b2) := by
  have := Int.mul_le_mul T.hb1 T.am.b1 (by decide) (by have := T.hb1; omega)
  exact ⟨by omega, T.sb1.mul T.sb2⟩
theorem scPlus : FnScope ["one", "other"] ["one", "other"] (defScope sPlus) := ⟨rfl, rfl, rfl, by decide +kernel, rfl, by decide +kernel, by decide +kernel⟩
theorem ok_plus {f aN : Addr} {fd : FuncData} (F : Fun K "plus" "plus" sPlus f fd) (mN : mg "NOUGHT" = some (.ref aN)) (sN : ∀ H : Hp, SqT K H aN [.int 0, .int 1]) (cL : Cal P w K mg base CX0 2 "lowest_terms" ["top", "bottom"] spLow) : FnOk P w K mg base CX0 3 f fd ["one", "other"] (spPlus K) := by
  refine F.ok scPlus (fun vs H Q E h => ?_) (fun cdv A outer s H vs Q E hr h => ?_)
  · obtain ⟨_, _, _, _, _, _, rfl, _⟩ := h
    rfl
  · obtain ⟨p, q, t1, b1, t2, b2, rfl, T, k⟩ := h
    refine ⟨_, pss_cons (ps_if (pt_cmpR (op_eqI hr.units) (pv 0) (pe_glob (v := .ref aN) rfl mN rfl) (nomark _)) (pss_one (ps_ret (pv 1))) pss_nil)
      (pss_one (ps_ret (pe_cal cL hr rfl pass0 (pa_cons (pe_op op_add (pe_op op_mulB (pit 0 0) (pit 1 1)) (pe_op op_mulB (pit 1 0) (pit 0 1))) (pa_cons (pe_op op_mulB (pit 0 1) (pit 1 1)) pa_nil))))), ?_⟩
    have bs := T.botS
    have hs := SqT.of (K := K) T.sq
    have m1 := Int.mul_nonneg T.ht1 (show 0 ≤ b2 by have := T.am.b1; omega)
    have m2 := Int.mul_nonneg T.am.t0 (show 0 ≤ b1 by have := T.hb1; omega)
    have a0 := T.am.t0
    have a1 := T.am.b1
    refine ⟨_, rfl, p, aN, [t1, b1], [0, 1], rfl, rfl, T.sp, sN H, _, rfl, ite2 (fun hc => ?_) (fun _ => ?_)⟩
    · have e := of_decide_eq_true hc
      injection e with e1 e
      injection e with e2 e
      subst e1 e2
      refine ⟨_, rfl, ?_⟩
      have u := low_unique (t := 0 * b2 + t2 * 1) (b := 1 * b2) (by omega) (by omega) T.am (by rw [Int.zero_mul, Int.zero_add, Int.one_mul, Int.mul_one])
      rw [u.1, u.2] at k
      exact k q H (Same.refl H) T.sq
    · refine ⟨p, _, _, rfl, T.sp, rfl, q, _, _, rfl, hs, rfl, _, _, rfl, rfl, ⟨b6 T.st1, b6 T.sb2⟩, q, _, _, rfl, hs, rfl, p, _, _, rfl, T.sp, rfl, _, _, rfl, rfl, ⟨b6 T.st2, b6 T.sb1⟩, _, _, rfl, rfl, ?_⟩
      exact ⟨p, _, _, rfl, T.sp, rfl, q, _, _, rfl, hs, rfl, _, _, rfl, rfl, ⟨b6 T.sb1, b6 T.sb2⟩, _, _, rfl, by omega, bs.1, bs.2.mono (by decide), k⟩
theorem scWholeM : FnScope ["one", "found", "ware", "part"] ["one"] (defScope sWholeM) := ⟨rfl, rfl, rfl, by decide +kernel, rfl, by decide +kernel, by decide +kernel⟩
theorem ok_wholem {f aN : Addr} {fd : FuncData} (F : Fun K "whole" "whole" sWholeM f fd) (mN : mg "NOUGHT" = some (.ref aN)) (sN : ∀ H : Hp, SqT K H aN [.int 0, .int 1]) (cP : Cal P w K mg base CX0 3 "plus" ["one", "other"] (spPlus K)) : FnOk P w K mg base CX0 4 f fd ["one"] (spWholeM K) := by
  refine F.ok scWholeM (fun vs H Q E h => ?_) (fun cdv A outer s H vs Q E hr h => ?_)
  · obtain ⟨_, _, _, _, rfl, _⟩ := h
    rfl
  · obtain ⟨m, us, xs, M, rfl, hm, pr, ov, M0, bM, bS, k⟩ := h
    refine ⟨_, (pss_cons (ps_set (i := 1) scWholeM.nd rfl (Or.inl rfl) (pe_glob (v := .ref aN) rfl mN rfl))
      (pss_cons (ps_for PassesOwn.never rfl (pi_tup (pv 0)) (pg_tup rfl (pgs_cons (pg_name (i := 2) scWholeM.nd rfl (Or.inl rfl)) (pgs_cons (pg_name (i := 3) scWholeM.nd rfl (Or.inl rfl)) pgs_nil)))
        (pss_one (ps_set (i := 1) scWholeM.nd rfl (Or.inl rfl) (pe_cal cP hr rfl pass0 (pa_cons (pv 1) (pa_cons (pv 3) pa_nil))))))
      (pss_one (ps_ret (pv 1))))), ?_⟩
    refine ⟨_, rfl, m, rfl, ⟨_, hm⟩, ?_⟩
    refine for_tup (xs := us) (fun i σ H' => ∃ (g : Addr) (t b : Int) (v2 v3 : Option V), σ = [some (.ref m), some (.ref g), v2, v3] ∧ SqT K H' g [.int t, .int b] ∧ Fr M t b (sumN M (xs.take i)) ∧ Same H H')
      ⟨aN, 0, 1, none, none, rfl, sN H, Fr.zero, Same.refl H⟩ ?_ ?_ ?_
    · rintro i σ H' hi ⟨_, _, _, _, _, rfl, _, _, s2⟩
      exact s2.tup hm
    · rintro i v σ H2 hv ⟨g, t, b, v2, v3, rfl, hg, fr, s2⟩
      obtain ⟨x, hx, p, q, rfl, h1, h2⟩ := pr.get hv
      refine ⟨p, _, rfl, SqT.of (s2 _ _ h1), rfl, _, _, rfl, _, _, rfl, rfl, ?_⟩
      obtain ⟨am, dv⟩ := ov x (List.mem_of_getElem? hx)
      have frx : Fr M x.2.1 x.2.2 (nOf M x) := Fr.of am dv
      have sm := frSmall M0 fr
      have smx := frSmall M0 frx
      have n1 := fr.nonneg M0
      have n2 := frx.nonneg M0
      have fb := fr.am
      have bN := bS i
      have bN1 := bS (i + 1)
      rw [sumN_snoc hx] at bN1
      have bx : Bt 3000 (nOf M x) := bN1.le n2 (by omega)
      refine ⟨_, rfl, _, rfl, g, q, t, b, x.2.1, x.2.2, rfl, ⟨hg, s2 _ _ h2, fb.t0, fb.b1, am, (bN.le fb.t0 sm.1).mono (by decide), (bM.le (by have := fb.b1; omega) sm.2).mono (by decide), (bx.le am.t0 smx.1).mono (by decide), (bM.le (by have := am.b1; omega) smx.2).mono (by decide)⟩, fun r H3 s3 h3 => ?_⟩
      refine ⟨r, _, _, _, _, rfl, SqT.of h3, ?_, s2.trans s3⟩
      rw [sumN_snoc hx]
      exact fr.plus frx
    · rintro σ H2 ⟨g, t, b, v2, v3, rfl, hg, fr, s2⟩
      rw [pr.length, List.take_length] at fr
      exact ⟨_, rfl, k g t b H2 s2 hg fr⟩
theorem scOfWare : FnScope ["one", "ware", "there", "part"] ["one", "ware"] (defScope sOfWare) := ⟨rfl, rfl, rfl, by decide +kernel, rfl, by decide +kernel, by decide +kernel⟩
theorem ok_ofware {f aN : Addr} {fd : FuncData} (F : Fun K "of_ware" "of_ware" sOfWare f fd) (mN : mg "NOUGHT" = some (.ref aN)) : FnOk P w K mg base CX0 1 f fd ["one", "ware"] (spOfWare K aN) := by
  refine F.ok scOfWare (fun vs H Q E h => ?_) (fun cdv A outer s H vs Q E hr h => ?_)
  · obtain ⟨_, _, _, _, rfl, _⟩ := h
    rfl
  · obtain ⟨m, us, xs, y, rfl, hm, pr, kF, kN⟩ := h
    refine ⟨_, (pss_cons (ps_for PassesOwn.never rfl (pi_tup (pv 0)) (pg_tup rfl (pgs_cons (pg_name (i := 2) scOfWare.nd rfl (Or.inl rfl)) (pgs_cons (pg_name (i := 3) scOfWare.nd rfl (Or.inl rfl)) pgs_nil)))
        (pss_one (ps_if (pt_cmpR op_eq (pv 2) (pv 1) (nomark _)) (pss_one (ps_ret (pv 3))) pss_nil)))
      (pss_one (ps_ret (pe_glob (v := .ref aN) rfl mN rfl)))), ?_⟩
    refine ⟨_, rfl, m, rfl, ⟨_, hm⟩, ?_⟩
    refine for_tup (xs := us) (fun i σ H' => ∃ (v2 v3 : Option V), σ = [some (.ref m), some (.str y), v2, v3] ∧ (∀ x ∈ xs.take i, x.1 ≠ y) ∧ H' = H)
      ⟨none, none, rfl, (fun _ h => by simp at h), rfl⟩ ?_ ?_ ?_
    · rintro i σ H' hi ⟨_, _, rfl, _, rfl⟩
      exact hm
    · rintro i v σ H2 hv ⟨v2, v3, rfl, no, rfl⟩
      obtain ⟨x, hx, p, q, rfl, h1, h2⟩ := pr.get hv
      refine ⟨p, _, rfl, SqT.of h1, rfl, _, _, rfl, _, _, rfl, rfl, ?_⟩
      refine ⟨_, rfl, _, rfl, rfl, _, rfl, ite2 (fun hc => ?_) (fun hc => ?_)⟩
      · exact ⟨_, rfl, kF x q (List.mem_of_getElem? hx) (V.str.inj (of_decide_eq_true hc)) (SqT.of h2)⟩
      · refine ⟨_, _, rfl, fun z hz => ?_, rfl⟩
        rw [List.take_add_one, hx] at hz
        rcases List.mem_append.mp hz with q | q
        · exact no z q
        · have : z = x := by simpa using q
          rw [this]
          exact fun e => hc (decide_eq_true (by rw [e]))
    · rintro σ H2 ⟨v2, v3, rfl, no, rfl⟩
      rw [pr.length, List.take_length] at no
      exact kN no
end
end K8

namespace K8
open PySem PySem.Spec PyProof.Rows L2 GM TM
/-! ### sorted texts -/
theorem sorted_pw : ∀ {ss : List Str}, sortedS ss = true → ss.Pairwise (fun a b => a.cps.toList ≤ b.cps.toList)
  | [], _ => .nil
  | x :: r, h => by
    have key : ∀ (r : List Str) (x : Str), risingS x r = true → (∀ y ∈ r, x.cps.toList ≤ y.cps.toList) ∧ r.Pairwise (fun a b => a.cps.toList ≤ b.cps.toList) := by
      intro r
      induction r with
      | nil => intro x _; exact ⟨(fun _ h => nomatch h), .nil⟩
      | cons y r ih =>
        intro x hx
        have hx' : (!ltCps y.cps.toList x.cps.toList && risingS y r) = true := hx
        simp only [Bool.and_eq_true, Bool.not_eq_true'] at hx'
        obtain ⟨h1, h2⟩ := hx'
        rw [ltCps_eq] at h1
        have le : x.cps.toList ≤ y.cps.toList := List.not_lt.mp (of_decide_eq_false h1)
        obtain ⟨i1, i2⟩ := ih y h2
        refine ⟨fun z hz => ?_, .cons i1 i2⟩
        rcases List.mem_cons.mp hz with rfl | hz
        · exact le
        · exact List.le_trans le (i1 z hz)
    obtain ⟨k1, k2⟩ := key r x h
    exact .cons k1 k2
/-! ### sums by wares -/
def NW (M : Int) (xs : List (Str × Int × Int)) (y : Str) : Int := sumN M (xs.filter fun x => decide (x.1 = y))
theorem NW_snoc {M : Int} {xs : List (Str × Int × Int)} {i : Nat} {x : Str × Int × Int} (h : xs[i]? = some x) (y : Str) : NW M (xs.take (i + 1)) y = NW M (xs.take i) y + (if x.1 = y then nOf M x else 0) := by
  unfold NW sumN
  rw [List.take_add_one, h, List.filter_append, List.map_append, List.sum_append]
  congr 1
  by_cases e : x.1 = y
  · simp [e]
  · simp [e]
theorem NW_none {M : Int} {xs : List (Str × Int × Int)} {y : Str} (h : y ∉ xs.map (·.1)) : NW M xs y = 0 := by
  unfold NW
  rw [List.filter_eq_nil_iff.mpr (fun x hx e => h (List.mem_map.mpr ⟨x, hx, of_decide_eq_true e⟩))]
  rfl
theorem sumN_nonneg {M : Int} {xs : List (Str × Int × Int)} (hM : 0 < M) (h : Over M xs) : 0 ≤ sumN M xs := by
  induction xs with
  | nil => exact Int.le_refl _
  | cons x r ih =>
    have h1 := ih fun y hy => h y (List.mem_cons_of_mem _ hy)
    have h2 := (Fr.of (h x List.mem_cons_self).1 (h x List.mem_cons_self).2).nonneg hM
    show 0 ≤ ((x :: r).map (nOf M)).sum
    rw [List.map_cons, List.sum_cons]
    exact Int.add_nonneg h2 h1
theorem sumN_sub {M : Int} (hM : 0 < M) (p : Str × Int × Int → Bool) : ∀ {xs : List (Str × Int × Int)}, Over M xs → sumN M (xs.filter p) ≤ sumN M xs
  | [], _ => Int.le_refl _
  | x :: r, h => by
    have h1 := sumN_sub hM p (xs := r) fun y hy => h y (List.mem_cons_of_mem _ hy)
    have h2 := (Fr.of (h x List.mem_cons_self).1 (h x List.mem_cons_self).2).nonneg hM
    have e2 : sumN M (x :: r) = nOf M x + sumN M r := by unfold sumN; rw [List.map_cons, List.sum_cons]
    rw [e2]
    cases hp : p x with
    | true =>
      rw [List.filter_cons_of_pos hp]
      have e1 : sumN M (x :: r.filter p) = nOf M x + sumN M (r.filter p) := by unfold sumN; rw [List.map_cons, List.sum_cons]
      rw [e1]
      exact Int.add_le_add_left h1 _
    | false =>
      rw [List.filter_cons_of_neg (by rw [hp]; exact Bool.false_ne_true)]
      have : 0 ≤ nOf M x := h2
      omega
theorem sumN_take {M : Int} (hM : 0 < M) : ∀ {xs : List (Str × Int × Int)} (i : Nat), Over M xs → sumN M (xs.take i) ≤ sumN M xs
  | [], i, _ => by rw [List.take_nil]; exact Int.le_refl _
  | x :: r, 0, h => sumN_nonneg hM h
  | x :: r, i + 1, h => by
    have h1 := sumN_take hM (xs := r) i fun y hy => h y (List.mem_cons_of_mem _ hy)
    have e2 : sumN M (x :: r) = nOf M x + sumN M r := by unfold sumN; rw [List.map_cons, List.sum_cons]
    have e1 : sumN M (x :: r.take i) = nOf M x + sumN M (r.take i) := by unfold sumN; rw [List.map_cons, List.sum_cons]
    rw [List.take_succ_cons, e1, e2]
    exact Int.add_le_add_left h1 _
theorem Over.take {M : Int} {xs : List (Str × Int × Int)} (h : Over M xs) (i : Nat) : Over M (xs.take i) := fun x hx => h x (List.mem_of_mem_take hx)
theorem Over.filter {M : Int} {xs : List (Str × Int × Int)} (h : Over M xs) (p : Str × Int × Int → Bool) : Over M (xs.filter p) := fun x hx => h x (List.mem_filter.mp hx).1
theorem NW_le {M : Int} (hM : 0 < M) {xs : List (Str × Int × Int)} (h : Over M xs) (i : Nat) (y : Str) : 0 ≤ NW M (xs.take i) y ∧ NW M (xs.take i) y ≤ sumN M xs :=
  ⟨sumN_nonneg hM ((h.take i).filter _), Int.le_trans (sumN_sub hM _ (h.take i)) (sumN_take hM i h)⟩
/-- the mixture of some pairs -/
def IsMix (M : Int) (xs ys : List (Str × Int × Int)) : Prop := ∃ ks : List Str, sortedS ks = true ∧ ks.Nodup ∧ (∀ y, y ∈ ks ↔ y ∈ xs.map (·.1)) ∧ ys.map (·.1) = ks.filter (fun y => decide (NW M xs y ≠ 0)) ∧ ∀ p ∈ ys, Fr M p.2.1 p.2.2 (NW M xs p.1)
theorem pairs_eq {M : Int} (hM : 0 < M) {f : Str → Int} : ∀ {ys zs : List (Str × Int × Int)}, ys.map (·.1) = zs.map (·.1) → (∀ p ∈ ys, Fr M p.2.1 p.2.2 (f p.1)) → (∀ p ∈ zs, Fr M p.2.1 p.2.2 (f p.1)) → ys = zs
  | [], [], _, _, _ => rfl
  | [], _ :: _, e, _, _ => by simp at e
  | _ :: _, [], e, _, _ => by simp at e
  | (w1, t1, b1) :: ys, (w2, t2, b2) :: zs, e, h1, h2 => by
    simp only [List.map_cons, List.cons.injEq] at e
    obtain ⟨e1, e2⟩ := e
    subst e1
    have a1 := h1 _ List.mem_cons_self
    have a2 := h2 _ List.mem_cons_self
    obtain ⟨u1, u2⟩ := Fr.uniq hM a1 a2
    simp only at u1 u2
    subst u1 u2
    rw [pairs_eq hM e2 (fun p hp => h1 p (List.mem_cons_of_mem _ hp)) (fun p hp => h2 p (List.mem_cons_of_mem _ hp))]
/-! ### dicts by wares -/
structure DK (kvs : List (Key × V)) (ks : List Str) : Prop where
  keys : kvs.map (·.1) = ks.map Sum.inr
  nd : ks.Nodup
theorem DK.nil : DK [] [] := ⟨rfl, .nil⟩
theorem DK.len {kvs : List (Key × V)} {ks : List Str} (h : DK kvs ks) : kvs.length = ks.length := by
  have := congrArg List.length h.keys
  rwa [List.length_map, List.length_map] at this
theorem DK.get {kvs : List (Key × V)} {ks : List Str} (h : DK kvs ks) (y : Str) : (valV kvs (Sum.inr y)).isSome = true ↔ y ∈ ks := by
  rw [← valV_any, List.any_eq_true]
  constructor
  · rintro ⟨kv, hm, e⟩
    have e' : kv.1 = Sum.inr y := of_decide_eq_true e
    have : kv.1 ∈ ks.map Sum.inr := by rw [← h.keys]; exact List.mem_map.mpr ⟨kv, hm, rfl⟩
    obtain ⟨z, hz, ez⟩ := List.mem_map.mp this
    rw [e'] at ez
    cases ez
    exact hz
  · intro hy
    have : Sum.inr y ∈ kvs.map (·.1) := by rw [h.keys]; exact List.mem_map.mpr ⟨y, hy, rfl⟩
    obtain ⟨kv, hm, e⟩ := List.mem_map.mp this
    exact ⟨kv, hm, decide_eq_true e⟩
theorem DK.put {kvs : List (Key × V)} {ks : List Str} (h : DK kvs ks) (y : Str) (v : V) : ∃ ks', DK (putK kvs (Sum.inr y) v) ks' ∧ (∀ z, z ∈ ks' ↔ z ∈ ks ∨ z = y) ∧ ks'.length ≤ ks.length + 1 := by
  unfold putK
  split
  · rename_i hany
    have hy : y ∈ ks := (h.get y).mp (by rw [← valV_any]; exact hany)
    refine ⟨ks, ⟨?_, h.nd⟩, fun z => ⟨.inl, fun q => q.elim id fun e => e ▸ hy⟩, Nat.le_succ _⟩
    rw [← h.keys, List.map_map]
    refine List.map_congr_left fun kv _ => ?_
    show (if kv.1 = Sum.inr y then (kv.1, v) else kv).1 = kv.1
    split <;> rfl
  · rename_i hany
    have hy : y ∉ ks := fun q => hany (by rw [valV_any]; exact (h.get y).mpr q)
    refine ⟨ks ++ [y], ⟨by rw [List.map_append, List.map_append, h.keys]; rfl, ?_⟩, fun z => by simp, by simp⟩
    exact List.nodup_append.mpr ⟨h.nd, by simp, fun a ha b hb e => hy (by rw [List.mem_singleton.mp hb] at e; exact e ▸ ha)⟩
end K8

namespace K8
open PySem PySem.Spec PyProof.Rows L2 GM TM
/-- the sums of the first pairs, as numbers -/
def DN (M : Int) (xs : List (Str × Int × Int)) (kvs : List (Key × V)) (ks : List Str) : Prop := DK kvs ks ∧ (∀ y, y ∈ ks ↔ y ∈ xs.map (·.1)) ∧ ∀ y, y ∈ ks → valV kvs (Sum.inr y) = some (.int (NW M xs y))
/-- the sums of the first pairs, as amounts in the heap -/
def DA (H : Hp) (M : Int) (xs : List (Str × Int × Int)) (kvs : List (Key × V)) (ks : List Str) : Prop := DK kvs ks ∧ (∀ y, y ∈ ks ↔ y ∈ xs.map (·.1)) ∧ ∀ y, y ∈ ks → ∃ (p : Addr) (t b : Int), valV kvs (Sum.inr y) = some (.ref p) ∧ H p = some (.tup [.int t, .int b]) ∧ Fr M t b (NW M xs y)
theorem DA.keep {H H' : Hp} {M : Int} {xs : List (Str × Int × Int)} {kvs : List (Key × V)} {ks : List Str} (h : DA H M xs kvs ks) (k : Tk H H') : DA H' M xs kvs ks := ⟨h.1, h.2.1, fun y hy => by
  obtain ⟨p, t, b, e1, e2, e3⟩ := h.2.2 y hy
  exact ⟨p, t, b, e1, k _ _ e2, e3⟩⟩
theorem wares_snoc {xs : List (Str × Int × Int)} {i : Nat} {x : Str × Int × Int} (h : xs[i]? = some x) (y : Str) : y ∈ (xs.take (i + 1)).map (·.1) ↔ y ∈ (xs.take i).map (·.1) ∨ y = x.1 := by
  rw [List.take_add_one, h, List.map_append, List.mem_append]
  simp
theorem DA.step {H : Hp} {M : Int} {xs : List (Str × Int × Int)} {kvs : List (Key × V)} {ks : List Str} {i : Nat} {x : Str × Int × Int} {r : Addr} {t b : Int} (hx : xs[i]? = some x) (h : DA H M (xs.take i) kvs ks) (hr : H r = some (.tup [.int t, .int b])) (fr : Fr M t b (NW M (xs.take i) x.1 + nOf M x)) :
    ∃ ks', DA H M (xs.take (i + 1)) (putK kvs (Sum.inr x.1) (.ref r)) ks' ∧ ks'.length ≤ ks.length + 1 := by
  obtain ⟨ks', d', m', l'⟩ := h.1.put x.1 (.ref r)
  refine ⟨ks', ⟨d', fun y => by rw [m', h.2.1, wares_snoc hx], fun y hy => ?_⟩, l'⟩
  rw [valV_put, NW_snoc hx]
  by_cases e : y = x.1
  · subst e
    rw [if_pos rfl, if_pos rfl]
    exact ⟨r, t, b, rfl, hr, fr⟩
  · rw [if_neg (fun z => e (Sum.inr.inj z)), if_neg (fun z => e z.symm), Int.add_zero]
    exact h.2.2 y (((m' y).mp hy).resolve_right e)
theorem Tk.dk {H : Hp} {l : Addr} {kvs : List (Key × V)} {o : HO} (h : H l = some (.dK kvs)) : Tk H (upd H l o) := fun b ys e => by
  have ne : b ≠ l := fun z => by rw [z, h] at e; cases e
  rw [upd_ne ne]
  exact e
def vTx : V → Str
  | .str s => s
  | _ => ""
/-- what a mixture's pair is -/
def MixP (M : Int) (xs : List (Str × Int × Int)) (x y : V) (H : Hp) : Prop := ∃ (p q : Addr) (t b : Int), y = .ref p ∧ H p = some (.tup [x, .ref q]) ∧ H q = some (.tup [.int t, .int b]) ∧ Fr M t b (NW M xs (vTx x))
theorem mix_list {M : Int} {xs : List (Str × Int × Int)} {H : Hp} : ∀ (ss : List Str) (ys : List V), ys.length = ss.length → (∀ (i : Nat) (x y : V), (ss.map V.str)[i]? = some x → ys[i]? = some y → MixP M xs x y H) → ∃ zs, PrL H ys zs ∧ zs.map (·.1) = ss ∧ ∀ p ∈ zs, Fr M p.2.1 p.2.2 (NW M xs p.1)
  | [], [], _, _ => ⟨[], .nil, rfl, (fun _ h => nomatch h)⟩
  | s :: ss, y :: ys, hl, h => by
    obtain ⟨zs, z1, z2, z3⟩ := mix_list ss ys (by simpa using hl) fun i x y hx hy => h (i + 1) x y (by simpa using hx) (by simpa using hy)
    obtain ⟨p, q, t, b, rfl, hp, hq, fr⟩ := h 0 (.str s) y rfl rfl
    refine ⟨(s, t, b) :: zs, .cons ⟨p, q, rfl, hp, hq⟩ z1, by rw [List.map_cons, z2], fun r hr => ?_⟩
    rcases List.mem_cons.mp hr with rfl | hr
    · exact fr
    · exact z3 r hr
  | [], _ :: _, hl, _ => by simp at hl
  | _ :: _, [], hl, _ => by simp at hl
theorem filt_str (p : V → Bool) (q : Str → Bool) (e : ∀ s, p (.str s) = q s) : ∀ ss : List Str, (ss.map V.str).filter p = (ss.filter q).map V.str
  | [] => rfl
  | s :: r => by
    rw [List.map_cons, List.filter_cons, List.filter_cons, e, filt_str p q e r]
    split <;> rfl
def spMixture (K : PySem.W.Frag) : Sp := fun vs H Q _ => ∃ (l : Addr) (us : List V) (xs : List (Str × Int × Int)) (M : Int), vs = [.ref l] ∧ SqL K H l us ∧ PrL H us xs ∧ xs.length ≤ 63 ∧ Over M xs ∧ 0 < M ∧ Bt 3000 M ∧ Bt 3000 (sumN M xs) ∧
  ∀ m zs ys H', Same H H' → H' m = some (.tup zs) → PrL H' zs ys → IsMix M xs ys → Q (.ref m) H'
section
variable {P : Program} {w : World} {K : PySem.W.Frag} {mg : Str → Option Value} {base : Heap}
theorem scMixture : FnScope ["pairs", "sums", "ware", "part"] ["pairs"] (defScope sMixture) := ⟨rfl, rfl, rfl, by decide +kernel, rfl, by decide +kernel, by decide +kernel⟩
theorem nd2 : (["ware", "sums"] : List Str).Nodup := by decide +kernel
theorem ok_mixture {f aN : Addr} {fd : FuncData} (F : Fun K "mixture" "mixture" sMixture f fd) (T : Txt mg) (mN : mg "NOUGHT" = some (.ref aN)) (sN : ∀ H : Hp, SqT K H aN [.int 0, .int 1]) (cP : Cal P w K mg base CX0 3 "plus" ["one", "other"] (spPlus K)) : FnOk P w K mg base CX0 4 f fd ["pairs"] (spMixture K) := by
  refine F.ok scMixture (fun vs H Q E h => ?_) (fun cdv A outer s H vs Q E hr h => ?_)
  · obtain ⟨_, _, _, _, rfl, _⟩ := h
    rfl
  · obtain ⟨l, us, xs, M, rfl, hl, pr, xl, ov, M0, bM, bS, k⟩ := h
    refine ⟨_, (pss_cons (ps_set (i := 1) scMixture.nd rfl (Or.inr rfl) pe_dnewK)
      (pss_cons (ps_for PassesOwn.never rfl (pi_list (pv 0)) (pg_tup rfl (pgs_cons (pg_name (i := 2) scMixture.nd rfl (Or.inl rfl)) (pgs_cons (pg_name (i := 3) scMixture.nd rfl (Or.inl rfl)) pgs_nil)))
        (pss_one (ps_dput (hu_of hr) (pv 1) (pv 2) (pe_cal cP hr rfl pass0 (pa_cons (pe_dget2 (hu_of hr) (pv 1) (pv 2) (pe_glob (v := .ref aN) rfl mN rfl) ⟨rfl, rfl, rfl, rfl⟩) (pa_cons (pv 3) pa_nil))) rfl)))
      (pss_one (ps_ret (pe_callTy call_tuple_of rfl T.tup' bt_tuple (pa_cons (pe_compC (N' := ["ware", "sums"]) (fun σ => [none, some 1].map fun t => t.bind fun j => (σ[j]?).join) rfl rfl (by decide +kernel) (by decide +kernel)
          (hk_of (sc := defScope sMixture) rfl (by decide +kernel)) (fun _ _ _ => blkN_by (sc := defScope sMixture) (N := ["pairs", "sums", "ware", "part"]) [none, some 1] rfl rfl rfl rfl (by decide +kernel))
          (pi_list (pe_callB (call_sortDS rfl) rfl T.sorted' boot_sorted (pa_cons (pv 1) pa_nil))) (fun _ _ _ _ _ _ => pg_name (i := 0) nd2 rfl (Or.inl rfl))
          (fun _ _ _ _ _ _ => pifs_one (pt_cmpR (op_neIK (K := K) rfl hr.units) (pe_dget (hu_of hr) (pv 1) (pv 0) (fun _ _ => rfl)) (pe_glob (v := .ref aN) rfl mN rfl) (nomark _)))
          (fun _ _ _ _ _ _ => pe_tup (pa_cons (pv 0) (pa_cons (pe_dget (hu_of hr) (pv 1) (pv 0) (fun _ _ => rfl)) pa_nil)))) pa_nil)))))), ?_⟩
    intro d hd
    have s1 : Same H (upd H d (.dK [])) := Same.upd hd
    refine ⟨_, rfl, l, rfl, ⟨_, s1.seq hl⟩, ?_⟩
    refine for_list (xs := us) (fun i σ H' => ∃ (kvs : List (Key × V)) (ks : List Str) (v4 v5 : Option V), σ = [some (.ref l), some (.ref d), v4, v5] ∧ Same H H' ∧ H' d = some (.dK kvs) ∧ DA H' M (xs.take i) kvs ks ∧ ks.length ≤ i)
      ⟨[], [], none, none, rfl, s1, upd_same, ⟨.nil, fun y => by simp, fun y hy => by simp at hy⟩, Nat.le_refl _⟩ ?_ ?_ ?_
    · rintro i σ H' _ ⟨_, _, _, _, rfl, sm, _⟩
      exact sm.seq hl
    · rintro i v σ H2 hv ⟨kvs, ks, v4, v5, rfl, s2, hd2, da, kl⟩
      obtain ⟨x, hx, p, q, rfl, h1, h2⟩ := pr.get hv
      have hi := (List.getElem?_eq_some_iff.mp hx).1
      have xm := List.mem_of_getElem? hx
      obtain ⟨am, dv⟩ := ov x xm
      have frx : Fr M x.2.1 x.2.2 (nOf M x) := Fr.of am dv
      obtain ⟨g, t, b, eg, hg, fr⟩ : ∃ (g : Addr) (t b : Int), (valV kvs (Sum.inr x.1)).getD (.ref aN) = .ref g ∧ SqT K H2 g [.int t, .int b] ∧ Fr M t b (NW M (xs.take i) x.1) := by
        by_cases hy : x.1 ∈ ks
        · obtain ⟨p, t, b, e1, e2, e3⟩ := da.2.2 _ hy
          exact ⟨p, t, b, by rw [e1]; rfl, SqT.of e2, e3⟩
        · have : valV kvs (Sum.inr x.1) = none := by
            cases e : valV kvs (Sum.inr x.1) with
            | none => rfl
            | some v => exact absurd ((da.1.get x.1).mp (by rw [e]; rfl)) hy
          refine ⟨aN, 0, 1, by rw [this]; rfl, sN _, ?_⟩
          rw [NW_none (fun z => hy ((da.2.1 _).mpr z))]
          exact Fr.zero
      have two : Two K H2 g q t b x.2.1 x.2.2 := by
        have nw := NW_le M0 ov i x.1
        have sm := frSmall M0 fr
        have smx := frSmall M0 frx
        have nx : nOf M x ≤ sumN M xs := by
          have e := sumN_snoc (M := M) hx
          have := sumN_take M0 (i + 1) ov
          have := sumN_nonneg M0 (ov.take i)
          omega
        exact ⟨hg, s2 _ _ h2, fr.am.t0, fr.am.b1, am, (bS.le fr.am.t0 (by omega)).mono (by decide), (bM.le (by have := fr.am.b1; omega) sm.2).mono (by decide), (bS.le am.t0 (by omega)).mono (by decide), (bM.le (by have := am.b1; omega) smx.2).mono (by decide)⟩
      refine ⟨p, _, rfl, SqT.of (s2 _ _ h1), rfl, _, _, rfl, _, _, rfl, rfl, ?_⟩
      refine ⟨_, rfl, d, rfl, .inl ⟨kvs, .inl hd2⟩, _, rfl, _, DGet.k (k := Sum.inr x.1) hd2, ?_⟩
      rw [eg]
      refine ⟨_, rfl, _, q, t, b, x.2.1, x.2.2, rfl, two, fun r H3 s3 h3 => ?_⟩
      obtain ⟨ks', da', kl'⟩ := (da.keep (Same.tk s3)).step hx h3 (fr.plus frx)
      have hd3 := s3 _ _ hd2
      refine ⟨_, rfl, _, rfl, d, _, rfl, DPut.k (k := Sum.inr x.1) hd3 (small1000 (by rw [da.1.len]; omega)), ?_⟩
      refine ⟨_, ks', _, _, rfl, fun b o hb => ?_, upd_same, da'.keep (Tk.dk hd3), by omega⟩
      rw [upd_ne (ne_of_none hb hd)]
      exact s3 _ _ (s2 _ _ hb)
    · rintro σ H2 ⟨kvs, ks, v4, v5, rfl, s2, hd2, da, kl⟩
      rw [pr.length, List.take_length] at da
      have kl2 : ks.length ≤ 63 := by have := pr.length; omega
      refine ⟨_, rfl, d, kvs, ks, rfl, hd2, da.1.keys, (by rw [da.1.len]; omega), fun a ss' pm so ha => ?_⟩
      have hd3 : upd H2 a (.lst (ss'.map V.str)) d = some (.dK kvs) := Same.upd ha _ _ hd2
      have da3 := da.keep (Same.tk (Same.upd ha (o := .lst (ss'.map V.str))))
      have sl : (ss'.map V.str).length = ss'.length := List.length_map ..
      have pl := pm.length_eq
      refine ⟨a, rfl, ⟨_, SqL.of upd_same⟩, fun D hD => ?_⟩
      refine comp_filt (Ys.list (SqL.of upd_same)) (fun v => decide (NW M xs (vTx v) ≠ 0)) (MixP M xs) ?_ hD (by omega) (fun i x H' R1 R2 hx sm h1 h2 => ?_) (fun ys H4 sm4 hD4 yl hy => ?_)
      · rintro x y H5 H6 ⟨p, q, t, b, e, hp, hq, fr⟩ tk
        exact ⟨p, q, t, b, e, tk _ _ hp, tk _ _ hq, fr⟩
      · rw [List.getElem?_map] at hx
        obtain ⟨c, hc, rfl⟩ := Option.map_eq_some_iff.mp hx
        obtain ⟨g, t, b, e1, e2, e3⟩ := da3.2.2 c (pm.mem_iff.mp (List.mem_of_getElem? hc))
        have hdd := sm _ _ hd3
        have e2' := sm _ _ e2
        have nz := e3.nought M0
        have gg : DGet H' d (.str c) (some (.ref g)) := by
          have := DGet.k (k := Sum.inr c) hdd
          rw [e1] at this
          exact this
        refine ⟨(Keep.refl _).set rfl, _, rfl, _, rfl, d, _, rfl, gg, g, aN, [t, b], [0, 1], rfl, rfl, SqT.of e2', sN _, _, rfl, ite2 (fun hf => ?_) (fun hf => ?_)⟩
        · have hn : NW M xs c ≠ 0 := fun z => by
            have t0 := nz.mp z
            rw [z, t0] at e3
            obtain ⟨_, u2⟩ := Fr.uniq M0 e3 Fr.zero
            rw [t0, u2] at hf
            exact absurd hf (by decide)
          refine ⟨_, rfl, _, rfl, _, rfl, d, _, rfl, gg, (show 2 ≤ sizeLine by decide +kernel), fun l' hl' => ?_⟩
          exact h1 (decide_eq_true hn) _ _ (Same.upd hl') ⟨l', g, t, b, rfl, upd_same, Same.upd hl' _ _ e2', e3⟩
        · have hn : NW M xs c = 0 := nz.mpr (by
            by_cases e : [t, b] = [0, 1]
            · injection e
            · exact absurd (by rw [decide_eq_false e]; rfl) hf)
          exact h2 (decide_eq_false fun z => z hn) _ (Same.refl _)
      · have ef := filt_str (fun v => decide (NW M xs (vTx v) ≠ 0)) (fun y => decide (NW M xs y ≠ 0)) (fun _ => rfl) ss'
        rw [ef] at yl hy
        obtain ⟨zs, z1, z2, z3⟩ := mix_list _ ys (by rw [yl, List.length_map]) hy
        refine ⟨D, ys, rfl, .inl ⟨SqL.of hD4, fun m hm => ?_⟩⟩
        have s5 : Same H4 (upd H4 m (.tup ys)) := Same.upd hm
        exact k m ys zs _ (((s2.trans (Same.upd ha)).trans sm4).trans s5) upd_same (z1.keep (Same.tk s5)) ⟨ss', so, pm.nodup_iff.mpr da.1.nd, fun y => by rw [pm.mem_iff, da.2.1], z2, z3⟩
end
end K8

namespace L2
open PySem PySem.Spec PyProof.Rows
variable {X : Cx}
/-! ### xs[::-1] of a list -/
def tRev (K : PySem.W.Frag) (te : TE) (tk : TO) : TE := fun σ H Q => te σ H fun x H1 => tk σ H1 fun st H2 => st = some (-1) ∧ ∃ a xs, x = .ref a ∧ SqL K H2 a xs ∧ ∀ p, H2 p = none → Q (.ref p) (upd H2 p (.lst xs.reverse))
/-! ### list(range(a, b)) -/
def tListRng (ta : TA) : TE := fun σ H Q => ta σ H fun vs H1 => ∃ i j : Int, vs = [.int i, .int j] ∧ (-(2 ^ 62) ≤ i ∧ i < 2 ^ 62 ∧ -(2 ^ 62) ≤ j ∧ j < 2 ^ 62) ∧ (j - i).toNat ≤ 1000 ∧ ∀ p, H1 p = none → Q (.ref p) (upd H1 p (.lst (rngV i (j - i).toNat)))
/-! ### list(d.values()) -/
def tListVals (td : TE) : TE := fun σ H Q => td σ H fun x H1 => ∃ a kvs, x = .ref a ∧ H1 a = some (.dK kvs) ∧ ∀ p, H1 p = none → Q (.ref p) (upd H1 p (.lst (kvs.map (·.2))))
end L2

namespace K8
open PySem PySem.Spec PyProof.Rows L2 GM TM
def dOf (x : Str × Int × Int) : Dt := .t [.s x.1, .t [.i x.2.1, .i x.2.2]]
theorem PrL.append {H : Hp} {vs us : List V} {xs ys : List (Str × Int × Int)} (h : PrL H vs xs) (k : PrL H us ys) : PrL H (vs ++ us) (xs ++ ys) := by
  induction h with
  | nil => exact k
  | cons p _ ih => exact .cons p ih
/-- the number of a fraction over M -/
theorem fr_nOf {M : Int} {x : Str × Int × Int} {N : Int} (h : Fr M x.2.1 x.2.2 N) : nOf M x = N := by
  have e := h.e
  obtain ⟨c, hc⟩ := h.dvd
  have b1 := h.am.b1
  unfold K8.nOf
  rw [hc, Int.mul_ediv_cancel_left _ (by omega)]
  rw [hc] at e
  have e2 : x.2.2 * (x.2.1 * c) = x.2.2 * N := by
    rw [Int.mul_comm _ N, ← e, ← Int.mul_assoc, ← Int.mul_assoc, Int.mul_comm x.2.2]
  exact Int.eq_of_mul_eq_mul_left (by omega) e2
theorem sum_if {y : Str} {n : Int} : ∀ {ks : List Str}, ks.Nodup → y ∈ ks → (ks.map fun k => if y = k then n else 0).sum = n
  | [], _, h => by simp at h
  | k :: ks, nd, h => by
    rw [List.map_cons, List.sum_cons]
    have nd' := List.nodup_cons.mp nd
    by_cases e : y = k
    · subst e
      rw [if_pos rfl]
      have : ∀ (ks : List Str), y ∉ ks → (ks.map fun k => if y = k then n else 0).sum = 0 := by
        intro ks
        induction ks with
        | nil => intro _; rfl
        | cons z r ih =>
          intro hz
          rw [List.map_cons, List.sum_cons, if_neg (fun e : y = z => hz (e ▸ List.mem_cons_self)), ih (fun q => hz (List.mem_cons_of_mem _ q))]
          rfl
      rw [this ks nd'.1]
      omega
    · rw [if_neg e, sum_if nd'.2 ((List.mem_cons.mp h).resolve_left e)]
      omega
theorem NW_cons {M : Int} {x : Str × Int × Int} {xs : List (Str × Int × Int)} (y : Str) : NW M (x :: xs) y = (if x.1 = y then nOf M x else 0) + NW M xs y := by
  unfold NW sumN
  by_cases e : x.1 = y
  · rw [List.filter_cons_of_pos (by simpa using e), if_pos e, List.map_cons, List.sum_cons]
  · rw [List.filter_cons_of_neg (by simpa using e), if_neg e]
    omega
theorem sum_add {f g : Str → Int} : ∀ (ks : List Str), (ks.map fun k => f k + g k).sum = (ks.map f).sum + (ks.map g).sum
  | [] => rfl
  | k :: r => by
    rw [List.map_cons, List.map_cons, List.map_cons, List.sum_cons, List.sum_cons, List.sum_cons, sum_add r]
    omega
theorem NW_sum {M : Int} {ks : List Str} (nd : ks.Nodup) : ∀ {xs : List (Str × Int × Int)}, (∀ x ∈ xs, x.1 ∈ ks) → (ks.map (NW M xs)).sum = sumN M xs
  | [], _ => by
    have : ∀ r : List Str, (r.map (NW M [])).sum = 0 := by
      intro r
      induction r with
      | nil => rfl
      | cons k r ih => rw [List.map_cons, List.sum_cons, ih]; rfl
    exact this ks
  | x :: xs, h => by
    have e : (ks.map (NW M (x :: xs))) = ks.map fun k => (if x.1 = k then nOf M x else 0) + NW M xs k := List.map_congr_left fun k _ => NW_cons k
    rw [e, sum_add, sum_if nd (h x List.mem_cons_self), NW_sum nd fun y hy => h y (List.mem_cons_of_mem _ hy)]
    unfold sumN
    rw [List.map_cons, List.sum_cons]
theorem filt_sum {f : Str → Int} : ∀ (ks : List Str), ((ks.filter fun y => decide (f y ≠ 0)).map f).sum = (ks.map f).sum
  | [] => rfl
  | k :: r => by
    by_cases e : f k = 0
    · rw [List.filter_cons_of_neg (by simpa using e), List.map_cons, List.sum_cons, filt_sum r, e]
      omega
    · rw [List.filter_cons_of_pos (by simpa using e), List.map_cons, List.map_cons, List.sum_cons, List.sum_cons, filt_sum r]
theorem IsMix.sum {M : Int} {xs ys : List (Str × Int × Int)} (h : IsMix M xs ys) : sumN M ys = sumN M xs := by
  obtain ⟨ks, _, nd, m, e, f⟩ := h
  rw [← NW_sum nd fun x hx => (m _).mpr (List.mem_map.mpr ⟨x, hx, rfl⟩), ← filt_sum, ← e]
  unfold sumN
  rw [List.map_map]
  refine congrArg List.sum (List.map_congr_left fun x hx => ?_)
  exact fr_nOf (f x hx)
theorem sumN_bound {M : Int} (hM : 0 < M) {T : Int} (hT : 0 ≤ T) : ∀ {xs : List (Str × Int × Int)}, (∀ x ∈ xs, Amt x.2.1 x.2.2 ∧ x.2.2 ∣ M ∧ x.2.1 ≤ T) → sumN M xs ≤ (xs.length : Int) * (T * M)
  | [], _ => by simp [sumN]
  | x :: r, h => by
    obtain ⟨am, dv, ht⟩ := h x List.mem_cons_self
    have ih := sumN_bound hM hT fun y hy => h y (List.mem_cons_of_mem _ hy)
    have b1 := am.b1
    have t0 := am.t0
    have q1 : M / x.2.2 ≤ M := Int.ediv_le_self _ (by omega)
    have q0 : 0 ≤ M / x.2.2 := Int.ediv_nonneg (by omega) (by omega)
    have q2 : x.2.1 * (M / x.2.2) ≤ T * M := Int.mul_le_mul ht q1 q0 hT
    have e2 : sumN M (x :: r) = x.2.1 * (M / x.2.2) + sumN M r := by unfold sumN; rw [List.map_cons, List.sum_cons]; rfl
    rw [e2, List.length_cons]
    have e3 : (((r.length + 1 : Nat)) : Int) * (T * M) = T * M + (r.length : Int) * (T * M) := by
      rw [show ((r.length + 1 : Nat) : Int) = (r.length : Int) + 1 by omega, Int.add_mul, Int.one_mul]
      omega
    rw [e3]
    omega
end K8

namespace K8
open PySem PySem.Spec PyProof.Rows L2 GM TM
abbrev leS (a b : Str) : Prop := a.cps.toList ≤ b.cps.toList
theorem pw_uniq {a b : List Str} (h : a.Perm b) (ha : a.Pairwise leS) (hb : b.Pairwise leS) : a = b :=
  h.eq_of_pairwise (le := leS) (fun x y _ _ h1 h2 => TM.ext (List.le_antisymm h1 h2)) ha hb
/-- ys is a mixture whose numbers over M are f's -/
structure IsMx (M : Int) (f : Str → Int) (ys : List (Str × Int × Int)) : Prop where
  pw : (ys.map (·.1)).Pairwise leS
  nd : (ys.map (·.1)).Nodup
  mem : ∀ y, y ∈ ys.map (·.1) ↔ f y ≠ 0
  fr : ∀ p ∈ ys, Fr M p.2.1 p.2.2 (f p.1)
theorem IsMx.of {M : Int} {xs ys : List (Str × Int × Int)} (h : IsMix M xs ys) : IsMx M (NW M xs) ys := by
  obtain ⟨ks, so, nd, mm, em, fr⟩ := h
  refine ⟨?_, ?_, fun y => ?_, fr⟩
  · rw [em]
    exact (sorted_pw so).filter _
  · rw [em]
    exact nd.filter _
  · rw [em, List.mem_filter]
    constructor
    · exact fun z => of_decide_eq_true z.2
    · intro z
      refine ⟨(mm y).mpr ?_, decide_eq_true z⟩
      by_cases hy : y ∈ xs.map (·.1)
      · exact hy
      · exact absurd (NW_none hy) z
theorem IsMx.congr {M : Int} {f g : Str → Int} {ys : List (Str × Int × Int)} (h : IsMx M f ys) (e : ∀ y, f y = g y) : IsMx M g ys := by
  have : f = g := funext e
  exact this ▸ h
theorem IsMx.uniq {M : Int} (hM : 0 < M) {f : Str → Int} {ys zs : List (Str × Int × Int)} (h : IsMx M f ys) (k : IsMx M f zs) : ys = zs := by
  have e : ys.map (·.1) = zs.map (·.1) := pw_uniq ((List.perm_ext_iff_of_nodup h.nd k.nd).mpr fun y => by rw [h.mem, k.mem]) h.pw k.pw
  exact pairs_eq hM e h.fr k.fr
theorem IsMx.over {M : Int} {f : Str → Int} {ys : List (Str × Int × Int)} (h : IsMx M f ys) : Over M ys := fun x hx => ⟨(h.fr x hx).am, (h.fr x hx).dvd⟩
/-- what a mixture's own pairs come to -/
theorem IsMx.nw {M : Int} {f : Str → Int} {ys : List (Str × Int × Int)} (h : IsMx M f ys) (y : Str) : NW M ys y = f y := by
  have key : ∀ (ys : List (Str × Int × Int)), (ys.map (·.1)).Nodup → (∀ p ∈ ys, Fr M p.2.1 p.2.2 (f p.1)) → NW M ys y = if y ∈ ys.map (·.1) then f y else 0 := by
    intro ys
    induction ys with
    | nil => intro _ _; rfl
    | cons x r ih =>
      intro nd fr
      rw [List.map_cons] at nd
      have nd' := List.nodup_cons.mp nd
      rw [NW_cons, ih nd'.2 fun p hp => fr p (List.mem_cons_of_mem _ hp)]
      by_cases e : x.1 = y
      · subst e
        rw [if_pos rfl, if_neg nd'.1, if_pos (by simp), fr_nOf (fr x List.mem_cons_self)]
        omega
      · rw [if_neg e]
        by_cases m : y ∈ r.map (·.1)
        · rw [if_pos m, if_pos (by rw [List.map_cons]; exact List.mem_cons_of_mem _ m)]
          omega
        · rw [if_neg m, if_neg (by
            rw [List.map_cons, List.mem_cons]
            rintro (z | z)
            · exact e z.symm
            · exact m z)]
          rfl
  rw [key ys h.nd h.fr]
  split
  · rfl
  · rename_i hn
    by_cases z : f y = 0
    · exact z.symm
    · exact absurd ((h.mem y).mpr z) hn
theorem IsMx.nil_iff {M : Int} (hM : 0 < M) {f : Str → Int} {ys : List (Str × Int × Int)} (h : IsMx M f ys) : ys = [] ↔ sumN M ys = 0 := by
  constructor
  · intro e
    subst e
    rfl
  · intro e
    cases ys with
    | nil => rfl
    | cons x r =>
      exfalso
      have e2 : sumN M (x :: r) = nOf M x + sumN M r := by unfold sumN; rw [List.map_cons, List.sum_cons]
      have n1 := sumN_nonneg hM (xs := r) fun y hy => h.over y (List.mem_cons_of_mem _ hy)
      have fx := h.fr x List.mem_cons_self
      have n2 := fx.nonneg hM
      have n3 := (h.mem x.1).mp (by simp)
      have n4 := fr_nOf fx
      omega
theorem NW_append {M : Int} (xs ys : List (Str × Int × Int)) (y : Str) : NW M (xs ++ ys) y = NW M xs y + NW M ys y := by
  unfold NW sumN
  rw [List.filter_append, List.map_append, List.sum_append]
theorem sumN_append {M : Int} (xs ys : List (Str × Int × Int)) : sumN M (xs ++ ys) = sumN M xs + sumN M ys := by
  unfold sumN
  rw [List.map_append, List.sum_append]
/-- brought: pair by pair, as the asked amount (ta over ba) is to the whole (N over M) -/
def Brt (M N ta ba : Int) : List (Str × Int × Int) → List (Str × Int × Int) → Prop
  | [], [] => True
  | x :: xs, z :: zs => z.1 = x.1 ∧ Fr (N * ba) z.2.1 z.2.2 (nOf M x * ta) ∧ Brt M N ta ba xs zs
  | _, _ => False
theorem Brt.names {M N ta ba : Int} : ∀ {ys zs : List (Str × Int × Int)}, Brt M N ta ba ys zs → zs.map (·.1) = ys.map (·.1)
  | [], [], _ => rfl
  | x :: xs, z :: zs, h => by rw [List.map_cons, List.map_cons, h.1, h.2.2.names]
  | [], _ :: _, h => h.elim
  | _ :: _, [], h => h.elim
theorem Brt.fr {M N ta ba : Int} {f : Str → Int} : ∀ {ys zs : List (Str × Int × Int)}, Brt M N ta ba ys zs → (∀ p ∈ ys, Fr M p.2.1 p.2.2 (f p.1)) → ∀ p ∈ zs, Fr (N * ba) p.2.1 p.2.2 (f p.1 * ta)
  | [], [], _, _ => (fun _ h => nomatch h)
  | x :: xs, z :: zs, h, k => fun p hp => by
    rcases List.mem_cons.mp hp with rfl | hp
    · have := h.2.1
      rw [fr_nOf (k x List.mem_cons_self), ← h.1] at this
      exact this
    · exact h.2.2.fr (fun q hq => k q (List.mem_cons_of_mem _ hq)) p hp
  | [], _ :: _, h, _ => h.elim
  | _ :: _, [], h, _ => h.elim
theorem Brt.mx {M N ta ba : Int} (h0 : ta ≠ 0) {f : Str → Int} {ys zs : List (Str × Int × Int)} (h : Brt M N ta ba ys zs) (k : IsMx M f ys) : IsMx (N * ba) (fun y => f y * ta) zs := by
  refine ⟨by rw [h.names]; exact k.pw, by rw [h.names]; exact k.nd, fun y => ?_, h.fr k.fr⟩
  rw [h.names, k.mem]
  constructor
  · exact fun z e => (Int.mul_eq_zero.mp e).elim z h0
  · exact fun z e => z (by rw [e, Int.zero_mul])
/-- a share of one pair -/
theorem fr_share {M N tp bp np tw bw ta ba : Int} (hM : 0 < M) (hN : 0 < N) (fp : Fr M tp bp np) (fw : Fr M tw bw N) (am : Amt ta ba) {ts bs : Int} (as : Amt ts bs) (es : ts * (ba * tw) = (ta * bw) * bs) {x y : Int} (ax : Amt x y) (ex : x * (bp * bs) = (tp * ts) * y) :
    Fr (N * ba) x y (np * ta) := by
  refine ⟨ax, ?_⟩
  have e1 := fp.e
  have e2 := fw.e
  have b1 := fp.am.b1
  have b2 := fw.am.b1
  have b3 := as.b1
  have b4 := am.b1
  have tw0 : 0 < tw := by
    rcases Int.lt_or_eq_of_le fw.am.t0 with h | h
    · exact h
    · rw [← h, Int.zero_mul] at e2
      have := Int.mul_pos hN (show 0 < bw by omega)
      omega
  have nz : M * bp * bs * tw * bw ≠ 0 := by
    have h1 := Int.mul_pos hM (show 0 < bp by omega)
    have h2 := Int.mul_pos h1 (show 0 < bs by omega)
    have h3 := Int.mul_pos h2 tw0
    have h4 := Int.mul_pos h3 (show 0 < bw by omega)
    omega
  refine Int.eq_of_mul_eq_mul_right nz ?_
  grind
end K8

namespace K8
open PySem PySem.Spec PyProof.Rows L2 GM TM
theorem alike_iff {N1 N2 : Int} (h1 : 0 < N1) (h2 : 0 < N2) {f1 f2 : Str → Int} {zs1 zs2 : List (Str × Int × Int)} (m1 : IsMx N1 f1 zs1) (m2 : IsMx N2 f2 zs2) : zs1 = zs2 ↔ ∀ y, f1 y * N2 = f2 y * N1 := by
  constructor
  · intro e y
    subst e
    by_cases hy : y ∈ zs1.map (·.1)
    · obtain ⟨p, hp, rfl⟩ := List.mem_map.mp hy
      have a1 := m1.fr p hp
      have a2 := m2.fr p hp
      have e1 := a1.e
      have e2 := a2.e
      have b1 := a1.am.b1
      refine Int.eq_of_mul_eq_mul_right (show p.2.2 ≠ 0 by omega) ?_
      grind
    · have z1 : f1 y = 0 := by
        by_cases z : f1 y = 0
        · exact z
        · exact absurd ((m1.mem y).mpr z) hy
      have z2 : f2 y = 0 := by
        by_cases z : f2 y = 0
        · exact z
        · exact absurd ((m2.mem y).mpr z) hy
      rw [z1, z2, Int.zero_mul, Int.zero_mul]
  · intro e
    have k1 : IsMx (N1 * N2) (fun y => f1 y * N2) zs1 := ⟨m1.pw, m1.nd, fun y => by
      rw [m1.mem]
      exact ⟨fun z q => (Int.mul_eq_zero.mp q).elim z (by omega), fun z q => z (by rw [q, Int.zero_mul])⟩, fun p hp => ⟨(m1.fr p hp).am, by have := (m1.fr p hp).e; grind⟩⟩
    have k2 : IsMx (N1 * N2) (fun y => f1 y * N2) zs2 := ⟨m2.pw, m2.nd, fun y => by
      rw [m2.mem, e y]
      exact ⟨fun z q => (Int.mul_eq_zero.mp q).elim z (by omega), fun z q => z (by rw [q, Int.zero_mul])⟩, fun p hp => ⟨(m2.fr p hp).am, by have := (m2.fr p hp).e; have := e p.1; grind⟩⟩
    exact k1.uniq (Int.mul_pos h1 h2) k2
/-! ### == of tuples of pairs -/
theorem deq2 {K : PySem.W.Frag} {H : Hp} {p q : Addr} {t b t' b' : Int} (h : H p = some (.tup [.int t, .int b])) (k : H q = some (.tup [.int t', .int b'])) : DEq K H 39 (.ref p) (.ref q) (decide (t = t' ∧ b = b')) := by
  by_cases e : p = q
  · subst e
    rw [h] at k
    injection k with k
    injection k with k
    injection k with k1 k2
    injection k2 with k2
    injection k1 with k1
    injection k2 with k2
    rw [decide_eq_true ⟨k1, k2⟩]
    exact .same
  · have d := DEq.tup (n := 38) (K := K) (H := H) (e := fun j => if j = 0 then eqV (.int t) (.int t') else eqV (.int b) (.int b')) e (SqT.of h) (SqT.of k) fun j x y hx hy => by
      match j, hx, hy with
      | 0, hx, hy => cases hx; cases hy; exact .flat rfl rfl
      | 1, hx, hy => cases hx; cases hy; exact .flat rfl rfl
      | j + 2, hx, _ => simp at hx
    have e2 : ((List.range (min [V.int t, V.int b].length [V.int t', V.int b'].length)).all (fun j => if j = 0 then eqV (.int t) (.int t') else eqV (.int b) (.int b')) && [V.int t, V.int b].length == [V.int t', V.int b'].length) = decide (t = t' ∧ b = b') := by
      show ((List.range 2).all _ && true) = _
      have : List.range 2 = [0, 1] := rfl
      rw [this, Bool.eq_iff_iff]
      simp [eqV]
    rw [e2] at d
    exact d
theorem deqP {K : PySem.W.Frag} {H : Hp} {u v : V} {x y : Str × Int × Int} (h : Pr H u x) (k : Pr H v y) : DEq K H 40 u v (decide (x = y)) := by
  obtain ⟨p, q, rfl, h1, h2⟩ := h
  obtain ⟨p', q', rfl, k1, k2⟩ := k
  by_cases e : p = p'
  · subst e
    rw [h1] at k1
    injection k1 with k1
    injection k1 with k1
    injection k1 with e1 e2
    injection e2 with e2
    injection e1 with e1
    injection e2 with e2
    subst e2
    rw [h2] at k2
    injection k2 with k2
    injection k2 with k2
    injection k2 with e3 e4
    injection e4 with e4
    injection e3 with e3
    injection e4 with e4
    have : x = y := Prod.ext e1 (Prod.ext e3 e4)
    rw [decide_eq_true this]
    exact .same
  · have d := DEq.tup (n := 39) (K := K) (H := H) (e := fun j => if j = 0 then eqV (.str x.1) (.str y.1) else decide (x.2.1 = y.2.1 ∧ x.2.2 = y.2.2)) e (SqT.of h1) (SqT.of k1) fun j a b ha hb => by
      match j, ha, hb with
      | 0, ha, hb => cases ha; cases hb; exact .flat rfl rfl
      | 1, ha, hb => cases ha; cases hb; exact deq2 h2 k2
      | j + 2, ha, _ => simp at ha
    have e2 : ((List.range (min [V.str x.1, V.ref q].length [V.str y.1, V.ref q'].length)).all (fun j => if j = 0 then eqV (.str x.1) (.str y.1) else decide (x.2.1 = y.2.1 ∧ x.2.2 = y.2.2)) && [V.str x.1, V.ref q].length == [V.str y.1, V.ref q'].length) = decide (x = y) := by
      show ((List.range 2).all _ && true) = _
      have : List.range 2 = [0, 1] := rfl
      rw [this]
      obtain ⟨x1, x2, x3⟩ := x
      obtain ⟨y1, y2, y3⟩ := y
      rw [Bool.eq_iff_iff]
      simp [eqV]
    rw [e2] at d
    exact d
theorem all_pairs : ∀ (xs ys : List (Str × Int × Int)), ((List.range (min xs.length ys.length)).all (fun j => decide (xs[j]? = ys[j]?)) && xs.length == ys.length) = decide (xs = ys) := by
  intro xs ys
  by_cases e : xs = ys
  · subst e
    simp
  · rw [decide_eq_false e]
    by_cases l : xs.length = ys.length
    · have : ¬ ((List.range (min xs.length ys.length)).all (fun j => decide (xs[j]? = ys[j]?))) = true := by
        intro h
        rw [List.all_eq_true] at h
        refine e (List.ext_getElem? fun i => ?_)
        by_cases hi : i < xs.length
        · exact of_decide_eq_true (h i (List.mem_range.mpr (by omega)))
        · rw [List.getElem?_eq_none (by omega), List.getElem?_eq_none (by omega)]
      rw [Bool.and_eq_false_iff]
      exact .inl (by simpa using this)
    · rw [Bool.and_eq_false_iff]
      exact .inr (by simpa using l)
def rEqP (K : PySem.W.Frag) : R2 := fun x y H Q => ∃ a b us vs xs ys, x = .ref a ∧ y = .ref b ∧ SqT K H a us ∧ SqT K H b vs ∧ PrL H us xs ∧ PrL H vs ys ∧ Q (.bl (decide (xs = ys))) H
def rNeP (K : PySem.W.Frag) : R2 := fun x y H Q => ∃ a b us vs xs ys, x = .ref a ∧ y = .ref b ∧ SqT K H a us ∧ SqT K H b vs ∧ PrL H us xs ∧ PrL H vs ys ∧ Q (.bl (!decide (xs = ys))) H
theorem deqs {K : PySem.W.Frag} {H : Hp} {us vs : List V} {xs ys : List (Str × Int × Int)} (h : PrL H us xs) (k : PrL H vs ys) : ∀ (j : Nat) u v, us[j]? = some u → vs[j]? = some v → DEq K H 40 u v (decide (xs[j]? = ys[j]?)) := fun j u v hu hv => by
  obtain ⟨x, hx, px⟩ := h.get hu
  obtain ⟨y, hy, py⟩ := k.get hv
  have d := deqP (K := K) px py
  have e : decide (xs[j]? = ys[j]?) = decide (x = y) := by rw [hx, hy]; exact decide_eq_decide.mpr ⟨Option.some.inj, congrArg some⟩
  rw [e]
  exact d
theorem op_eqP {X : Cx} (hu : X.A.units + 64 < cLine) : OpR X (compareOp .Eq) (rEqP X.K) := by
  intro pins s σ H x y v u Q I rx ry h
  obtain ⟨a, b, us, vs, xs, ys, rfl, rfl, hx, hy, k1, k2, q⟩ := h
  refine op_eqT hu pins s σ H _ _ v u Q I rx ry ⟨a, b, us, vs, _, rfl, rfl, hx, hy, deqs k1 k2, ?_⟩
  rw [k1.length, k2.length, all_pairs]
  exact q
end K8

namespace K8
open PySem PySem.Spec PyProof.Rows L2 GM TM
/-- two amounts handed in -/
structure Tw (K : PySem.W.Frag) (H : Hp) (p q : Addr) (t1 b1 t2 b2 : Int) : Prop where
  sp : SqT K H p [.int t1, .int b1]
  sq : SqT K H q [.int t2, .int b2]
  a1 : Amt t1 b1
  a2 : Amt t2 b2
  st1 : Bt 4000 t1
  sb1 : Bt 4000 b1
  st2 : Bt 4000 t2
  sb2 : Bt 4000 b2
def spTimes (K : PySem.W.Frag) : Sp := fun vs H Q _ => ∃ (p q : Addr) (t1 b1 t2 b2 : Int), vs = [.ref p, .ref q] ∧ Tw K H p q t1 b1 t2 b2 ∧
  RetT H Q [(t1 * t2) / G (t1 * t2) (b1 * b2), (b1 * b2) / G (t1 * t2) (b1 * b2)]
def spOver (K : PySem.W.Frag) : Sp := fun vs H Q _ => ∃ (p q : Addr) (t1 b1 t2 b2 : Int), vs = [.ref p, .ref q] ∧ Tw K H p q t1 b1 t2 b2 ∧ 1 ≤ t2 ∧
  RetT H Q [(t1 * b2) / G (t1 * b2) (b1 * t2), (b1 * t2) / G (t1 * b2) (b1 * t2)]
def spTog (K : PySem.W.Frag) : Sp := fun vs H Q _ => ∃ (m1 m2 : Addr) (us1 us2 : List V) (ys1 ys2 : List (Str × Int × Int)) (M : Int), vs = [.ref m1, .ref m2] ∧ SqT K H m1 us1 ∧ PrL H us1 ys1 ∧ SqT K H m2 us2 ∧ PrL H us2 ys2 ∧
  ys1.length + ys2.length ≤ 63 ∧ Over M ys1 ∧ Over M ys2 ∧ 0 < M ∧ Bt 3000 M ∧ Bt 3000 (sumN M (ys1 ++ ys2)) ∧
  ∀ m zs ys H', Same H H' → H' m = some (.tup zs) → PrL H' zs ys → IsMx M (fun y => NW M ys1 y + NW M ys2 y) ys → Q (.ref m) H'
/-- a mixture handed in -/
structure Mixd (K : PySem.W.Frag) (H : Hp) (m : Addr) (us : List V) (ys : List (Str × Int × Int)) (M : Int) (f : Str → Int) : Prop where
  sq : SqT K H m us
  pr : PrL H us ys
  mx : IsMx M f ys
  yl : ys.length ≤ 63
  M0 : 0 < M
  bM : Bt 2950 M
  bS : Bt 2950 (sumN M ys)
theorem Mixd.keep {K : PySem.W.Frag} {H H' : Hp} {m : Addr} {us : List V} {ys : List (Str × Int × Int)} {M : Int} {f : Str → Int} (h : Mixd K H m us ys M f) (s : Same H H') : Mixd K H' m us ys M f := ⟨s.tup h.sq, h.pr.keep (Same.tk s), h.mx, h.yl, h.M0, h.bM, h.bS⟩
structure Askd (K : PySem.W.Frag) (H : Hp) (a : Addr) (ta ba : Int) : Prop where
  sq : SqT K H a [.int ta, .int ba]
  am : Amt ta ba
  bt : Bt 200 ta
  bb : Bt 200 ba
def spBr (K : PySem.W.Frag) (c1 : Addr) : Sp := fun vs H Q E => ∃ (m a : Addr) (us : List V) (ys : List (Str × Int × Int)) (M : Int) (f : Str → Int) (ta ba : Int), vs = [.ref m, .ref a] ∧ Mixd K H m us ys M f ∧ Askd K H a ta ba ∧
  (ta = 0 → ∀ p H', Same H H' → H' p = some (.tup []) → Q (.ref p) H') ∧ (ta ≠ 0 → ys = [] → ∀ H', Same H H' → E (.ref c1) none H') ∧
  (ta ≠ 0 → ys ≠ [] → ∀ p vs zs H', Same H H' → H' p = some (.tup vs) → PrL H' vs zs → Brt M (sumN M ys) ta ba ys zs → Q (.ref p) H')
theorem br_list {M N ta ba : Int} {H : Hp} : ∀ (ys : List (Str × Int × Int)) (vs : List V), vs.length = ys.length → (∀ (i : Nat) (x : Str × Int × Int) (v : V), ys[i]? = some x → vs[i]? = some v → ∃ t b, Pr H v (x.1, t, b) ∧ Fr (N * ba) t b (nOf M x * ta)) → ∃ zs, PrL H vs zs ∧ Brt M N ta ba ys zs
  | [], [], _, _ => ⟨[], .nil, True.intro⟩
  | x :: ys, v :: vs, hl, h => by
    obtain ⟨zs, z1, z2⟩ := br_list ys vs (by simpa using hl) fun i x y hx hy => h (i + 1) x y (by simpa using hx) (by simpa using hy)
    obtain ⟨t, b, p1, p2⟩ := h 0 x v rfl rfl
    exact ⟨(x.1, t, b) :: zs, .cons p1 z1, rfl, p2, z2⟩
  | [], _ :: _, hl, _ => by simp at hl
  | _ :: _, [], hl, _ => by simp at hl
section
variable {P : Program} {w : World} {K : PySem.W.Frag} {mg : Str → Option Value} {base : Heap}
theorem scTimes : FnScope ["one", "other"] ["one", "other"] (defScope sTimes) := ⟨rfl, rfl, rfl, by decide +kernel, rfl, by decide +kernel, by decide +kernel⟩
theorem mul1 {a b : Int} (ha : 1 ≤ a) (hb : 1 ≤ b) : 1 ≤ a * b := by
  have := Int.mul_le_mul ha hb (by decide) (by omega)
  omega
theorem ok_times {f : Addr} {fd : FuncData} (F : Fun K "times" "times" sTimes f fd) (cL : Cal P w K mg base CX0 2 "lowest_terms" ["top", "bottom"] spLow) : FnOk P w K mg base CX0 3 f fd ["one", "other"] (spTimes K) := by
  refine F.ok scTimes (fun vs H Q E h => ?_) (fun cdv A outer s H vs Q E hr h => ?_)
  · obtain ⟨_, _, _, _, _, _, rfl, _⟩ := h
    rfl
  · obtain ⟨p, q, t1, b1, t2, b2, rfl, T, k⟩ := h
    refine ⟨_, pss_one (ps_ret (pe_cal cL hr rfl pass0 (pa_cons (pe_op op_mulB (pit 0 0) (pit 1 0)) (pa_cons (pe_op op_mulB (pit 0 1) (pit 1 1)) pa_nil)))), ?_⟩
    refine ⟨p, _, _, rfl, T.sp, rfl, q, _, _, rfl, T.sq, rfl, _, _, rfl, rfl, ⟨b6 T.st1, b6 T.st2⟩, ?_⟩
    exact ⟨p, _, _, rfl, T.sp, rfl, q, _, _, rfl, T.sq, rfl, _, _, rfl, rfl, ⟨b6 T.sb1, b6 T.sb2⟩, _, _, rfl, Int.mul_nonneg T.a1.t0 T.a2.t0, mul1 T.a1.b1 T.a2.b1, (T.sb1.mul T.sb2).mono (by decide), k⟩
theorem scOver : FnScope ["one", "other"] ["one", "other"] (defScope sOver) := ⟨rfl, rfl, rfl, by decide +kernel, rfl, by decide +kernel, by decide +kernel⟩
theorem ok_over {f aN : Addr} {fd : FuncData} (F : Fun K "over" "over" sOver f fd) (mN : mg "NOUGHT" = some (.ref aN)) (sN : ∀ H : Hp, SqT K H aN [.int 0, .int 1]) (cL : Cal P w K mg base CX0 2 "lowest_terms" ["top", "bottom"] spLow) : FnOk P w K mg base CX0 3 f fd ["one", "other"] (spOver K) := by
  refine F.ok scOver (fun vs H Q E h => ?_) (fun cdv A outer s H vs Q E hr h => ?_)
  · obtain ⟨_, _, _, _, _, _, rfl, _⟩ := h
    rfl
  · obtain ⟨p, q, t1, b1, t2, b2, rfl, T, h1, k⟩ := h
    refine ⟨_, pss_cons (ps_if (pt_cmpR (op_eqI hr.units) (pv 1) (pe_glob (v := .ref aN) rfl mN rfl) (nomark _)) (pss_one ps_never) pss_nil)
      (pss_one (ps_ret (pe_cal cL hr rfl pass0 (pa_cons (pe_op op_mulB (pit 0 0) (pit 1 1)) (pa_cons (pe_op op_mulB (pit 0 1) (pit 1 0)) pa_nil))))), ?_⟩
    refine ⟨_, rfl, q, aN, [t2, b2], [0, 1], rfl, rfl, T.sq, sN H, _, rfl, ?_⟩
    rw [decide_eq_false (fun e => by injection e with e1 e; omega)]
    refine iteF ⟨p, _, _, rfl, T.sp, rfl, q, _, _, rfl, T.sq, rfl, _, _, rfl, rfl, ⟨b6 T.st1, b6 T.sb2⟩, ?_⟩
    exact ⟨p, _, _, rfl, T.sp, rfl, q, _, _, rfl, T.sq, rfl, _, _, rfl, rfl, ⟨b6 T.sb1, b6 T.st2⟩, _, _, rfl, Int.mul_nonneg T.a1.t0 (by have := T.a2.b1; omega), mul1 T.a1.b1 h1, (T.sb1.mul T.st2).mono (by decide), k⟩
theorem scTogether : FnScope ["one", "other"] ["one", "other"] (defScope sTogether) := ⟨rfl, rfl, rfl, by decide +kernel, rfl, by decide +kernel, by decide +kernel⟩
theorem ok_together {f : Addr} {fd : FuncData} (F : Fun K "together" "together" sTogether f fd) (T : Txt mg) (cM : Cal P w K mg base CX0 4 "mixture" ["pairs"] (spMixture K)) : FnOk P w K mg base CX0 5 f fd ["one", "other"] (spTog K) := by
  refine F.ok scTogether (fun vs H Q E h => ?_) (fun cdv A outer s H vs Q E hr h => ?_)
  · obtain ⟨_, _, _, _, _, _, _, rfl, _⟩ := h
    rfl
  · obtain ⟨m1, m2, us1, us2, ys1, ys2, M, rfl, q1, p1, q2, p2, yl, o1, o2, M0, bM, bS, k⟩ := h
    refine ⟨_, (pss_one (ps_ret (pe_cal cM hr rfl pass0 (pa_cons (pe_op op_cat (pe_callTy call_list_of rfl T.list' bt_list (pa_cons (pv 0) pa_nil)) (pe_callTy call_list_of rfl T.list' bt_list (pa_cons (pv 1) pa_nil))) pa_nil)))), ?_⟩
    refine ⟨_, rfl, m1, us1, rfl, .inr q1, fun c1 hc1 => ?_⟩
    have s1 : Same H (upd H c1 (.lst us1)) := Same.upd hc1
    refine ⟨_, rfl, m2, us2, rfl, .inr (s1.tup q2), fun c2 hc2 => ?_⟩
    have s2 : Same (upd H c1 (.lst us1)) (upd (upd H c1 (.lst us1)) c2 (.lst us2)) := Same.upd hc2
    have l1 := p1.length
    have l2 := p2.length
    refine ⟨c1, c2, us1, us2, rfl, rfl, s2 _ _ upd_same, upd_same, sz1000 (by omega), fun c3 hc3 => ?_⟩
    have s3 : Same (upd (upd H c1 (.lst us1)) c2 (.lst us2)) (upd (upd (upd H c1 (.lst us1)) c2 (.lst us2)) c3 (.lst (us1 ++ us2))) := Same.upd hc3
    have s13 := (s1.trans s2).trans s3
    refine ⟨c3, us1 ++ us2, ys1 ++ ys2, M, rfl, SqL.of upd_same, (p1.keep (Same.tk s13)).append (p2.keep (Same.tk s13)), by rw [List.length_append]; omega, fun x hx => (List.mem_append.mp hx).elim (o1 x) (o2 x), M0, bM, bS, fun m zs ys H' s' hm pm mx => ?_⟩
    exact k m zs ys H' (s13.trans s') hm pm ((IsMx.of mx).congr fun y => NW_append ys1 ys2 y)
theorem scBrought : FnScope ["one", "asked", "share"] ["one", "asked"] (defScope sBrought) := ⟨rfl, rfl, rfl, by decide +kernel, rfl, by decide +kernel, by decide +kernel⟩
theorem nd4 : (["ware", "part", "share"] : List Str).Nodup := by decide +kernel
theorem ok_brought {f aN c1 : Addr} {fd : FuncData} (F : Fun K "brought" "brought" sBrought f fd) (T : Txt mg) (mN : mg "NOUGHT" = some (.ref aN)) (sN : ∀ H : Hp, SqT K H aN [.int 0, .int 1]) (m1 : mg "Nothing" = some (.ref c1)) (ex : PySem.W.excIn K c1 bmV "ValueError.__new__" = true)
    (cO : Cal P w K mg base CX0 4 "over" ["one", "other"] (spOver K)) (cW : Cal P w K mg base CX0 4 "whole" ["one"] (spWholeM K)) (cT : Cal P w K mg base CX0 4 "times" ["one", "other"] (spTimes K)) : FnOk P w K mg base (CXg P w) 5 f fd ["one", "asked"] (spBr K c1) := by
  refine F.okF scBrought (fun vs H Q E h => ?_) (fun cdv A outer s H vs Q E hr h => ?_)
  · obtain ⟨_, _, _, _, _, _, _, _, rfl, _⟩ := h
    rfl
  · obtain ⟨m, a, us, ys, M, fn, ta, ba, rfl, I, J, k0, kE, k⟩ := h
    refine ⟨_, (pss_cons (ps_if (pt_cmpR (op_eqI hr.units) (pv 1) (pe_glob (v := .ref aN) rfl mN rfl) (nomark _))
        (pss_one (ps_ret (pe_tup pa_nil)))
        pss_nil)
      (pss_cons (ps_if (pt_cmpR (op_eqP hr.units) (pv 0) (pe_tup pa_nil) (nomark _))
        (pss_one (ps_raise rfl xe_f rfl rfl m1 ex (pa_cons pe_str pa_nil)))
        pss_nil)
      (pss_cons (ps_set (i := 2) scBrought.nd rfl (Or.inr rfl) (pe_cal cO hr rfl pass0 (pa_cons (pv 1) (pa_cons (pe_cal cW hr rfl pass0 (pa_cons (pv 0) pa_nil)) pa_nil))))
      (pss_one (ps_ret (pe_callTy call_tuple_of rfl T.tup' bt_tuple (pa_cons (pe_compC (N' := ["ware", "part", "share"]) (g := gTup K 2 (gCons (gName 0) (gCons (gName 1) gNil))) (fun σ => [none, none, some 2].map fun t => t.bind fun j => (σ[j]?).join) rfl rfl (by decide +kernel) (by decide +kernel)
          (hk_of (sc := defScope sBrought) rfl (by decide +kernel)) (fun _ _ _ => blkN_by (sc := defScope sBrought) (N := ["one", "asked", "share"]) [none, none, some 2] rfl rfl rfl rfl (by decide +kernel))
          (pi_tup (pv 0)) (fun _ _ _ _ _ _ => pg_tup rfl (pgs_cons (pg_name (i := 0) nd4 rfl (Or.inl rfl) (Or.inr rfl)) (pgs_cons (pg_name (i := 1) nd4 rfl (Or.inl rfl) (Or.inr rfl)) pgs_nil)))
          (fun _ _ _ _ _ _ => pifs_nil)
          (fun _ _ _ _ _ _ => pe_tup (pa_cons (pv 0) (pa_cons (pe_cal cT hr rfl pass0 (pa_cons (pv 1) (pa_cons (pv 2) pa_nil))) pa_nil)))) pa_nil))))))), ?_⟩
    have ba1 := J.am.b1
    have ov := I.mx.over
    have M0 := I.M0
    refine ⟨_, rfl, a, aN, [ta, ba], [0, 1], rfl, rfl, J.sq, sN H, _, rfl, ite2 (fun hc => ?_) (fun hc => ?_)⟩
    · have e := of_decide_eq_true hc
      injection e with e1 e
      exact ⟨(show 0 ≤ sizeLine by decide +kernel), fun p hp => k0 e1 p _ (Same.upd hp) upd_same⟩
    have ne : ta ≠ 0 := fun z => hc (decide_eq_true (by
      subst z
      have f1 : Fr 1 0 ba 0 := ⟨J.am, by simp⟩
      rw [(f1.uniq (by decide) Fr.zero).2]))
    have ta0 := J.am.t0
    refine ⟨_, rfl, (show 0 ≤ sizeLine by decide +kernel), fun u hu => ?_⟩
    have s1 : Same H (upd H u (.tup [])) := Same.upd hu
    have I1 := I.keep s1
    refine ⟨m, u, us, [], ys, [], rfl, rfl, I1.sq, SqT.of upd_same, I1.pr, .nil, _, rfl, ite2 (fun hc2 => ?_) (fun hc2 => ?_)⟩
    · exact ⟨(show 1 ≤ sizeLine by decide +kernel), kE ne (of_decide_eq_true hc2) _ s1⟩
    have nn : ys ≠ [] := fun z => hc2 (decide_eq_true z)
    have N1 : 0 < sumN M ys := by
      have h1 := sumN_nonneg M0 ov
      have h2 : sumN M ys ≠ 0 := fun z => nn ((I.mx.nil_iff M0).mpr z)
      omega
    refine ⟨_, rfl, _, rfl, m, us, ys, M, rfl, I1.sq, I1.pr, ov, M0, I.bM.mono (by decide), fun i => ?_, fun g t b H2 s2 hg fr => ?_⟩
    · exact (I.bS.le (sumN_nonneg M0 (ov.take i)) (sumN_take M0 i ov)).mono (by decide)
    have I2 := I1.keep s2
    have sm := frSmall M0 fr
    have t1 : 1 ≤ t := by
      have := fr.am.t0
      have : t ≠ 0 := fun z => by
        have := (fr.nought M0).mpr z
        omega
      omega
    have bt := I.bS.le fr.am.t0 sm.1
    have bb := I.bM.le (by have := fr.am.b1; omega) sm.2
    refine ⟨a, g, ta, ba, t, b, rfl, ⟨(s1.trans s2).tup J.sq, hg, J.am, fr.am, J.bt.mono (by decide), J.bb.mono (by decide), bt.mono (by decide), bb.mono (by decide)⟩, t1, fun p H3 s3 h3 => ?_⟩
    have I3 := I2.keep s3
    have n1 := Int.mul_nonneg ta0 (show 0 ≤ b by have := fr.am.b1; omega)
    have n2 := mul1 ba1 t1
    have as := low_amt n1 n2
    have es := low_cross (ta * b) (ba * t)
    have bs1 : Bt 3150 (ta * b / G (ta * b) (ba * t)) := (J.bt.mul bb).div n1
    have bs2 : Bt 3150 (ba * t / G (ta * b) (ba * t)) := (J.bb.mul bt).div (by omega)
    generalize ta * b / G (ta * b) (ba * t) = ts at *
    generalize ba * t / G (ta * b) (ba * t) = bs at *
    have ul := I.pr.length
    have yl := I.yl
    refine ⟨_, rfl, m, rfl, ⟨_, I3.sq⟩, fun D hD => ?_⟩
    refine comp_rel (Ys.tup I3.sq) (fun i _ y H => ∃ x t b, ys[i]? = some x ∧ Pr H y (x.1, t, b) ∧ Fr (sumN M ys * ba) t b (nOf M x * ta)) ?_ hD (by omega) (fun i x H' R hx sm' hR => ?_) (fun vs H' sm' hD' vl hv => ?_)
    · rintro i x y Ha Hb ⟨x, t, b, e, pr, fr⟩ tk
      exact ⟨x, t, b, e, pr.keep tk, fr⟩
    · obtain ⟨z, hz, pz, qz, rfl, h1, h2⟩ := I3.pr.get hx
      have h1' := SqT.of (K := K) (sm' _ _ h1)
      have h2' := SqT.of (K := K) (sm' _ _ h2)
      have frz := I.mx.fr z (List.mem_of_getElem? hz)
      have nz := fr_nOf frz
      have smz := frSmall M0 frz
      have nle : nOf M z ≤ sumN M ys := by
        have e := sumN_snoc (M := M) hz
        have := sumN_take M0 (i + 1) ov
        have := sumN_nonneg M0 (ov.take i)
        omega
      refine ⟨pz, _, rfl, h1', rfl, _, _, rfl, _, _, rfl, rfl, ((Keep.refl _).set rfl).set rfl, ?_⟩
      refine ⟨_, rfl, _, rfl, _, rfl, qz, p, z.2.1, z.2.2, ts, bs, rfl, ⟨h2', SqT.of (sm' _ _ h3), frz.am, as, (I.bS.le frz.am.t0 (by omega)).mono (by decide), (I.bM.le (by have := frz.am.b1; omega) smz.2).mono (by decide), bs1.mono (by decide), bs2.mono (by decide)⟩, fun r H5 s5 h5 => ?_⟩
      refine ⟨(show 2 ≤ sizeLine by decide +kernel), fun l' hl' => ?_⟩
      have frx : Fr (sumN M ys * ba) (z.2.1 * ts / G (z.2.1 * ts) (z.2.2 * bs)) (z.2.2 * bs / G (z.2.1 * ts) (z.2.2 * bs)) (nOf M z * ta) := by
        rw [nz]
        exact fr_share M0 N1 frz fr J.am as es (low_amt (Int.mul_nonneg frz.am.t0 as.t0) (mul1 frz.am.b1 as.b1)) (low_cross (z.2.1 * ts) (z.2.2 * bs))
      exact hR _ _ (s5.trans (Same.upd hl')) ⟨z, z.2.1 * ts / G (z.2.1 * ts) (z.2.2 * bs), z.2.2 * bs / G (z.2.1 * ts) (z.2.2 * bs), hz, ⟨l', r, rfl, upd_same, Same.upd hl' _ _ h5⟩, frx⟩
    · obtain ⟨zs, z1, z2⟩ := br_list (M := M) (N := sumN M ys) (ta := ta) (ba := ba) (H := H') ys vs (by omega) fun i x v hx hv' => by
        obtain ⟨u', hu'⟩ : ∃ u', us[i]? = some u' := ⟨_, List.getElem?_eq_getElem (by have := (List.getElem?_eq_some_iff.mp hx).1; omega)⟩
        obtain ⟨x', t, b, e, pr, fr⟩ := hv i u' v hu' hv'
        rw [hx] at e
        cases e
        exact ⟨t, b, pr, fr⟩
      refine ⟨D, vs, rfl, .inl ⟨SqL.of hD', fun q hq => ?_⟩⟩
      have s6 : Same H' (upd H' q (.tup vs)) := Same.upd hq
      exact k ne nn q vs zs _ ((((s1.trans s2).trans s3).trans sm').trans s6) upd_same (z1.keep (Same.tk s6)) z2
end
end K8

namespace K8
open PySem PySem.Spec PyProof.Rows L2 GM TM
/-- each ware is to the whole alike -/
def Alk (N1 N2 : Int) (f1 f2 : Str → Int) : Prop := (N1 = 0 ∨ N2 = 0 → N1 = N2) ∧ ∀ y, f1 y * N2 = f2 y * N1
theorem NW_all {M : Int} (hM : 0 < M) {xs : List (Str × Int × Int)} (h : Over M xs) (y : Str) : 0 ≤ NW M xs y ∧ NW M xs y ≤ sumN M xs := by
  have := NW_le hM h xs.length y
  rwa [List.take_length] at this
theorem IsMx.none {M : Int} {f : Str → Int} {ys : List (Str × Int × Int)} (h : IsMx M f ys) (e : ys = []) (y : Str) : f y = 0 := by
  subst e
  by_cases z : f y = 0
  · exact z
  · exact absurd ((h.mem y).mpr z) (by simp)
theorem alk_none {M1 M2 : Int} (h1 : 0 < M1) (h2 : 0 < M2) {f1 f2 : Str → Int} {ys1 ys2 : List (Str × Int × Int)} (m1 : IsMx M1 f1 ys1) (m2 : IsMx M2 f2 ys2) (e : ys1 = [] ∨ ys2 = []) : ys1 = ys2 ↔ Alk (sumN M1 ys1) (sumN M2 ys2) f1 f2 := by
  have i1 := m1.nil_iff h1
  have i2 := m2.nil_iff h2
  constructor
  · intro q
    have e1 : ys1 = [] := by rcases e with e | e; exact e; rw [q]; exact e
    have e2 : ys2 = [] := by rw [← q]; exact e1
    exact ⟨fun _ => by rw [i1.mp e1, i2.mp e2], fun y => by rw [m1.none e1 y, m2.none e2 y, Int.zero_mul, Int.zero_mul]⟩
  · rintro ⟨q, _⟩
    have q' := q (e.elim (fun z => .inl (i1.mp z)) fun z => .inr (i2.mp z))
    rcases e with e | e
    · rw [e, i2.mpr (by rw [← q']; exact i1.mp e)]
    · rw [e, i1.mpr (by rw [q']; exact i2.mp e)]
def spAlike (K : PySem.W.Frag) : Sp := fun vs H Q _ => ∃ (m1 m2 : Addr) (us1 us2 : List V) (ys1 ys2 : List (Str × Int × Int)) (M1 M2 : Int) (f1 f2 : Str → Int), vs = [.ref m1, .ref m2] ∧ Mixd K H m1 us1 ys1 M1 f1 ∧ Mixd K H m2 us2 ys2 M2 f2 ∧
  ∀ (β : Bool) H', Same H H' → (β = true ↔ Alk (sumN M1 ys1) (sumN M2 ys2) f1 f2) → Q (.bl β) H'
section
variable {P : Program} {w : World} {K : PySem.W.Frag} {mg : Str → Option Value} {base : Heap}
theorem scAlike : FnScope ["one", "other"] ["one", "other"] (defScope sAlike) := ⟨rfl, rfl, rfl, by decide +kernel, rfl, by decide +kernel, by decide +kernel⟩
theorem ok_alike {f aO c1 : Addr} {fd : FuncData} (F : Fun K "alike" "alike" sAlike f fd) (mO : mg "ONE" = some (.ref aO)) (sO : ∀ H : Hp, SqT K H aO [.int 1, .int 1]) (cB : Cal P w K mg base (CXg P w) 5 "brought" ["one", "asked"] (spBr K c1)) : FnOk P w K mg base CX0 6 f fd ["one", "other"] (spAlike K) := by
  refine F.ok scAlike (fun vs H Q E h => ?_) (fun cdv A outer s H vs Q E hr h => ?_)
  · obtain ⟨_, _, _, _, _, _, _, _, _, _, rfl, _⟩ := h
    rfl
  · obtain ⟨m1, m2, us1, us2, ys1, ys2, M1, M2, f1, f2, rfl, I, J, k⟩ := h
    refine ⟨_, (pss_cons (ps_if (PW.pt (pw_or (pt_cmpR (op_eqP hr.units) (pv 0) (pe_tup pa_nil) (nomark _)) (pw_or1 (pt_cmpR (op_eqP hr.units) (pv 1) (pe_tup pa_nil) (nomark _)))))
        (pss_one (ps_ret (pe_cmpR (op_eqP hr.units) (pv 0) (pv 1) (nomark _))))
        pss_nil)
      (pss_one (ps_ret (pe_cmpR (op_eqP hr.units) (pe_cal cB hr rfl passY (pa_cons (pv 0) (pa_cons (pe_glob (v := .ref aO) rfl mO rfl) pa_nil))) (pe_cal cB hr rfl passY (pa_cons (pv 1) (pa_cons (pe_glob (v := .ref aO) rfl mO rfl) pa_nil))) (nomark _))))), ?_⟩
    refine ⟨_, rfl, (show 0 ≤ sizeLine by decide +kernel), fun u hu => ?_⟩
    have s1 : Same H (upd H u (.tup [])) := Same.upd hu
    have I1 := I.keep s1
    have J1 := J.keep s1
    refine ⟨m1, u, us1, [], ys1, [], rfl, rfl, I1.sq, SqT.of upd_same, I1.pr, .nil, _, rfl, ite2 (fun hc => ?_) (fun hc => ?_)⟩
    · refine ⟨_, rfl, _, rfl, m1, m2, us1, us2, ys1, ys2, rfl, rfl, I1.sq, J1.sq, I1.pr, J1.pr, k _ _ s1 ?_⟩
      rw [decide_eq_true_iff]
      exact alk_none I.M0 J.M0 I.mx J.mx (.inl (of_decide_eq_true hc))
    have n1 : ys1 ≠ [] := fun z => hc (decide_eq_true z)
    refine ⟨_, rfl, (show 0 ≤ sizeLine by decide +kernel), fun u2 hu2 => ?_⟩
    have s2 : Same (upd H u (.tup [])) (upd (upd H u (.tup [])) u2 (.tup [])) := Same.upd hu2
    have I2 := I1.keep s2
    have J2 := J1.keep s2
    refine ⟨m2, u2, us2, [], ys2, [], rfl, rfl, J2.sq, SqT.of upd_same, J2.pr, .nil, _, rfl, ite2 (fun hc => ?_) (fun hc => ?_)⟩
    · refine ⟨_, rfl, _, rfl, m1, m2, us1, us2, ys1, ys2, rfl, rfl, I2.sq, J2.sq, I2.pr, J2.pr, k _ _ (s1.trans s2) ?_⟩
      rw [decide_eq_true_iff]
      exact alk_none I.M0 J.M0 I.mx J.mx (.inr (of_decide_eq_true hc))
    have n2 : ys2 ≠ [] := fun z => hc (decide_eq_true z)
    have pos : ∀ {M : Int} {f : Str → Int} {ys : List (Str × Int × Int)}, 0 < M → IsMx M f ys → ys ≠ [] → 0 < sumN M ys := fun {M f ys} h0 h n => by
      have h1 := sumN_nonneg h0 h.over
      have h2 : sumN M ys ≠ 0 := fun z => n ((h.nil_iff h0).mpr z)
      omega
    have N1 := pos I.M0 I.mx n1
    have N2 := pos J.M0 J.mx n2
    have b1 : Bt 200 (1 : Int) := (bt_lt 2 (c := 2) (by decide) (by decide)).mono (by decide)
    have A1 : ∀ H : Hp, Askd K H aO 1 1 := fun H => ⟨sO H, amt_one (by decide), b1, b1⟩
    refine ⟨_, rfl, m1, aO, us1, ys1, M1, f1, 1, 1, rfl, I2, A1 _, fun z => absurd z (by decide), fun _ z => absurd z n1, fun _ _ p1 vs1 zs1 H3 s3 h3 q3 br1 => ?_⟩
    have J3 := J2.keep s3
    refine ⟨_, rfl, m2, aO, us2, ys2, M2, f2, 1, 1, rfl, J3, A1 _, fun z => absurd z (by decide), fun _ z => absurd z n2, fun _ _ p2 vs2 zs2 H4 s4 h4 q4 br2 => ?_⟩
    refine ⟨p1, p2, vs1, vs2, zs1, zs2, rfl, rfl, SqT.of (s4 _ _ h3), SqT.of h4, q3.keep (Same.tk s4), q4, k _ _ ((s1.trans s2).trans (s3.trans s4)) ?_⟩
    rw [decide_eq_true_iff, alike_iff (by rw [Int.mul_one]; exact N1) (by rw [Int.mul_one]; exact N2) (br1.mx (by decide) I.mx) (br2.mx (by decide) J.mx)]
    unfold Alk
    simp only [Int.mul_one]
    exact ⟨fun h => ⟨fun z => by omega, h⟩, fun h => h.2⟩
end
end K8

namespace L2
open PySem PySem.Spec PyProof.Rows
/-- the i-th items of a tuple and of a list, in a new tuple -/
def Itz2 (K : PySem.W.Frag) (a b : Addr) : It :=
  ⟨fun i H => ∃ xs ys, SqT K H a xs ∧ SqT K H b ys ∧ i < xs.length ∧ i < ys.length,
   fun i H v H' => ∃ T, H T = none ∧ v = .ref T ∧ ∀ xs ys, SqT K H a xs → SqT K H b ys → ∃ x y, xs[i]? = some x ∧ ys[i]? = some y ∧ H' = upd H T (.tup [x, y]),
   fun i H => ∃ xs ys, SqT K H a xs ∧ SqT K H b ys ∧ (i = xs.length ∨ (i < xs.length ∧ i = ys.length))⟩
/-- a zip's objects, laid one behind another from n on -/
def ZipSt2 (n a b : Nat) (i : Nat) (h : Heap) : Prop := IsZip h (n + 4) (n + 2) (n + 3) .none ∧ IsPair h (n + 2) (.ref n) (.ref (n + 1)) ∧ (∃ x y, IsPair h (n + 3) x y) ∧ h.IsTupleIter n a i ∧ h.IsTupleIter (n + 1) b i
abbrev yo1 (h : Heap) (a : Addr) : Heap := h.push { cls := .type "tuple_iterator", data := .fields #[.ref a, .int 0 0] }
abbrev yo2 (h : Heap) (a b : Addr) : Heap := (yo1 h a).push { cls := .type "tuple_iterator", data := .fields #[.ref b, .int 0 0] }
abbrev yo3 (h : Heap) (a b : Addr) : Heap := (yo2 h a b).push { cls := .type "tuple", data := .seq #[.ref h.objs.size, .ref (yo1 h a).objs.size] }
abbrev yo4 (h : Heap) (a b : Addr) : Heap := (yo3 h a b).push { cls := .type "tuple", data := .seq #[.none, .none] }
abbrev yo5 (h : Heap) (a b : Addr) : Heap := (yo4 h a b).push { cls := .type "zip", data := .fields #[.none, .bool false, .bool false, .ref (yo2 h a b).objs.size, .ref (yo3 h a b).objs.size] }
def iZip2 (K : PySem.W.Frag) (ta : TA) : TI := fun σ H R => ta σ H fun vs H1 => ∃ a b, vs = [.ref a, .ref b] ∧ (∃ xs, SqT K H1 a xs) ∧ (∃ ys, SqT K H1 b ys) ∧ R (Itz2 K a b) H1
end L2

namespace L2
open PySem PySem.Spec PyProof.Rows
variable {X : Cx}
/-! ### list(d): the keys of a dict, texts -/
def rListD : List V → Hp → VK → Prop := fun xs H Q => ∃ a kvs, ∃ ss : List Str, xs = [.ref a] ∧ H a = some (.dK kvs) ∧ kvs.map (·.1) = ss.map Sum.inr ∧ ∀ p, H p = none → Q (.ref p) (upd H p (.lst (ss.map V.str)))
theorem strs_vals : ∀ {ss : List Str} {us : List Value}, StrsAre us ss → Vals (ss.map V.str) us
  | _, _, .nil => .nil
  | _, _, .cons x t r => .cons ⟨t, rfl⟩ (strs_vals r)
theorem call_listD (hc : X.calm = true) : CallR X (.type "list") rListD := by
  intro pins s σ H xs us Q I r h
  obtain ⟨a, kvs, ss, rfl, hH, hk, q⟩ := h
  obtain ⟨u, rfl, rx⟩ := vals1 r
  cases rx
  obtain ⟨z, lo, vs, rel, dd⟩ := dk_of I.hok hH
  obtain ⟨ep, hat⟩ := dd.dictAt
  refine PySem.W.kdl_call (PySem.W.kdl_dict (knd := mixKind X.prog X.w) (kvs := vs) (ep := ep) lo) (I.ok.hd hc) hat (by rw [← rel.length]; exact z) fun h' tk acc' c' hk' hS' hacc => ?_
  have hl : acc'.toList.length = vs.length := by rw [Array.length_toList]; exact hacc.1
  have hS := keys_strs (P := X.prog) (w := X.w) (ss := ss) (vs := vs) (acc := acc'.toList) (by rw [← rel.keys]; exact hk) hl (fun j v e => hacc.2 j v (by rw [← Array.getElem?_toList]; exact e))
  have hss : ss.length = kvs.length := by
    have := congrArg List.length hk
    rw [List.length_map, List.length_map] at this
    exact this.symm
  refine ⟨.ref _, _, I.laid (o := .lst (ss.map V.str)) hk' (Nat.le_refl _) ?_, rfl, q _ (I.hok.fresh (Nat.le_refl _))⟩
  exact ⟨by rw [List.length_map, hss]; exact z, acc'.toList, c', strs_vals hS, hS'⟩
/-! ### list(range(a, b, c)) -/
def tListRng3 (ta : TA) : TE := fun σ H Q => ta σ H fun vs H1 => ∃ i j c : Int, vs = [.int i, .int j, .int c] ∧ (-(2 ^ 20) ≤ i ∧ i < 2 ^ 20 ∧ -(2 ^ 20) ≤ j ∧ j < 2 ^ 20 ∧ 1 ≤ c ∧ c < 2 ^ 20) ∧ (j - i) / c ≤ 900 ∧
  ∀ p (ms : List Int), (∀ x ∈ ms, i ≤ x ∧ x < j) → (ms.length : Int) ≤ max 0 ((j - i - 1) / c + 1) → H1 p = none → Q (.ref p) (upd H1 p (.lst (ms.map V.int)))
end L2

namespace L2
open PySem PySem.Spec PyProof.Rows
variable {X : Cx}
/-! ### a dict walked: it is held still from then on -/
theorem Inv.freeze {pins : List (Addr × Obj)} {σ : St} {H : Hp} {s : Shared} (I : Inv X pins σ H s) {d : Addr} {kvs : List (Key × V)} {ob : Obj} (hH : H d = some (.dK kvs)) (ho : s.heap.get? d = some ob) :
    Inv X pins σ (upd H d (.frz ob (.dK kvs))) s := by
  have nd : ∀ b u, H b = some u → u ≠ .dK kvs → b ≠ d := fun b u e n z => by
    rw [z, hH] at e
    exact n (Option.some.inj e).symm
  refine I.step (g' := s.gens) (d' := s.drawn) (t' := s.toks) (h' := s.heap) (ch := []) (fun _ z => nomatch z) (fun b o _ _ _ e _ => e) (fun b o _ _ _ e _ => ⟨o.slots, e⟩) (fun b o _ e n => ?_) (fun b o _ e => ⟨o, e⟩) (fun b xs e => ?_) (fun b o u e => ?_) (fun b ps e => ⟨#[], ?_⟩) (fun m hm => hm) (fun b u e => ?_) I.bare
  · rw [upd_ne (fun z => by rw [z, hH] at n; cases n)]
    exact n
  · rw [upd_ne (nd b _ e (by intro z; cases z))]
    exact e
  · rw [upd_ne (nd b _ e (by intro z; cases z))]
    exact e
  · rw [upd_ne (nd b _ e (by intro z; cases z)), e]
    simp
  · have st : ∀ {a : Addr} {u : HO}, ObjOk X.prog X.w H s.heap a u → ObjOk X.prog X.w (upd H d (.frz ob (.dK kvs))) s.heap a u := fun x =>
      x.stay (fun c v _ q => q) (fun c q => by rw [upd_ne (nd c _ q (by intro z; cases z))]; exact q) fun c xs q => by rw [upd_ne (nd c _ q (by intro z; cases z))]; exact q
    by_cases e' : b = d
    · subst e'
      rw [upd_same] at e
      cases e
      exact ⟨ho, st (I.hok b _ hH)⟩
    · rw [upd_ne e'] at e
      exact st (I.hok b u e)
/-- the keys of a dict that is held still -/
def Itd (d : Addr) (ob : Obj) (kvs : List (Key × V)) : It :=
  ⟨fun i H => H d = some (.frz ob (.dK kvs)) ∧ i < kvs.length, fun i H v H' => H' = H ∧ ∃ kv, kvs[i]? = some kv ∧ v = kV kv.1, fun i H => H d = some (.frz ob (.dK kvs)) ∧ kvs.length ≤ i⟩
theorem key_rel {P : Program} {w : World} {k : Key} {v : Value} (h : (mixKind P w).is k v = true) : RelV (kV k) v := by
  cases k with
  | inl n =>
    obtain ⟨t, rfl⟩ := Value.isInt_shape (k := n) (v := v) h
    exact ⟨t, rfl⟩
  | inr x =>
    obtain ⟨t, rfl⟩ := Value.isStrOf_shape (x := x) (v := v) h
    exact ⟨t, rfl⟩
theorem turn_dict {P : Program} {w : World} {K : PySem.W.Frag} {tg : Expr} (d it : Addr) (ob : Obj) (kvs : List (Key × V)) (vs : List (Key × Value)) (ep : Nat) (rel : KV kvs vs) (hob : ∀ h : Heap, h.get? d = some ob → h.DictAt (mixKind P w) d vs ep) :
    Turn P w K tg (Itd d ob kvs) [it] it (fun i h => h.IsKeyIter it d i vs.length ep) where
  mem := by simp
  obj := fun i h st b hb => by
    have e : b = it := by simpa using hb
    subst e
    obtain ⟨o, e, c, d⟩ := st
    exact ⟨o, e, fun v z => by rw [d] at z; cases z⟩
  keep := fun i h h' st k => st.at fun o e => k it (by simp) o e
  item := by
    intro X hP hw hK hc i pins s σ H E I hf st hg
    subst hP hw hK
    obtain ⟨hfz, hi⟩ := hg
    have ho : s.heap.get? d = some ob := (show ObjOk X.prog X.w H s.heap d (.frz ob (.dK kvs)) from I.hok d _ hfz).1
    have hat := hob _ ho
    have hl := rel.length
    obtain ⟨⟨k, x⟩, hx⟩ : ∃ p, vs[i]? = some p := ⟨_, List.getElem?_eq_getElem (by omega)⟩
    obtain ⟨f0, f1, f2, f3, f4, f5⟩ := hf it (by simp)
    refine wpAny_pyNext_dict_item st hat hx fun key h' hkey st' sb => ?_
    have I1 : Inv X pins σ H { s with heap := h' } := I.turned (t' := s.toks) (fun b o hb e => (sb.2 b hb).trans e) f0 f1 f3 f4 f5
    obtain ⟨kv, hkv⟩ : ∃ kv, kvs[i]? = some kv := ⟨_, List.getElem?_eq_getElem hi⟩
    have ek : kv.1 = k := by
      have := congrArg (fun l => l[i]?) rel.keys
      simp only [List.getElem?_map, hkv, hx, Option.map_some] at this
      exact Option.some.inj this
    obtain ⟨o, e, c, d'⟩ := id st'
    exact ⟨key, rfl, go_of (s := { s with heap := h' }) e c d' (by decide) ⟨kV k, H, I1, key_rel hkey, ⟨rfl, kv, hkv, by rw [ek]⟩, st', fun b hb => (hf b hb).1⟩⟩
  done := by
    intro X hP hw hK hc i pins s σ H E I hf st hg
    subst hP hw hK
    obtain ⟨hfz, hi⟩ := hg
    have ho : s.heap.get? d = some ob := (show ObjOk X.prog X.w H s.heap d (.frz ob (.dK kvs)) from I.hok d _ hfz).1
    have hat := hob _ ho
    have hl := rel.length
    obtain ⟨f0, f1, f2, f3, f4, f5⟩ := hf it (by simp)
    exact wpAny_pyNext_dict_end (I.ok.hd hc) st hat (List.getElem?_eq_none (by omega)) fun h' eb => ⟨rfl, I.turned (t' := s.toks) (fun b o hb e => eb b o hb e) f0 f1 f3 f4 f5⟩
  self := fun _ _ _ _ _ st h => wpAny_pyIter_keyiter st h
def iDict (tl : TE) : TI := fun σ H R => tl σ H fun x H1 => ∃ d kvs, x = .ref d ∧ H1 d = some (.dK kvs) ∧ ∀ ob, R (Itd d ob kvs) (upd H1 d (.frz ob (.dK kvs)))
theorem pi_dict {tg l : Expr} {tl : TE} (hl : PE X l tl) : PI X tg l (iDict tl) := by
  intro pins s σ H R I h
  refine thn (hl pins s σ H _ I h) fun v s1 ⟨x, H1, I1, r1, q1⟩ => ?_
  obtain ⟨d, kvs, e, hH, q⟩ := q1
  subst e
  cases r1
  obtain ⟨z, lo, vs, rel, dd⟩ := dk_of I1.hok hH
  obtain ⟨ep, hat⟩ := dd.dictAt
  obtain ⟨ob, es, ho, rest⟩ := id hat
  refine wpAny_pyIter_dict lo hat ?_
  have I2 := I1.freeze hH ho
  refine ⟨s1.heap.objs.size, [s1.heap.objs.size], _, _, _, rfl, I2.kept (t' := s1.toks) fun b o e => Heap.get?_push_of_some _ e, turn_dict d _ ob kvs vs ep rel (fun h e => ⟨ob, es, e, rest⟩), ⟨_, Heap.get?_push_size _ rfl, rfl, rfl⟩, fun b hb => ?_, q ob⟩
  have e : b = s1.heap.objs.size := by simpa using hb
  subst e
  exact I2.fpOk (Nat.le_refl _) (I2.hok.fresh (Nat.le_refl _))
theorem Ys.dict {d : Addr} {ob : Obj} {kvs : List (Key × V)} {H1 : Hp} (h : H1 d = some (.frz ob (.dK kvs))) : Ys (Itd d ob kvs) (kvs.map fun kv => kV kv.1) H1 where
  go := fun i H s hi => ⟨s _ _ h, by rwa [List.length_map] at hi⟩
  yld := fun i H x H' s hi y => by
    obtain ⟨e, kv, hkv, rfl⟩ := y
    exact ⟨e, by rw [List.getElem?_map, hkv]; rfl⟩
  stop := fun i H s hi => ⟨s _ _ h, by rwa [List.length_map] at hi⟩
theorem for_dict {d : Addr} {ob : Obj} {kvs : List (Key × V)} {g : TG} {tb : TS} {D : Ends} {σ : St} {H : Hp} (Pv : Nat → St → Hp → Prop) (h0 : Pv 0 σ H) (hl : ∀ i σ H, i ≤ kvs.length → Pv i σ H → H d = some (.frz ob (.dK kvs)))
    (hs : ∀ i kv σ H, kvs[i]? = some kv → Pv i σ H → g (kV kv.1) σ H fun σ2 H2 => tb { D with nx := Pv (i + 1), ct := Pv (i + 1), bk := D.nx } σ2 H2) (hd : ∀ σ H, Pv kvs.length σ H → D.nx σ H) :
    ∃ W : Nat → Nat → St → Hp → Prop, (∃ m, W 0 m σ H) ∧ ∀ i m σ H, W i m σ H →
      ((Itd d ob kvs).stop i H ∧ D.nx σ H) ∨ ((Itd d ob kvs).go i H ∧ ∃ N : St → Hp → Prop, (∀ σ' H', N σ' H' → ∃ m', m' < m ∧ W (i + 1) m' σ' H') ∧ ∀ v H', (Itd d ob kvs).yld i H v H' → g v σ H' fun σ2 H2 => tb { D with nx := N, ct := N, bk := D.nx } σ2 H2) := by
  refine ⟨fun i m σ H => m = kvs.length - i ∧ i ≤ kvs.length ∧ Pv i σ H, ⟨kvs.length, by simp, Nat.zero_le _, h0⟩, ?_⟩
  rintro i m σ H ⟨rfl, hi, p⟩
  have q := hl i σ H hi p
  by_cases hlt : i < kvs.length
  · refine .inr ⟨⟨q, hlt⟩, Pv (i + 1), fun σ' H' p' => ⟨kvs.length - (i + 1), by omega, rfl, hlt, p'⟩, fun v H' y => ?_⟩
    obtain ⟨rfl, kv, hkv, rfl⟩ := y
    exact hs i kv σ H' hkv p
  · have e : i = kvs.length := by omega
    subst e
    exact .inl ⟨⟨q, Nat.le_refl _⟩, hd σ H p⟩
end L2

namespace K8
open PySem PySem.Spec PyProof.Rows L2 GM TM
abbrev sInit : Stmt := inClass (top 4) 0
/-- the classes of errors that are told apart; the fourth one is that of the error -/
structure ErN (K : PySem.W.Frag) (mg : Str → Option Value) (cP c1 c3 fI : Addr) : Prop where
  ex : PySem.W.excIn K c1 bmV "ValueError.__new__" = true
  ef : ExF K c3 cP fI "lies"
  ct : CtK K cP
  ct3 : CtK K c3
  s3 : PySem.W.subIn K (.ref c3) (.ref c3) = some true
  s : PySem.W.subIn K (.ref c3) (.ref cP) = some true
  bi : BaseI K cP
  iP : PySem.W.kitOne K (.ref c3) (.ref cP) = some true
  iV : PySem.W.kitOne K (.ref c3) (.type "ValueError") = some true
  mP : mg "PhialError" = some (.ref cP)
  m1 : mg "Nothing" = some (.ref c1)
  m3 : mg "Short" = some (.ref c3)
def spInit (c3 : Addr) : Sp := fun vs H Q _ => ∃ e v, vs = [.ref e, v] ∧ H e = some (exN e c3 none) ∧ ∀ dx, H dx = none → dx ≠ e → Q .non (upd (upd H e (exN e c3 (some dx))) dx (xdE dx [("lies", v)]))
/-- refused: an error of the class, with what lies there -/
def BadS (c3 : Addr) (v : V) (H : Hp) (E : XK) : Prop := ∀ dx H', Same H H' → H' dx = some (xdE dx [("lies", v)]) → E (.ref c3) (some dx) H'
theorem raise_bad {c3 : Addr} {v : V} {H : Hp} {E : XK} (h : BadS c3 v H E) : [v].length ≤ sizeLine ∧ ∀ e, H e = none → spInit c3 [.ref e, v] (upd H e (exN e c3 none)) (fun v H2 => v = .non ∧ ∃ dd, H2 e = some (exN e c3 dd) ∧ E (.ref c3) dd (rem H2 e)) E0 := by
  refine ⟨(by show 1 ≤ sizeLine; decide), fun e he => ⟨e, v, rfl, upd_same, fun dx hd ne => ⟨rfl, some dx, ?_, ?_⟩⟩⟩
  · rw [upd_ne (Ne.symm ne), upd_same]
  · have hd' : H dx = none := by
      rw [upd_ne ne] at hd
      exact hd
    refine h dx _ (fun b o hb => ?_) ?_
    · have n1 : b ≠ e := fun z => by rw [z, he] at hb; cases hb
      have n2 : b ≠ dx := fun z => by rw [z, hd'] at hb; cases hb
      rw [rem_ne n1, upd_ne n2, upd_ne n1, upd_ne n1]
      exact hb
    · rw [rem_ne ne, upd_same]
section
variable {P : Program} {w : World} {K : PySem.W.Frag} {mg : Str → Option Value} {base : Heap} {cP c1 c3 fI : Addr}
theorem scInit : FnScope ["self", "lies"] ["self", "lies"] (defScope sInit) := ⟨rfl, rfl, rfl, by decide +kernel, rfl, by decide +kernel, by decide +kernel⟩
theorem ok_init {f : Addr} {fd : FuncData} (F : Fun K "__init__" "Short.__init__" sInit f fd) (R : ErN K mg cP c1 c3 fI) : FnOk P w K mg base CX0 1 f fd ["self", "lies"] (spInit c3) := by
  refine F.ok scInit (fun vs H Q E h => ?_) (fun cdv A outer s H vs Q E hr h => ?_)
  · obtain ⟨_, _, rfl, _⟩ := h
    rfl
  · obtain ⟨e, v, rfl, he, k⟩ := h
    refine ⟨_, pss_cons (ps_expr (pe_binit rfl R.mP R.bi (pa_cons (pv 0) (pa_cons pe_str pa_nil))))
      (pss_one (ps_exN (C := c3) (P := cP) (f := fI) rfl (pv 0) (pv 1) rfl)), ?_⟩
    refine ⟨_, rfl, e, c3, none, fI, _, rfl, he, R.ef.i, ?_⟩
    exact ⟨_, rfl, _, rfl, e, rfl, he, R.ef, fun dx hd ne => k dx hd ne⟩
end
end K8

namespace K8
open PySem PySem.Spec PyProof.Rows L2 GM TM
def spLess (K : PySem.W.Frag) : Sp := fun vs H Q _ => ∃ (p q : Addr) (t1 b1 t2 b2 : Int), vs = [.ref p, .ref q] ∧ Tw K H p q t1 b1 t2 b2 ∧ Q (.bl (decide (t1 * b2 < t2 * b1))) H
def spMinus (K : PySem.W.Frag) : Sp := fun vs H Q _ => ∃ (p q : Addr) (t1 b1 t2 b2 : Int), vs = [.ref p, .ref q] ∧ Tw K H p q t1 b1 t2 b2 ∧ t2 * b1 ≤ t1 * b2 ∧
  RetT H Q [(t1 * b2 - t2 * b1) / G (t1 * b2 - t2 * b1) (b1 * b2), (b1 * b2) / G (t1 * b2 - t2 * b1) (b1 * b2)]
theorem fr_minus {M1 M2 t1 b1 n1 t2 b2 n2 : Int} (h1 : 0 < M1) (h2 : 0 < M2) (f1 : Fr M1 t1 b1 n1) (f2 : Fr M2 t2 b2 n2) (le : n2 * M1 ≤ n1 * M2) : t2 * b1 ≤ t1 * b2 ∧ Fr (M1 * M2) ((t1 * b2 - t2 * b1) / G (t1 * b2 - t2 * b1) (b1 * b2)) ((b1 * b2) / G (t1 * b2 - t2 * b1) (b1 * b2)) (n1 * M2 - n2 * M1) := by
  have e1 := f1.e
  have e2 := f2.e
  have a1 := f1.am.b1
  have a2 := f2.am.b1
  have bb : 1 ≤ b1 * b2 := mul1 a1 a2
  have MM : 0 < M1 * M2 := Int.mul_pos h1 h2
  have key : (t1 * b2 - t2 * b1) * (M1 * M2) = (n1 * M2 - n2 * M1) * (b1 * b2) := by grind
  have le' : 0 ≤ t1 * b2 - t2 * b1 := by
    have r : 0 ≤ (n1 * M2 - n2 * M1) * (b1 * b2) := Int.mul_nonneg (by omega) (by omega)
    rw [← key] at r
    exact Int.nonneg_of_mul_nonneg_left r MM
  refine ⟨by omega, low_amt le' bb, ?_⟩
  have c := low_cross (t1 * b2 - t2 * b1) (b1 * b2)
  generalize (t1 * b2 - t2 * b1) / G (t1 * b2 - t2 * b1) (b1 * b2) = x at *
  generalize b1 * b2 / G (t1 * b2 - t2 * b1) (b1 * b2) = y at *
  refine Int.eq_of_mul_eq_mul_right (show b1 * b2 ≠ 0 by omega) ?_
  grind
section
variable {P : Program} {w : World} {K : PySem.W.Frag} {mg : Str → Option Value} {base : Heap}
theorem scLess : FnScope ["one", "other"] ["one", "other"] (defScope sLess) := ⟨rfl, rfl, rfl, by decide +kernel, rfl, by decide +kernel, by decide +kernel⟩
theorem ok_less {f : Addr} {fd : FuncData} (F : Fun K "less" "less" sLess f fd) : FnOk P w K mg base CX0 1 f fd ["one", "other"] (spLess K) := by
  refine F.ok scLess (fun vs H Q E h => ?_) (fun cdv A outer s H vs Q E hr h => ?_)
  · obtain ⟨_, _, _, _, _, _, rfl, _⟩ := h
    rfl
  · obtain ⟨p, q, t1, b1, t2, b2, rfl, T, k⟩ := h
    refine ⟨_, pss_one (ps_ret (pe_cmpR op_lt (pe_op op_mulB (pit 0 0) (pit 1 1)) (pe_op op_mulB (pit 1 0) (pit 0 1)) (nomark _))), ?_⟩
    refine ⟨p, _, _, rfl, T.sp, rfl, q, _, _, rfl, T.sq, rfl, _, _, rfl, rfl, ⟨b6 T.st1, b6 T.sb2⟩, q, _, _, rfl, T.sq, rfl, p, _, _, rfl, T.sp, rfl, _, _, rfl, rfl, ⟨b6 T.st2, b6 T.sb1⟩, _, _, rfl, rfl, k⟩
theorem scMinus : FnScope ["one", "other"] ["one", "other"] (defScope sMinus) := ⟨rfl, rfl, rfl, by decide +kernel, rfl, by decide +kernel, by decide +kernel⟩
theorem ok_minus {f : Addr} {fd : FuncData} (F : Fun K "minus" "minus" sMinus f fd) (cE : Cal P w K mg base CX0 2 "less" ["one", "other"] (spLess K)) (cL : Cal P w K mg base CX0 2 "lowest_terms" ["top", "bottom"] spLow) : FnOk P w K mg base CX0 3 f fd ["one", "other"] (spMinus K) := by
  refine F.ok scMinus (fun vs H Q E h => ?_) (fun cdv A outer s H vs Q E hr h => ?_)
  · obtain ⟨_, _, _, _, _, _, rfl, _⟩ := h
    rfl
  · obtain ⟨p, q, t1, b1, t2, b2, rfl, T, le, k⟩ := h
    refine ⟨_, pss_cons (ps_if (pt_val (pe_cal cE hr rfl pass0 (pa_cons (pv 0) (pa_cons (pv 1) pa_nil)))) (pss_one ps_never) pss_nil)
      (pss_one (ps_ret (pe_cal cL hr rfl pass0 (pa_cons (pe_op op_sub (pe_op op_mulB (pit 0 0) (pit 1 1)) (pe_op op_mulB (pit 1 0) (pit 0 1))) (pa_cons (pe_op op_mulB (pit 0 1) (pit 1 1)) pa_nil))))), ?_⟩
    refine ⟨_, rfl, _, rfl, p, q, t1, b1, t2, b2, rfl, T, _, rfl, ?_⟩
    rw [decide_eq_false (by omega)]
    refine iteF ⟨p, _, _, rfl, T.sp, rfl, q, _, _, rfl, T.sq, rfl, _, _, rfl, rfl, ⟨b6 T.st1, b6 T.sb2⟩, q, _, _, rfl, T.sq, rfl, p, _, _, rfl, T.sp, rfl, _, _, rfl, rfl, ⟨b6 T.st2, b6 T.sb1⟩, _, _, rfl, rfl, ?_⟩
    exact ⟨p, _, _, rfl, T.sp, rfl, q, _, _, rfl, T.sq, rfl, _, _, rfl, rfl, ⟨b6 T.sb1, b6 T.sb2⟩, _, _, rfl, by omega, mul1 T.a1.b1 T.a2.b1, (T.sb1.mul T.sb2).mono (by decide), k⟩
end
end K8

namespace K8
open PySem PySem.Spec PyProof.Rows L2 GM TM
theorem Brt.sum {M N ta ba : Int} : ∀ {ys zs : List (Str × Int × Int)}, Brt M N ta ba ys zs → sumN (N * ba) zs = sumN M ys * ta
  | [], [], _ => by unfold sumN; simp
  | x :: xs, z :: zs, h => by
    have e1 : sumN M (x :: xs) = nOf M x + sumN M xs := by unfold sumN; rw [List.map_cons, List.sum_cons]
    have e2 : sumN (N * ba) (z :: zs) = nOf (N * ba) z + sumN (N * ba) zs := by unfold sumN; rw [List.map_cons, List.sum_cons]
    rw [e1, e2, fr_nOf h.2.1, h.2.2.sum, Int.add_mul]
  | [], _ :: _, h => h.elim
  | _ :: _, [], h => h.elim
theorem Brt.length {M N ta ba : Int} {ys zs : List (Str × Int × Int)} (h : Brt M N ta ba ys zs) : zs.length = ys.length := by
  have := congrArg List.length h.names
  rwa [List.length_map, List.length_map] at this
theorem Brt.nw {M N ta ba : Int} (y : Str) : ∀ {ys zs : List (Str × Int × Int)}, Brt M N ta ba ys zs → NW (N * ba) zs y = NW M ys y * ta
  | [], [], _ => by unfold NW sumN; simp
  | x :: xs, z :: zs, h => by
    rw [NW_cons, NW_cons, h.2.2.nw y, h.1, fr_nOf h.2.1, Int.add_mul]
    split
    · rfl
    · rw [Int.zero_mul]
  | [], _ :: _, h => h.elim
  | _ :: _, [], h => h.elim
theorem Brt.over {M N ta ba : Int} : ∀ {ys zs : List (Str × Int × Int)}, Brt M N ta ba ys zs → Over (N * ba) zs
  | [], [], _ => (fun _ h => nomatch h)
  | x :: xs, z :: zs, h => fun p hp => by
    rcases List.mem_cons.mp hp with rfl | hp
    · exact ⟨h.2.1.am, h.2.1.dvd⟩
    · exact h.2.2.over p hp
  | [], _ :: _, h => h.elim
  | _ :: _, [], h => h.elim
theorem nOf_le {M : Int} (hM : 0 < M) : ∀ {xs : List (Str × Int × Int)} {x : Str × Int × Int}, Over M xs → x ∈ xs → nOf M x ≤ sumN M xs
  | y :: r, x, h, hx => by
    have e : sumN M (y :: r) = nOf M y + sumN M r := by unfold sumN; rw [List.map_cons, List.sum_cons]
    have hr : Over M r := fun z hz => h z (List.mem_cons_of_mem _ hz)
    have n1 := sumN_nonneg hM hr
    have n2 : 0 ≤ nOf M y := (Fr.of (h y List.mem_cons_self).1 (h y List.mem_cons_self).2).nonneg hM
    rcases List.mem_cons.mp hx with rfl | hx
    · omega
    · have := nOf_le hM hr hx
      omega
theorem fr_scale {M1 M2 t b n1 n2 : Int} (h : Fr M1 t b n1) (h1 : 0 < M1) (e : n1 * M2 = n2 * M1) : Fr M2 t b n2 := by
  refine ⟨h.am, Int.eq_of_mul_eq_mul_right (show M1 ≠ 0 by omega) ?_⟩
  have := h.e
  calc t * M2 * M1 = t * M1 * M2 := by rw [Int.mul_right_comm]
    _ = n1 * b * M2 := by rw [this]
    _ = n1 * M2 * b := by rw [Int.mul_right_comm]
    _ = n2 * M1 * b := by rw [e]
    _ = n2 * b * M1 := by rw [Int.mul_right_comm]
theorem IsMx.scale {M1 M2 : Int} {f1 f2 : Str → Int} {ys : List (Str × Int × Int)} (h : IsMx M1 f1 ys) (h1 : 0 < M1) (h2 : 0 < M2) (e : ∀ y, f1 y * M2 = f2 y * M1) : IsMx M2 f2 ys := by
  refine ⟨h.pw, h.nd, fun y => ?_, fun p hp => fr_scale (h.fr p hp) h1 (e _)⟩
  rw [h.mem]
  have q := e y
  constructor
  · intro n z
    rw [z, Int.zero_mul] at q
    rcases Int.mul_eq_zero.mp q with w | w
    · exact n w
    · omega
  · intro n z
    rw [z, Int.zero_mul] at q
    rcases Int.mul_eq_zero.mp q.symm with w | w
    · exact n w
    · omega
/-- what a taking tells: what goes out, what is left, by the share ts over bs -/
structure Tkn (H : Hp) (r : Addr) (zs ls : List (Str × Int × Int)) (M ts bs : Int) (f : Str → Int) : Prop where
  at' : ∃ (o l : Addr) (vo vl : List V), H r = some (.tup [.ref o, .ref l]) ∧ H o = some (.tup vo) ∧ PrL H vo zs ∧ H l = some (.tup vl) ∧ PrL H vl ls
  z1 : IsMx (M * bs) (fun y => f y * ts) zs
  l1 : IsMx (M * bs) (fun y => f y * (bs - ts)) ls
structure Shr (M N ta ba ts bs : Int) : Prop where
  am : Amt ts bs
  le : ts ≤ bs
  e : ts * (N * ba) = ta * M * bs
  nn : N = 0 → ts = 0 ∧ bs = 1
structure TkIn (K : PySem.W.Frag) (H : Hp) (m a : Addr) (us : List V) (ys : List (Str × Int × Int)) (M ta ba : Int) (f : Str → Int) : Prop where
  I : Mixd K H m us ys M f
  sq : SqT K H a [.int ta, .int ba]
  am : Amt ta ba
  bt : Bt 200 ta
  bb : Bt 200 ba
  gr : ∀ ts bs, Shr M (sumN M ys) ta ba ts bs → Bt 2900 (M * bs) ∧ Bt 2900 (sumN M ys * bs)
def spTaken (K : PySem.W.Frag) (c3 : Addr) : Sp := fun vs H Q E => ∃ (m a : Addr) (us : List V) (ys : List (Str × Int × Int)) (M ta ba : Int) (f : Str → Int), vs = [.ref m, .ref a] ∧ TkIn K H m a us ys M ta ba f ∧
  (sumN M ys * ba < ta * M → ∀ (p : Addr) (t b : Int) dx H', Same H H' → SqT K H' p [.int t, .int b] → Fr M t b (sumN M ys) → H' dx = some (xdE dx [("lies", .ref p)]) → E (.ref c3) (some dx) H') ∧
  (ta * M ≤ sumN M ys * ba → ∀ r zs ls ts bs H', Same H H' → Shr M (sumN M ys) ta ba ts bs → Tkn H' r zs ls M ts bs f → Q (.ref r) H')
theorem br_any {K : PySem.W.Frag} {c1 m a : Addr} {us : List V} {ys : List (Str × Int × Int)} {M ta ba : Int} {f : Str → Int} {H : Hp} {Q : VK} {E : XK} (I : Mixd K H m us ys M f) (J : Askd K H a ta ba) (ne : ta ≠ 0 → ys ≠ [])
    (k : ∀ p vo zs H', Same H H' → H' p = some (.tup vo) → PrL H' vo zs → (ta = 0 → zs = []) → (ta ≠ 0 → Brt M (sumN M ys) ta ba ys zs) → Q (.ref p) H') : spBr K c1 [.ref m, .ref a] H Q E :=
  ⟨m, a, us, ys, M, f, ta, ba, rfl, I, J, fun z p H' s h => k p [] [] H' s h .nil (fun _ => rfl) (fun n => absurd z n), fun n e => absurd e (ne n), fun n _ p vs zs H' s h pz br => k p vs zs H' s h pz (fun z => absurd z n) (fun _ => br)⟩
theorem less_iff {M t b N ta ba : Int} (hM : 0 < M) (fr : Fr M t b N) : t * ba < ta * b ↔ N * ba < ta * M := by
  have e := fr.e
  have b1 := fr.am.b1
  have e1 : t * ba * M = N * ba * b := by grind
  have e2 : ta * b * M = ta * M * b := by grind
  constructor
  · intro h
    have := Int.mul_lt_mul_of_pos_right h hM
    rw [e1, e2] at this
    exact Int.lt_of_mul_lt_mul_right this (by omega)
  · intro h
    have := Int.mul_lt_mul_of_pos_right h (show 0 < b by omega)
    rw [← e1, ← e2] at this
    exact Int.lt_of_mul_lt_mul_right this (by omega)
section
variable {P : Program} {w : World} {K : PySem.W.Frag} {mg : Str → Option Value} {base : Heap} {cP c1 c3 fI : Addr}
theorem scTaken : FnScope ["one", "asked", "lies", "out", "left"] ["one", "asked"] (defScope sTaken) := ⟨rfl, rfl, rfl, by decide +kernel, rfl, by decide +kernel, by decide +kernel⟩
theorem nd5 : (["ware", "part", "out"] : List Str).Nodup := by decide +kernel
theorem ok_taken {f aN : Addr} {fd fdI : FuncData} (F : Fun K "taken" "taken" sTaken f fd) (sN : ∀ H : Hp, SqT K H aN [.int 0, .int 1]) (R : ErN K mg cP c1 c3 fI) (FI : FnOk P w K mg base CX0 1 fI fdI ["self", "lies"] (spInit c3)) (bI : Binds K fdI ["self", "lies"] [])
    (cW : Cal P w K mg base CX0 5 "whole" ["one"] (spWholeM K)) (cE : Cal P w K mg base CX0 5 "less" ["one", "other"] (spLess K)) (cB : Cal P w K mg base (CXg P w) 5 "brought" ["one", "asked"] (spBr K c1)) (cI : Cal P w K mg base CX0 5 "minus" ["one", "other"] (spMinus K))
    (cO : Cal P w K mg base CX0 5 "of_ware" ["one", "ware"] (spOfWare K aN)) (cM : Cal P w K mg base CX0 5 "mixture" ["pairs"] (spMixture K)) : FnOk P w K mg base (CXg P w) 6 f fd ["one", "asked"] (spTaken K c3) := by
  refine F.okF scTaken (fun vs H Q E h => ?_) (fun cdv A outer s H vs Q E hr h => ?_)
  · obtain ⟨_, _, _, _, _, _, _, _, rfl, _⟩ := h
    rfl
  · obtain ⟨m, a, us, ys, M, ta, ba, fn, rfl, B, kE, k⟩ := h
    refine ⟨_, (pss_cons (ps_set (i := 2) scTaken.nd rfl (Or.inl rfl) (pe_cal cW hr rfl pass0 (pa_cons (pv 0) pa_nil)))
      (pss_cons (ps_if (pt_val (pe_cal cE hr rfl pass0 (pa_cons (pv 2) (pa_cons (pv 1) pa_nil))))
        (pss_one (ps_raiseI (k := 1) rfl xe_f rfl (hr.mono (by decide)) rfl R.m3 R.ef.i FI bI (pa_cons (pv 2) pa_nil)))
        pss_nil)
      (pss_cons (ps_set (i := 3) scTaken.nd rfl (Or.inr rfl) (pe_cal cB hr rfl passY (pa_cons (pv 0) (pa_cons (pv 1) pa_nil))))
      (pss_cons (ps_compC (iy := 4) (N' := ["ware", "part", "out"]) (g := gTup K 2 (gCons (gName 0) (gCons (gName 1) gNil))) (fun σ => [none, none, some 3].map fun t => t.bind fun j => (σ[j]?).join) rfl rfl (by decide +kernel) (by decide +kernel)
          (hk_of (sc := defScope sTaken) rfl (by decide +kernel)) (fun _ _ _ => blkN_by (sc := defScope sTaken) (N := ["one", "asked", "lies", "out", "left"]) [none, none, some 3] rfl rfl rfl rfl (by decide +kernel))
          (pi_tup (pv 0)) (fun _ _ _ _ _ _ => pg_tup rfl (pgs_cons (pg_name (i := 0) nd5 rfl (Or.inl rfl) (Or.inr rfl)) (pgs_cons (pg_name (i := 1) nd5 rfl (Or.inl rfl) (Or.inr rfl)) pgs_nil)))
          (fun _ _ _ _ _ _ => pifs_nil)
          (fun _ _ _ _ _ _ => pe_tup (pa_cons (pv 0) (pa_cons (pe_cal cI hr rfl pass0 (pa_cons (pv 1) (pa_cons (pe_cal cO hr rfl pass0 (pa_cons (pv 2) (pa_cons (pv 0) pa_nil))) pa_nil))) pa_nil))) scTaken.nd rfl (Or.inl rfl) (Or.inr rfl) rfl)
      (pss_one (ps_ret (pe_tup (pa_cons (pv 3) (pa_cons (pe_cal cM hr rfl pass0 (pa_cons (pv 4) pa_nil)) pa_nil))))))))), ?_⟩
    obtain ⟨I, sq, am, bt, bb, gr⟩ := B
    have bM := I.bM
    have bN := I.bS
    have M0 := I.M0
    have ov := I.mx.over
    have ba1 := am.b1
    have ta0 := am.t0
    refine ⟨_, rfl, m, us, ys, M, rfl, I.sq, I.pr, ov, M0, bM.mono (by decide), fun i => ?_, fun g t b H1 s1 hg fr => ?_⟩
    · exact (bN.le (sumN_nonneg M0 (ov.take i)) (sumN_take M0 i ov)).mono (by decide)
    have sm := frSmall M0 fr
    have btg : Bt 2950 t := bN.le fr.am.t0 sm.1
    have bbg : Bt 2950 b := bM.le (by have := fr.am.b1; omega) sm.2
    refine ⟨_, rfl, _, rfl, g, a, t, b, ta, ba, rfl, ⟨hg, s1.tup sq, fr.am, am, btg.mono (by decide), bbg.mono (by decide), bt.mono (by decide), bb.mono (by decide)⟩, _, rfl, ite2 (fun hc => ?_) (fun hc => ?_)⟩
    · have lt := (less_iff (ta := ta) (ba := ba) M0 fr).mp (of_decide_eq_true hc)
      exact ⟨_, rfl, raise_bad fun dx H' sm' hd => kE lt g t b dx H' (s1.trans sm') (sm'.tup hg) fr hd⟩
    have le : ta * M ≤ sumN M ys * ba := by
      have : ¬ sumN M ys * ba < ta * M := fun z => hc (decide_eq_true ((less_iff M0 fr).mpr z))
      omega
    have ne : ta ≠ 0 → ys ≠ [] := fun n e => by
      rw [(I.mx.nil_iff M0).mp e, Int.zero_mul] at le
      have := Int.mul_pos (show 0 < ta by omega) M0
      omega
    have I1 := I.keep s1
    refine ⟨_, rfl, _, rfl, ?_⟩
    dsimp only [tNil, List.append_nil]
    refine br_any I1 ⟨s1.tup sq, am, bt.mono (by decide), bb.mono (by decide)⟩ ne fun p vo zs H2 s2 hp pz hz0 hz1 => ?_
    have I2 := I1.keep s2
    have ul := I.pr.length
    have yl := I.yl
    have N0 := sumN_nonneg M0 ov
    obtain ⟨ts, bs, sh, hzs⟩ : ∃ ts bs, Shr M (sumN M ys) ta ba ts bs ∧ IsMx (M * bs) (fun y => fn y * ts) zs := by
      by_cases en : sumN M ys = 0
      · have ey : ys = [] := (I.mx.nil_iff M0).mpr en
        have t0 : ta = 0 := Classical.byContradiction fun n => ne n ey
        refine ⟨0, 1, ⟨amt_one (by decide), by decide, by rw [t0]; simp, fun _ => ⟨rfl, rfl⟩⟩, ?_⟩
        rw [hz0 t0]
        exact ⟨.nil, .nil, fun y => by simp, fun p hp => nomatch hp⟩
      · have N1 : 0 < sumN M ys := by omega
        have tg1 : 1 ≤ t := by
          have := fr.am.t0
          have : t ≠ 0 := fun z => en ((fr.nought M0).mpr z)
          omega
        have b1 := fr.am.b1
        have n1 := Int.mul_nonneg ta0 (show 0 ≤ b by omega)
        have n2 := mul1 ba1 tg1
        have as := low_amt n1 n2
        have es := low_cross (ta * b) (ba * t)
        generalize ta * b / G (ta * b) (ba * t) = ts at as es
        generalize ba * t / G (ta * b) (ba * t) = bs at as es
        have e0 := fr.e
        have bs1 := as.b1
        have e1 : ts * (sumN M ys * ba) = ta * M * bs := by
          refine Int.eq_of_mul_eq_mul_right (show b ≠ 0 by omega) ?_
          grind
        have le' : ts ≤ bs := by
          have h1 : ts * (sumN M ys * ba) ≤ bs * (sumN M ys * ba) := by
            rw [e1, Int.mul_comm (ta * M) bs]
            exact Int.mul_le_mul_of_nonneg_left le (by omega)
          exact Int.le_of_mul_le_mul_right h1 (Int.mul_pos N1 (by omega))
        refine ⟨ts, bs, ⟨as, le', e1, fun z => absurd z en⟩, ?_⟩
        by_cases t0 : ta = 0
        · have ts0 : ts = 0 := by
            rw [t0, Int.zero_mul, Int.zero_mul] at e1
            rcases Int.mul_eq_zero.mp e1 with q | q
            · exact q
            · have := Int.mul_pos N1 (show 0 < ba by omega)
              omega
          rw [hz0 t0, ts0]
          exact ⟨.nil, .nil, fun y => by simp, fun p hp => nomatch hp⟩
        · refine IsMx.scale ((hz1 t0).mx t0 I.mx) (Int.mul_pos N1 (by omega)) (Int.mul_pos M0 (by omega)) fun y => ?_
          grind
    obtain ⟨gr1, gr2⟩ := gr ts bs sh
    have bs1 := sh.am.b1
    have ts0 := sh.am.t0
    have tl := sh.le
    have Mb0 : 0 < M * bs := Int.mul_pos M0 (by omega)
    refine ⟨_, rfl, m, rfl, ⟨_, I2.sq⟩, fun D hD => ?_⟩
    refine comp_rel (Ys.tup I2.sq) (fun i _ y H => ∃ x t b, ys[i]? = some x ∧ Pr H y (x.1, t, b) ∧ Fr (M * bs) t b (nOf M x * (bs - ts))) ?_ hD (by omega) (fun i x H' R hx sm' hR => ?_) (fun vs H' sm' hD' vl hv => ?_)
    · rintro i x y Ha Hb ⟨x, t, b, e, pr, fr⟩ tk
      exact ⟨x, t, b, e, pr.keep tk, fr⟩
    · obtain ⟨z, hz, pp, qz, rfl, h1, h2⟩ := I2.pr.get hx
      have h1' := SqT.of (K := K) (sm' _ _ h1)
      have h2' := SqT.of (K := K) (sm' _ _ h2)
      have zm := List.mem_of_getElem? hz
      have fz := I.mx.fr z zm
      have nz := fr_nOf fz
      have smz := frSmall M0 fz
      have nle := nOf_le M0 ov zm
      rw [nz] at nle
      have n0 := fz.nonneg M0
      have nn : ys ≠ [] := fun e => by rw [e] at zm; cases zm
      have N1 : 0 < sumN M ys := by
        have h2 : sumN M ys ≠ 0 := fun z => nn ((I.mx.nil_iff M0).mpr z)
        omega
      have btz : Bt 2950 z.2.1 := bN.le fz.am.t0 (by omega)
      have bbz : Bt 2950 z.2.2 := bM.le (by have := fz.am.b1; omega) smz.2
      have fin : ∀ {q : Addr} {t' b' : Int}, SqT K H' q [.int t', .int b'] → Fr (M * bs) t' b' (fn z.1 * ts) → Bt 4000 t' → Bt 4000 b' → spMinus K [.ref qz, .ref q] H' (fun v H5 => [V.str z.1, v].length ≤ sizeLine ∧ ∀ l, H5 l = none → R (.ref l) (upd H5 l (.tup [V.str z.1, v]))) E0 := fun {q t' b'} hq fq bt' bb' => by
        have key : fn z.1 * ts * M ≤ fn z.1 * (M * bs) := by
          rw [Int.mul_assoc]
          refine Int.mul_le_mul_of_nonneg_left ?_ n0
          rw [Int.mul_comm M bs]
          exact Int.mul_le_mul_of_nonneg_right tl (by omega)
        obtain ⟨l1, l2⟩ := fr_minus M0 Mb0 fz fq key
        refine ⟨qz, q, z.2.1, z.2.2, t', b', rfl, ⟨h2', hq, fz.am, fq.am, btz.mono (by decide), bbz.mono (by decide), bt', bb'⟩, l1, fun r H5 s5 h5 => ⟨(show 2 ≤ sizeLine by decide +kernel), fun l' hl' => ?_⟩⟩
        refine hR _ _ (s5.trans (Same.upd hl')) ⟨z, (z.2.1 * b' - t' * z.2.2) / G (z.2.1 * b' - t' * z.2.2) (z.2.2 * b'), z.2.2 * b' / G (z.2.1 * b' - t' * z.2.2) (z.2.2 * b'), hz, ⟨l', r, rfl, upd_same, Same.upd hl' _ _ h5⟩, ?_⟩
        rw [nz]
        refine fr_scale l2 (Int.mul_pos M0 Mb0) ?_
        grind
      refine ⟨pp, _, rfl, h1', rfl, _, _, rfl, _, _, rfl, rfl, ((Keep.refl _).set rfl).set rfl, ?_⟩
      refine ⟨_, rfl, _, rfl, _, rfl, _, rfl, p, vo, zs, z.1, rfl, SqT.of (sm' _ _ hp), pz.keep (Same.tk sm'), fun x qx hx' ex hq => ?_, fun no => ?_⟩
      · have fx := hzs.fr x hx'
        rw [ex] at fx
        have sx := frSmall Mb0 fx
        have nb : fn z.1 * ts ≤ sumN M ys * bs := Int.le_trans (Int.mul_le_mul_of_nonneg_left tl n0) (Int.mul_le_mul_of_nonneg_right nle (by omega))
        have bq : Bt 2900 x.2.1 := gr2.le fx.am.t0 (by omega)
        exact fin hq fx (bq.mono (by decide)) ((gr1.le (by have := fx.am.b1; omega) sx.2).mono (by decide))
      · have t0 : fn z.1 * ts = 0 := Classical.byContradiction fun n => by
          obtain ⟨x, hx', e⟩ := List.mem_map.mp ((hzs.mem z.1).mpr n)
          exact no x hx' e
        have b01 : ∀ {n : Int}, 0 ≤ n → n ≤ 1 → Bt 4000 n := fun h0 h1 => (bt_lt 2 (c := 2) h0 (by omega)).mono (by decide)
        exact fin (sN _) (by rw [t0]; exact Fr.zero) (b01 (by decide) (by decide)) (b01 (by decide) (by decide))
    · obtain ⟨lz, z1, z2⟩ := br_list (M := M) (N := M) (ta := bs - ts) (ba := bs) (H := H') ys vs (by omega) fun i x v hx hv' => by
        obtain ⟨u', hu'⟩ : ∃ u', us[i]? = some u' := ⟨_, List.getElem?_eq_getElem (by have := (List.getElem?_eq_some_iff.mp hx).1; omega)⟩
        obtain ⟨x', t, b, e, pr, fr⟩ := hv i u' v hu' hv'
        rw [hx] at e
        cases e
        exact ⟨t, b, pr, fr⟩
      have lzl := z2.length
      have sl : sumN (M * bs) lz = sumN M ys * (bs - ts) := z2.sum
      refine ⟨_, rfl, _, rfl, D, vs, lz, M * bs, rfl, SqL.of hD', z1, by omega, z2.over, Mb0, gr1.mono (by decide), ?_, fun m' zl ls H3 s3 hm' pl mx => ?_⟩
      · rw [sl]
        exact (gr2.le (Int.mul_nonneg N0 (by omega)) (Int.mul_le_mul_of_nonneg_left (by omega) N0)).mono (by decide)
      · refine ⟨(show 2 ≤ sizeLine by decide +kernel), fun r hr' => ?_⟩
        have s4 : Same H3 (upd H3 r (.tup [.ref p, .ref m'])) := Same.upd hr'
        refine k le r zs ls ts bs _ ((((s1.trans s2).trans sm').trans s3).trans s4) sh ⟨⟨p, m', vo, zl, upd_same, s4 _ _ (s3 _ _ (sm' _ _ hp)), pz.keep (Same.tk ((sm'.trans s3).trans s4)), s4 _ _ hm', pl.keep (Same.tk s4)⟩, hzs, (IsMx.of mx).congr fun y => ?_⟩
        rw [z2.nw y, I.mx.nw]
end
end K8

namespace L2
open PySem PySem.Spec PyProof.Rows
/-! ### for i, x in enumerate(xs), xs a list -/
/-- the i-th item of a list and i, in a new tuple -/
def Ite (K : PySem.W.Frag) (b : Addr) : It :=
  ⟨fun i H => ∃ ys, SqL K H b ys ∧ i < ys.length,
   fun i H v H' => ∃ T, H T = none ∧ v = .ref T ∧ ∀ ys, SqL K H b ys → ∃ y, ys[i]? = some y ∧ H' = upd H T (.tup [.int i, y]),
   fun i H => ∃ ys, SqL K H b ys ∧ i = ys.length⟩
/-- an enumerate's objects, laid one behind another from n on -/
def EnuSt (n b : Nat) (i : Nat) (h : Heap) : Prop := (∃ old, IsEnum h (n + 1) n (i : Int) old) ∧ h.IsListIter n b i
def iEnu (K : PySem.W.Frag) (ta : TA) : TI := fun σ H R => ta σ H fun vs H1 => ∃ b, vs = [.ref b] ∧ (∃ ys, SqL K H1 b ys) ∧ R (Ite K b) H1
end L2

namespace L2
open PySem PySem.Spec PyProof.Rows
/-! ### a op1 b op2 c op3 d -/
section
variable {X : Cx} {a b c d : Expr} {ta tb tc td : TE} {pos : Pos}
def tChain3 (r r' r'' : R2) (ta tb tc td : TE) : TE := fun σ H Q => ta σ H fun x H1 => tb σ H1 fun y H2 => r x y H2 fun z H3 => ∃ k, z = .bl k ∧
  (if k = true then tc σ H3 fun w' H4 => r' y w' H4 fun z' H5 => ∃ k', z' = .bl k' ∧ (if k' = true then td σ H5 fun w'' H6 => r'' w' w'' H6 Q else Q (.bl false) H5) else Q (.bl false) H3)
end
end L2

namespace L2
open PySem PySem.Spec PyProof.Rows
/-! ### a op1 b op2 c op3 d as a test -/
section
variable {X : Cx} {a b c d : Expr} {ta tb tc td : TE} {pos : Pos}
end
end L2

namespace L2
open PySem PySem.Spec PyProof.Rows
/-! ### <= of texts -/
theorem op_le_str {X : Cx} : OpR X (compareOp .LtE) (fun x y H Q => ∃ i j, x = .str i ∧ y = .str j ∧ Q (.bl (!decide (j.cps.toList < i.cps.toList))) H) := by
  intro pins s σ H x y v u Q I rx ry h
  obtain ⟨i, j, rfl, rfl, q⟩ := h
  obtain ⟨t, rfl⟩ := rx
  obtain ⟨t', rfl⟩ := ry
  exact P.le_str (fin_bl I q rfl)
end L2

namespace L2
open PySem PySem.Spec PyProof.Rows PySem.W
/-! ### try, with the names kept -/
/-- an exception of a callee that is called while the names are σ -/
def PassesAt (CX : CXT) (X : Cx) (σ : St) (E : XK) : Prop := ∀ (pins : List (Addr × Obj)) (H : Hp) (s : Shared) (e : Value) (s' : Shared), Inv X pins σ H s → CX X.stack H s E e s' → X.xe e s'
section
variable {X : Cx}
theorem run_fnS {CX : CXT} {k : Nat} {f : Addr} {fd : FuncData} {ps : List Str} {sp : Sp} {E : XK} {pins : List (Addr × Obj)} {σ : St} {H : Hp} {s : Shared} {Q : VK} {us : List Value} {vs : List V} (F : FnOk X.prog X.w X.K X.mg X.base CX k f fd ps sp) (hr : Room k X.A) (hb : Binds X.K fd ps []) (hx : PassesAt CX X σ E)
    (I : Inv X pins σ H s) (r : Vals vs us) (h : sp (vs ++ []) H Q E) : wpAny (model X.prog X.w) X.A (call (.ref f) us) (EP X pins σ Q) X.xe s := by
  have r2 : Vals (vs ++ []) (us ++ []) := r.append .nil
  have hl : (us ++ []).length = ps.length := by rw [← r2.length]; exact F.len _ _ _ _ h
  refine wpAny_call (codeAny_mono (F.run X.A X.stack s H ⟨us, []⟩ (us ++ []) (vs ++ []) Q E hr I.env0 (hb s us I.kIn hl) r2 h) fun r s' hq => ?_)
  cases r with
  | error e => exact hx pins H s e s' I hq
  | ok fl =>
    cases fl with
    | ret u => exact I.after hq
    | next => exact False.elim hq
    | brk => exact False.elim hq
    | cont => exact False.elim hq
theorem pe_calS {CX : CXT} {k : Nat} {x : Str} {ps : List Str} {sp : Sp} {E : XK} {e : Expr} {es : List Expr} {t : TA} {p pos : Pos} {σ : St} (C : Cal X.prog X.w X.K X.mg X.base CX k x ps sp) (hr : Room k X.A) (hg : Gl X x) (hx : PassesAt CX X σ E)
    (ha : PA X (e :: es) t) (hdb : (x == ("__debug__" : Str)) = false := by decide) (he : starEach (e :: es) X.env = (false, eval e X.env) :: starEach es X.env := by rfl) (hpl : (backTo pos (starEach es X.env)).any (·.1) = false := by rfl) :
    PE X (.Call (.Name x p) (e :: es) [] pos) (fun σ' H Q => σ' = σ ∧ tCall sp [] E t σ' H Q) := by
  obtain ⟨f, fd, hm, hk, hb, F⟩ := C.ex
  intro pins s σ' H Q I h
  obtain ⟨es', h⟩ := h
  subst es'
  refine wpAny_Call_Name_kw (ld_glob I hg hm ?_ hdb)
  refine PySem.W.callWith_K (h₀ := X.base) I.ok.mod.kin hk (thn (ha pos pins s σ' H _ I h) fun us s1 ⟨vs, H1, I1, r, q⟩ => ⟨I1.kIn, ?_⟩) he hpl
  exact run_fnS F hr hb hx I1 r q
/-- as tTry, of a body that changes no name: the others stay -/
def tTryS (K : Frag) (i j : Nat) (Dc : Addr) (tb : St → XK → TS) : TS := fun D σ H => tb σ (fun cls dd H' => ∃ C, cls = .ref C ∧ ExK K C ∧ subIn K (.ref C) (.ref Dc) = some true ∧ ∀ a, H' a = none → D.nx (((σ.set i (some (.ref a))).set j (some (.ref a))).set i none) (upd H' a (excD a C dd))) D σ H
theorem ps_tryS {body : List Stmt} {tb : St → XK → TS} {d n y : Str} {dp np py apos hpos pos : Pos} {i j : Nat} {Dc : Addr} (O : OwnF X) (hg : Gl X d) (hm : X.mg d = some (.ref Dc)) (F : CtK X.K Dc) (hN : X.N.Nodup) (hi : X.N[i]? = some n)
    (hki : X.env.scope.names.lookup n = some .local) (hj : X.N[j]? = some y) (hkj : X.env.scope.names.lookup y = some .local) (hij : i ≠ j)
    (hb : ∀ (pins : List (Addr × Obj)) (E' : Value → Shared → Prop) (σ : St) (Ec : XK), PassesAt (CXg X.prog X.w) (X.trying pins E') σ Ec → PSs (X.trying pins E') body (tb σ Ec))
    (hdb : (d == ("__debug__" : Str)) = false := by decide) (hnb : (n == ("__debug__" : Str)) = false := by decide) (hnc : (n == ("__classdict__" : Str)) = false := by decide)
    (hs : swapsWith (.Name n np) (some (.Name y py)) apos.line X.env = pure false := by rfl) :
    PS X (.Try body [.ExceptHandler (some (.Name d dp)) (some n) [.Assign [.Name y py] (.Name n np) apos] hpos] [] [] pos) (tTryS X.K i j Dc tb) := by
  intro pins s σ H D I h
  refine wpAny_Try_except (wpAny_mono (hb pins _ σ _ ?hp [] s σ H D (I.trying _) h) (fun f s1 z => ?_) fun _ _ z => z)
  case hp =>
    intro pl Hc sc e s' I0 hx
    have I1 : Inv X pins σ Hc sc := I0.tried
    obtain ⟨ea, C, dd, H', rfl, Fl, C', e1, FK, hsub, hk⟩ := hx
    cases e1
    obtain ⟨B, hok, fl, bk, th⟩ := Fl.fl
    have hfr : X.A.frames = some (X.env :: X.outer) := by rw [← O.stk]; exact I1.ok.frames
    have fl' : FlyD B (X.env :: X.outer) ea (.ref C) dd .none s'.heap := by rw [← O.stk]; exact fl
    have hBe : B.get? ea = none := fl.no
    refine noteD hfr O.fr fl' fun h4 held4 up4 => ?_
    refine flightD held4 fun h5 fl5 up5 => ?_
    have mk : ∀ h6 : Heap, B.StaysIn h6 → s'.heap.UpToSlots h6 → Inv X pins σ H' { s' with heap := h6 } := fun h6 st up =>
      I1.call' (s' := { s' with heap := h6 }) (ch := []) Fl.os (un_here I1 Fl.un bk th st up) (hok.kept st) Fl.bare (by simp)
    have I5 := mk h5 fl5.st (up4.trans up5)
    obtain ⟨ob, _, hob, hobc, _, _⟩ := fl5.at
    refine wpAny_handleBy_cons (codeAny_handlers_test (ld_glob (I5.within (.ref ea)) hg hm ?_ hdb)) (by intro q; cases q)
    refine exc_matches I5.kIn ⟨hob, hobc⟩ F hsub ?_
    refine codeAny_handlers_suite_as ?_
    refine flightD fl5 fun h6 fl6 up6 => ?_
    have I6 := mk h6 fl6.st ((up4.trans up5).trans up6)
    obtain ⟨ob6, ws, hob6, hobc6, hobdd, hobd6⟩ := fl6.at
    -- the error stood nowhere ahead of the call
    have nfr : ea ∉ frs X.stack := fun z => by
      obtain ⟨_, o', ho', hnf⟩ := I6.stack.mem z
      rw [hob6] at ho'
      cases ho'
      exact hnf ws hobd6
    have nsc : sc.heap.get? ea = none := by
      cases q : sc.heap.get? ea with
      | none => rfl
      | some o =>
        obtain ⟨o', e'⟩ := th ea o q nfr
        rw [hBe] at e'
        cases e'
    have nH : H' ea = none := by
      cases q : H' ea with
      | none => rfl
      | some o =>
        exfalso
        have lt := hok.lt q
        obtain ⟨o', e'⟩ : ∃ o', B.get? ea = some o' := by
          exact objThere (hok ea o q)
        rw [hBe] at e'
        cases e'
    have n0 : X.s₀.heap.get? ea = none := by
      cases q : X.s₀.heap.get? ea with
      | none => rfl
      | some o =>
        obtain ⟨o', e'⟩ := I1.base.there ea o q (by rw [O.ex]; simp)
        rw [nsc] at e'
        cases e'
    have nL : ea ≠ X.env.locals := fun z => by
      obtain ⟨m, ⟨oL, _, _, hoL, _⟩, _⟩ := I1.loc
      rw [← z, nsc] at hoL
      cases hoL
    have I7 : Inv X pins σ (upd H' ea (excD ea C dd)) { s' with heap := h6 } := I6.track nH n0 nL
      (fun x c q z => by obtain ⟨v, o, ho, _⟩ := I1.cell x c q; rw [z, nsc] at ho; cases ho)
      (fun p q z => by have := (I1.pin p q).1; rw [z, nsc] at this; cases this)
      ⟨⟨ob6, ⟨hob6, hobc6⟩, hobdd, _, hobd6⟩, ⟨ob6, hob6⟩, fun h1 h2 ⟨o, ho, hd⟩ k => ⟨o, ⟨k o ho.at_, ho.cls⟩, hd⟩⟩
    have J := I7.within (.ref ea)
    refine store_ok (X := X.within (.ref ea)) J hN hi (.inl hki) (show RelV (.ref ea) (.ref ea) from rfl) (fun s8 I8 => ?_) (.inr hki)
    have hiσ : i < σ.length := by rw [I1.len]; exact (List.getElem?_eq_some_iff.mp hi).1
    have z := pss_one (ps_set (X := X.within (.ref ea)) (pos := apos) (pos' := py) (i := j) hN hj (.inl hkj) (pe_var (X := X.within (.ref ea)) (pos := np) hi (.inl hki) hnb hnc) hs (.inr hkj)) pins s8 (σ.set i (some (.ref ea))) (upd H' ea (excD ea C dd))
      { nx := fun σ9 H9 => σ9 = (σ.set i (some (.ref ea))).set j (some (.ref ea)) ∧ H9 = upd H' ea (excD ea C dd), rt := fun _ _ => False } I8 ⟨_, List.getElem?_set_self hiσ, rfl, rfl⟩
    refine wpAny_mono z (fun f s9 hf => ?_) (fun _ _ q => q.elim)
    cases f with
    | next =>
      obtain ⟨σ9, H9, I9, rfl, rfl⟩ := hf
      refine name_gone (I9.without I1.ok) hN hi hki fun s10 I10 => ?_
      exact ⟨_, _, I10, hk ea nH⟩
    | brk => obtain ⟨_, _, _, q⟩ := hf; exact q.elim
    | cont => obtain ⟨_, _, _, q⟩ := hf; exact q.elim
    | ret u => obtain ⟨_, _, _, _, _, q⟩ := hf; exact q.elim
  · have z' := SP.tried z
    cases f with
    | next => exact wpAny_execs_nil z'
    | brk => exact z'
    | cont => exact z'
    | ret u => exact z'
end
end L2
namespace L2
open PySem PySem.Spec PyProof.Rows
variable {X : Cx}
/-! ### a dict that is held still, read -/
def rSortDSR : List V → Hp → VK → Prop := fun xs H Q => ∃ a kvs, ∃ ss : List Str, xs = [.ref a] ∧ Rd H a (.dK kvs) ∧ kvs.map (·.1) = ss.map Sum.inr ∧ kvs.length < 64 ∧ ∀ (p : Addr) (ss' : List Str), ss'.Perm ss → sortedS ss' = true → H p = none → Q (.ref p) (upd H p (.lst (ss'.map V.str)))
def tListValsR (td : TE) : TE := fun σ H Q => td σ H fun x H1 => ∃ a kvs, x = .ref a ∧ Rd H1 a (.dK kvs) ∧ ∀ p, H1 p = none → Q (.ref p) (upd H1 p (.lst (kvs.map (·.2))))
end L2

namespace L2
open PySem PySem.Spec PyProof.Rows
/-! ### heaps that grow, in which dicts may come to be held still -/
def Fz (H H' : Hp) : Prop := ∀ b o, H b = some o → H' b = some o ∨ ∃ ob kvs, o = .dK kvs ∧ H' b = some (.frz ob (.dK kvs))
/-- d is held still, all else is as it was -/
def Hld (d : Addr) (ob : Obj) (kvs : List (Key × V)) (H H' : Hp) : Prop := H' d = some (.frz ob (.dK kvs)) ∧ (∀ b, b ≠ d → H' b = H b) ∧ (H d = some (.dK kvs) ∨ H d = some (.frz ob (.dK kvs)))
section
variable {X : Cx}
/-- a dict walked that may be held still already -/
def iDictR (tl : TE) : TI := fun σ H R => tl σ H fun x H1 => ∃ d kvs, x = .ref d ∧ Rd H1 d (.dK kvs) ∧ ∀ ob H2, Hld d ob kvs H1 H2 → R (Itd d ob kvs) H2
/-! ### dict(d), isinstance(d, dict) -/
def rDictD : List V → Hp → VK → Prop := fun xs H Q => ∃ a kvs, xs = [.ref a] ∧ Rd H a (.dK kvs) ∧ ∀ p, H p = none → Q (.ref p) (upd H p (.dK kvs))
/-! ### == and != of dicts that tell the same -/
/-- each value of the one is told by the other -/
def DDeq (K : PySem.W.Frag) (H : Hp) (ka kb : List (Key × V)) : Prop := ka.length = kb.length ∧ ∀ kv ∈ ka, ∃ v' d, valV kb kv.1 = some v' ∧ Dv K H 30 kv.2 d ∧ Dv K H 30 v' d
theorem hits_of {pins : List (Addr × Obj)} {σ : St} {H : Hp} {s : Shared} (I : Inv X pins σ H s) {A : Around} (hu : A.units + 30 < cLine) {kb : List (Key × V)} {vb : List (Key × Value)} (rb : KV kb vb) :
    ∀ {ka : List (Key × V)} {va : List (Key × Value)}, KV ka va → (∀ kv ∈ ka, ∃ v' d, valV kb kv.1 = some v' ∧ Dv X.K H 30 kv.2 d ∧ Dv X.K H 30 v' d) → PySem.W.KeqHits A s vb va true := fun {ka va} ra => by
  unfold KV at ra
  induction ra with
  | nil => exact fun _ => .nil
  | @cons p q ps qs h t ih =>
    intro hk
    obtain ⟨h1, h2⟩ := h
    obtain ⟨v', d, e1, d1, d2⟩ := hk p List.mem_cons_self
    have rv := rb.val p.1
    rw [e1] at rv
    cases hy : valueAt vb p.1 with
    | none => rw [hy] at rv; exact rv.elim
    | some y =>
      rw [hy] at rv
      have ee : SeqAt.EqAt A s q.2 y true := (d1.eq d2).at I hu h2 rv
      have := PySem.W.KeqHits.hit (k := q.1) (v := q.2) (by rw [← h1]; exact hy) ee (ih fun kv hkv => hk kv (List.mem_cons_of_mem _ hkv))
      exact this
def rNeDD (K : PySem.W.Frag) : R2 := fun x y H Q => ∃ a b ka kb, x = .ref a ∧ y = .ref b ∧ Rd H a (.dK ka) ∧ Rd H b (.dK kb) ∧ DDeq K H ka kb ∧ Q (.bl false) H
def rEqDD (K : PySem.W.Frag) : R2 := fun x y H Q => ∃ a b ka kb, x = .ref a ∧ y = .ref b ∧ Rd H a (.dK ka) ∧ Rd H b (.dK kb) ∧ DDeq K H ka kb ∧ Q (.bl true) H
theorem op_neDD (hu : X.A.units + 64 < cLine) : OpR X (compareOp .NotEq) (rNeDD X.K) := by
  intro pins s σ H x y v u Q I rx ry h
  obtain ⟨a, b, ka, kb, rfl, rfl, ha, hb, ⟨hl, hk⟩, q⟩ := h
  cases rx; cases ry
  obtain ⟨_, la, va, ra, da⟩ := dk_rd I.hok ha
  obtain ⟨_, lb, vb, rb, db⟩ := dk_rd I.hok hb
  refine PySem.W.keq_ne la lb da db (by omega) (fun _ => hits_of I (by show X.A.units + 1 + 30 < cLine; omega) rb ra hk) ?_
  have e : (va.length == vb.length && true) = true := by rw [← ra.length, ← rb.length, hl]; simp
  rw [e]
  exact ⟨.bl false, H, I, rfl, q⟩
theorem op_eqDD (hu : X.A.units + 64 < cLine) : OpR X (compareOp .Eq) (rEqDD X.K) := by
  intro pins s σ H x y v u Q I rx ry h
  obtain ⟨a, b, ka, kb, rfl, rfl, ha, hb, ⟨hl, hk⟩, q⟩ := h
  cases rx; cases ry
  obtain ⟨_, la, va, ra, da⟩ := dk_rd I.hok ha
  obtain ⟨_, lb, vb, rb, db⟩ := dk_rd I.hok hb
  refine PySem.W.keq_eq la lb da db (by omega) (fun _ => hits_of I (by show X.A.units + 1 + 30 < cLine; omega) rb ra hk) ?_
  have e : (va.length == vb.length && true) = true := by rw [← ra.length, ← rb.length, hl]; simp
  rw [e]
  exact ⟨.bl true, H, I, rfl, q⟩
end
end L2

namespace K8
open PySem PySem.Spec PyProof.Rows L2 GM TM
theorem pd_mono {α β : Type} {R R' : α → β → Prop} (k : ∀ a b, R a b → R' a b) : ∀ {xs : List α} {ys : List β}, Paired R xs ys → Paired R' xs ys
  | _, _, .nil => .nil
  | _, _, .cons h t => .cons (k _ _ h) (pd_mono k t)
theorem pd_snoc {α β : Type} {R : α → β → Prop} : ∀ {xs : List α} {ys : List β} {a : α} {b : β}, Paired R xs ys → R a b → Paired R (xs ++ [a]) (ys ++ [b])
  | _, _, _, _, .nil, r => .cons r .nil
  | _, _, _, _, .cons h t, r => .cons h (pd_snoc t r)
theorem pd_len {α β : Type} {R : α → β → Prop} : ∀ {xs : List α} {ys : List β}, Paired R xs ys → xs.length = ys.length
  | _, _, .nil => rfl
  | _, _, .cons _ t => by rw [List.length_cons, List.length_cons, pd_len t]
theorem same_own {H H' : Hp} {p : Addr} {o : HO} (s : Same H H') (n : H p = none) : Same H (upd H' p o) := fun b u e => by
  rw [upd_ne (fun z => by rw [z, n] at e; cases e)]
  exact s _ _ e
theorem same_none {H H' : Hp} {p : Addr} (s : Same H H') (n : H' p = none) : H p = none := by
  cases e : H p with
  | none => rfl
  | some o =>
    have := s _ _ e
    rw [n] at this
    cases this
/-- a mixture told as a dict -/
def TD (H : Hp) (kvs : List (Key × V)) (ys : List (Str × Int × Int)) : Prop := Paired (fun (kv : Key × V) (x : Str × Int × Int) => kv.1 = Sum.inr x.1 ∧ ∃ q, kv.2 = .ref q ∧ H q = some (.tup [.int x.2.1, .int x.2.2])) kvs ys
theorem TD.keep {H H' : Hp} {kvs : List (Key × V)} {ys : List (Str × Int × Int)} (h : TD H kvs ys) (s : Tk H H') : TD H' kvs ys := pd_mono (fun kv x ⟨e, q, e1, e2⟩ => ⟨e, q, e1, s _ _ e2⟩) h
theorem TD.look {H : Hp} {y : Str} : ∀ {kvs : List (Key × V)} {ys : List (Str × Int × Int)}, TD H kvs ys → (∃ x ∈ ys, x.1 = y ∧ ∃ q, valV kvs (Sum.inr y) = some (.ref q) ∧ H q = some (.tup [.int x.2.1, .int x.2.2])) ∨ (valV kvs (Sum.inr y) = none ∧ y ∉ ys.map (·.1))
  | _, _, .nil => .inr ⟨rfl, fun h => nomatch h⟩
  | kv :: _, x :: _, .cons ⟨e, q, e1, e2⟩ t => by
    by_cases h : x.1 = y
    · refine .inl ⟨x, List.mem_cons_self .., h, q, ?_, e2⟩
      rw [valV_pos (by rw [e, h]), e1]
    · rw [valV_neg (by rw [e]; exact fun z => h (Sum.inr.inj z))]
      rcases TD.look (y := y) t with ⟨x', hx', r⟩ | ⟨r1, r2⟩
      · exact .inl ⟨x', List.mem_cons_of_mem _ hx', r⟩
      · refine .inr ⟨r1, fun z => ?_⟩
        rw [List.map_cons] at z
        rcases List.mem_cons.mp z with z | z
        · exact h z.symm
        · exact r2 z
theorem TD.keys {H : Hp} : ∀ {kvs : List (Key × V)} {ys : List (Str × Int × Int)}, TD H kvs ys → kvs.map (·.1) = (ys.map (·.1)).map Sum.inr
  | _, _, .nil => rfl
  | kv :: _, x :: _, .cons ⟨e, _⟩ t => by rw [List.map_cons, List.map_cons, List.map_cons, e, TD.keys t]
/-- a dict of amounts: f's numbers over M -/
structure FD (H : Hp) (d : Addr) (kvs : List (Key × V)) (ks : List Str) (M : Int) (f : Str → Int) : Prop where
  hd : H d = some (.dK kvs)
  ky : kvs.map (·.1) = ks.map Sum.inr
  ln : kvs.length ≤ 63
  at' : ∀ y, (∃ q t b, valV kvs (Sum.inr y) = some (.ref q) ∧ H q = some (.tup [.int t, .int b]) ∧ Fr M t b (f y) ∧ Bt 3000 t ∧ Bt 3000 b) ∨ (valV kvs (Sum.inr y) = none ∧ f y = 0)
theorem FD.keep {H H' : Hp} {d : Addr} {kvs : List (Key × V)} {ks : List Str} {M : Int} {f : Str → Int} (h : FD H d kvs ks M f) (s : Same H H') : FD H' d kvs ks M f :=
  ⟨s _ _ h.hd, h.ky, h.ln, fun y => (h.at' y).imp (fun ⟨q, t, b, e1, e2, r⟩ => ⟨q, t, b, e1, s _ _ e2, r⟩) id⟩
theorem FD.scale {H : Hp} {d : Addr} {kvs : List (Key × V)} {ks : List Str} {M M2 : Int} {f f2 : Str → Int} (h : FD H d kvs ks M f) (h1 : 0 < M) (h2 : 0 < M2) (e : ∀ y, f y * M2 = f2 y * M) : FD H d kvs ks M2 f2 :=
  ⟨h.hd, h.ky, h.ln, fun y => by
    rcases h.at' y with ⟨q, t, b, e1, e2, fr, r⟩ | ⟨e1, e2⟩
    · exact .inl ⟨q, t, b, e1, e2, fr_scale fr h1 (e y), r⟩
    · refine .inr ⟨e1, ?_⟩
      have := e y
      rw [e2, Int.zero_mul] at this
      rcases Int.mul_eq_zero.mp this.symm with z | z
      · exact z
      · omega⟩
theorem FD.get {H : Hp} {d : Addr} {kvs : List (Key × V)} {ks : List Str} {M : Int} {f : Str → Int} (h : FD H d kvs ks M f) (y : Str) {z : Addr} (hz : H z = some (.tup [.int 0, .int 1])) : ∃ q t b, (valV kvs (Sum.inr y)).getD (.ref z) = .ref q ∧ H q = some (.tup [.int t, .int b]) ∧ Fr M t b (f y) ∧ Bt 3000 t ∧ Bt 3000 b := by
  rcases h.at' y with ⟨q, t, b, e1, e2, r⟩ | ⟨e1, e2⟩
  · exact ⟨q, t, b, by rw [e1]; rfl, e2, r⟩
  · have b01 : ∀ {n : Int}, 0 ≤ n → n ≤ 1 → Bt 3000 n := fun h0 h1 => (bt_lt 2 (c := 2) h0 (by omega)).mono (by decide)
    exact ⟨z, 0, 1, by rw [e1]; rfl, hz, by rw [e2]; exact Fr.zero, b01 (by decide) (by decide), b01 (by decide) (by decide)⟩
theorem TD.fd {H : Hp} {d : Addr} {kvs : List (Key × V)} {ys : List (Str × Int × Int)} {M : Int} {f : Str → Int} (h : TD H kvs ys) (hd : H d = some (.dK kvs)) (mx : IsMx M f ys) (M0 : 0 < M) (yl : ys.length ≤ 63) (bM : Bt 3000 M) (bS : Bt 3000 (sumN M ys)) : FD H d kvs (ys.map (·.1)) M f :=
  ⟨hd, h.keys, by rw [pd_len h]; exact yl, fun y => by
    rcases h.look (y := y) with ⟨x, hx, e, q, e1, e2⟩ | ⟨e1, e2⟩
    · have fr := mx.fr x hx
      have sm := frSmall M0 fr
      have nle := nOf_le M0 mx.over hx
      rw [fr_nOf fr] at nle
      exact .inl ⟨q, x.2.1, x.2.2, e1, e2, e ▸ fr, bS.le fr.am.t0 (by omega), bM.le (by have := fr.am.b1; omega) sm.2⟩
    · exact .inr ⟨e1, Classical.byContradiction fun n => e2 ((mx.mem y).mpr n)⟩⟩
def spAsDict (K : PySem.W.Frag) : Sp := fun vs H Q _ => ∃ (m : Addr) (us : List V) (ys : List (Str × Int × Int)), vs = [.ref m] ∧ SqT K H m us ∧ PrL H us ys ∧ ys.length ≤ 63 ∧ (ys.map (·.1)).Pairwise leS ∧ (ys.map (·.1)).Nodup ∧ (∀ x ∈ ys, 1 ≤ x.1.length ∧ Amt x.2.1 x.2.2 ∧ x.2.1 ≠ 0) ∧
  ∀ d kvs H', Same H H' → H d = none → H' d = some (.dK kvs) → TD H' kvs ys → Q (.ref d) H'
def spIsSum : Sp := fun vs H Q _ => ∃ d1 d2 d3 k1 k2 k3 s1 s2 s3 M f1 f2 f3, vs = [.ref d1, .ref d2, .ref d3] ∧ FD H d1 k1 s1 M f1 ∧ FD H d2 k2 s2 M f2 ∧ FD H d3 k3 s3 M f3 ∧ 0 < M ∧ (∀ y, f1 y = f2 y + f3 y) ∧ ∀ H', Same H H' → Q (.bl true) H'
def spSum (K : PySem.W.Frag) : Sp := fun vs H Q _ => ∃ (p q : Addr) (t1 b1 t2 b2 : Int), vs = [.ref p, .ref q] ∧ Tw K H p q t1 b1 t2 b2 ∧ RetT H Q [(t1 * b2 + t2 * b1) / G (t1 * b2 + t2 * b1) (b1 * b2), (b1 * b2) / G (t1 * b2 + t2 * b1) (b1 * b2)]
theorem lt_nil {x : Str} (h : 1 ≤ x.length) : ([] : List Nat) < x.cps.toList := by
  have : x.cps.toList ≠ [] := fun e => by
    have h' : 1 ≤ x.cps.size := h
    have := congrArg List.length e
    simp at this
    rw [this] at h'
    simp at h'
  cases e : x.cps.toList with
  | nil => exact absurd e this
  | cons a r => exact List.nil_lt_cons ..
section
variable {P : Program} {w : World} {K : PySem.W.Frag} {mg : Str → Option Value} {base : Heap}
theorem scAsDict : FnScope ["_law_found", "_law_told", "_law_last", "_law_pair"] ["_law_found"] (defScope sAsDict) := ⟨rfl, rfl, rfl, by decide +kernel, rfl, by decide +kernel, by decide +kernel⟩
theorem ok_asdict {f : Addr} {fd : FuncData} (F : Fun K "_law_as_dict" "_law_as_dict" sAsDict f fd) (T : Txt mg) (cA : Cal P w K mg base CX0 2 "_law_is_amount" ["_law_found"] (spIsAm K)) : FnOk P w K mg base CX0 3 f fd ["_law_found"] (spAsDict K) := by
  refine F.ok scAsDict (fun vs H Q E h => ?_) (fun cdv A outer s H vs Q E hr h => ?_)
  · obtain ⟨_, _, _, rfl, _⟩ := h
    rfl
  · obtain ⟨m, us, ys, rfl, hm, pr, yl, pw, nd, al, k⟩ := h
    refine ⟨_, (pss_cons (ps_set (i := 1) scAsDict.nd rfl (Or.inl rfl) pe_dnewK)
      (pss_cons (ps_if (pt_not (pt_val (pe_callB call_isi rfl T.isi boot_isinstance (pa_cons (pv 0) (pa_cons (pe_bltn (v := .ty "tuple") rfl T.tup' bt_tuple rfl) pa_nil)))))
        (pss_one (ps_ret pe_non))
        pss_nil)
      (pss_cons (ps_set (i := 2) scAsDict.nd rfl (Or.inl rfl) pe_str)
      (pss_cons (ps_for PassesOwn.never rfl (pi_tup (pv 0)) (pg_name (i := 3) scAsDict.nd rfl (Or.inl rfl))
        (pss_cons (ps_if (PW.pt (pw_or (pt_not (pt_val (pe_callB call_isi rfl T.isi boot_isinstance (pa_cons (pv 3) (pa_cons (pe_bltn (v := .ty "tuple") rfl T.tup' bt_tuple rfl) pa_nil))))) (pw_or (pt_cmpR op_ne (pe_callB call_len_seq rfl T.len PySem.boot_len (pa_cons (pv 3) pa_nil)) pe_int (nomark _)) (pw_or1 (pt_not (pt_val (pe_callB call_isi rfl T.isi boot_isinstance (pa_cons (pit 3 0) (pa_cons (pe_bltn (v := .ty "str") rfl T.str' bt_str rfl) pa_nil)))))))))
          (pss_one (ps_ret pe_non))
          pss_nil)
        (pss_cons (ps_if (PW.pt (pw_or (pt_not (pt_val (pe_cal cA hr rfl pass0 (pa_cons (pit 3 1) pa_nil)))) (pw_or (pt_cmpR op_eq (pe_ix ix_tup (pit 3 1) pe_int (fun _ _ => rfl)) pe_int (nomark _)) (pw_or1 (pt_cmpR op_le_str (pit 3 0) (pv 2) (nomark _))))))
          (pss_one (ps_ret pe_non))
          pss_nil)
        (pss_cons (ps_set (i := 2) scAsDict.nd rfl (Or.inl rfl) (pit 3 0))
        (pss_one (ps_dput (hu_of hr) (pv 1) (pv 2) (pit 3 1) rfl))))))
      (pss_one (ps_ret (pv 1))))))), ?_⟩
    refine fun d hd => ?_
    have s0 := Same.upd (o := .dK []) hd
    refine ⟨_, rfl, _, "tuple", true, rfl, .tup_tuple (s0.tup hm), _, rfl, iteF ?_⟩
    refine ⟨_, rfl, m, rfl, ⟨_, s0.tup hm⟩, ?_⟩
    refine for_tup (xs := us) (fun i σ H' => ∃ (la : Str) (kvs : List (Key × V)) (v3 : Option V), σ = [some (.ref m), some (.ref d), some (.str la), v3] ∧ Same H H' ∧ H' d = some (.dK kvs) ∧ TD H' kvs (ys.take i) ∧ ∀ (j : Nat) x, i ≤ j → ys[j]? = some x → la.cps.toList < x.1.cps.toList)
      ⟨"", [], none, rfl, s0, upd_same, .nil, fun j x _ hj => lt_nil (al x (List.mem_of_getElem? hj)).1⟩ ?_ ?_ ?_
    · rintro i σ H' _ ⟨_, _, _, rfl, sm, _⟩
      exact sm.tup hm
    · rintro i v σ H2 hv ⟨la, kvs, v3, rfl, s2, hd2, td, lt⟩
      obtain ⟨x, hx, p, q, rfl, h1, h2⟩ := pr.get hv
      have xm := List.mem_of_getElem? hx
      have il := (List.getElem?_eq_some_iff.mp hx).1
      obtain ⟨xl, am, t0⟩ := al x xm
      have h1' := SqT.of (K := K) (s2 _ _ h1)
      have h2' := SqT.of (K := K) (s2 _ _ h2)
      have kl := pd_len td
      rw [List.length_take, Nat.min_eq_left (by omega)] at kl
      have lx := lt i x (Nat.le_refl _) hx
      refine ⟨_, rfl, _, "tuple", true, rfl, .tup_tuple h1', _, rfl, iteF ⟨_, rfl, p, _, rfl, .inr h1', rfl, _, rfl, iteF ⟨p, _, _, rfl, h1', rfl, _, "str", true, rfl, .str_str, _, rfl, iteF ?_⟩⟩⟩
      refine ⟨p, _, _, rfl, h1', rfl, q, _, _, rfl, h2', am, _, rfl, iteF ⟨p, _, _, rfl, h1', rfl, q, _, _, _, rfl, rfl, h2', rfl, rfl, _, rfl, ite2 (fun z => absurd (V.int.inj (of_decide_eq_true z)) t0) (fun _ => ?_)⟩⟩
      refine ⟨p, _, _, rfl, h1', rfl, _, rfl, _, _, rfl, rfl, _, rfl, ?_⟩
      rw [decide_eq_true lx]
      refine iteF ?_
      refine ⟨p, _, _, rfl, h1', rfl, ?_⟩
      refine ⟨p, _, _, rfl, h1', rfl, _, rfl, _, rfl, d, _, rfl, DPut.k (k := Sum.inr x.1) hd2 (small1000 (by omega)), ?_⟩
      have nk : valV kvs (Sum.inr x.1) = none := by
        rcases td.look (y := x.1) with ⟨x', hx', e, _⟩ | ⟨e, _⟩
        · exfalso
          obtain ⟨j, hj⟩ := List.mem_iff_getElem?.mp hx'
          rw [List.getElem?_take] at hj
          split at hj
          · rename_i hji
            have := List.pairwise_iff_getElem.mp nd j i (by rw [List.length_map]; omega) (by rw [List.length_map]; omega) hji
            rw [List.getElem_map, List.getElem_map, (List.getElem?_eq_some_iff.mp hj).2, (List.getElem?_eq_some_iff.mp hx).2] at this
            exact this e
          · cases hj
        · exact e
      have tk : ∀ o, Tk H2 (upd H2 d o) := fun o => Tk.dk hd2
      refine ⟨x.1, _, _, rfl, same_own s2 hd, upd_same, ?_, fun j y hj hy => ?_⟩
      · rw [putK_new _ nk, List.take_add_one, hx]
        exact pd_snoc (td.keep (tk _)) ⟨rfl, q, rfl, tk _ _ _ (s2 _ _ h2)⟩
      · have jl := (List.getElem?_eq_some_iff.mp hy).1
        have h1 := List.pairwise_iff_getElem.mp pw i j (by rw [List.length_map]; omega) (by rw [List.length_map]; omega) (by omega)
        have h2 := List.pairwise_iff_getElem.mp nd i j (by rw [List.length_map]; omega) (by rw [List.length_map]; omega) (by omega)
        rw [List.getElem_map, List.getElem_map, (List.getElem?_eq_some_iff.mp hy).2, (List.getElem?_eq_some_iff.mp hx).2] at h1 h2
        by_cases z : x.1.cps.toList < y.1.cps.toList
        · exact z
        · exact absurd (TM.ext (List.le_antisymm h1 (List.not_lt.mp z))) h2
    · rintro σ H2 ⟨la, kvs, v3, rfl, s2, hd2, td, _⟩
      exact ⟨_, rfl, k d kvs _ s2 hd hd2 (by rw [pr.length, List.take_length] at td; exact td)⟩
end
end K8

namespace K8
open PySem PySem.Spec PyProof.Rows L2 GM TM
theorem b3 {n : Nat} {x : Int} (h : Bt n x) (hn : n ≤ 1000000 := by decide) : Bt 1000000 x := h.mono hn
theorem sum_crs {M t1 b1 n1 t2 b2 n2 t3 b3 n3 : Int} (M0 : 0 < M) (h1 : Fr M t1 b1 n1) (h2 : Fr M t2 b2 n2) (h3 : Fr M t3 b3 n3) (e : n1 = n2 + n3) : t1 * b2 * b3 = (t2 * b3 + t3 * b2) * b1 := by
  have e1 := h1.e
  have e2 := h2.e
  have e3 := h3.e
  refine Int.eq_of_mul_eq_mul_right (show M ≠ 0 by omega) ?_
  subst e
  grind
/-- the state -/
structure St8 (H : Hp) (s m d l h : Addr) : Prop where
  hs : H s = some (.dK [(Sum.inr "tub", .ref m), (Sum.inr "told", .ref d), (Sum.inr "lies", .ref l), (Sum.inr "held", .ref h)])
theorem St8.tub {H : Hp} {s m d l h : Addr} (S : St8 H s m d l h) : DGet H s (kV (Sum.inr "tub")) (some (.ref m)) := DGet.k (k := Sum.inr "tub") S.hs
theorem St8.told {H : Hp} {s m d l h : Addr} (S : St8 H s m d l h) : DGet H s (kV (Sum.inr "told")) (some (.ref d)) := DGet.k (k := Sum.inr "told") S.hs
theorem St8.lies {H : Hp} {s m d l h : Addr} (S : St8 H s m d l h) : DGet H s (kV (Sum.inr "lies")) (some (.ref l)) := DGet.k (k := Sum.inr "lies") S.hs
theorem St8.held {H : Hp} {s m d l h : Addr} (S : St8 H s m d l h) : DGet H s (kV (Sum.inr "held")) (some (.ref h)) := DGet.k (k := Sum.inr "held") S.hs
def spAsked (K : PySem.W.Frag) : Sp := fun vs H Q _ => ∃ (s a m d l h : Addr) (lt lb : Int), vs = [.ref s, .ref a] ∧ St8 H s m d l h ∧ Lf H a ∧ s ≠ a ∧ SqT K H l [.int lt, .int lb] ∧ Amt lt lb ∧ Bt 200 lt ∧ Bt 200 lb ∧
  ∀ (t b : Int) p H', Amt t b → ((t ≤ 12 ∧ b ∣ 27720 ∧ b ≤ 12) ∨ ∃ j : Int, 0 ≤ j ∧ j ≤ 7 ∧ t * (lb * 7) = lt * j * b) → SmB a H H' → Lf H' a → H' p = some (.tup [.int t, .int b]) → Q (.ref p) H'
section
variable {P : Program} {w : World} {K : PySem.W.Frag} {mg : Str → Option Value} {base : Heap} {cP c1 c3 fI : Addr}
theorem scIsSum : FnScope ["_law_found", "_law_mine", "_law_more", "_law_ware", "_law_one", "_law_left_here", "_law_right", "_law_due"] ["_law_found", "_law_mine", "_law_more"] (defScope sIsSum) := ⟨rfl, rfl, rfl, by decide +kernel, rfl, by decide +kernel, by decide +kernel⟩
theorem ok_issum {f : Addr} {fd : FuncData} (F : Fun K "_law_is_sum" "_law_is_sum" sIsSum f fd) (T : Txt mg) : FnOk P w K mg base CX0 1 f fd ["_law_found", "_law_mine", "_law_more"] spIsSum := by
  refine F.ok scIsSum (fun vs H Q E h => ?_) (fun cdv A outer s H vs Q E hr h => ?_)
  · obtain ⟨_, _, _, _, _, _, _, _, _, _, _, _, _, rfl, _⟩ := h
    rfl
  · obtain ⟨d1, d2, d3, k1, k2, k3, s1, s2, s3, M, f1, f2, f3, rfl, F1, F2, F3, M0, ef, k⟩ := h
    refine ⟨_, (pss_cons (ps_for PassesOwn.never rfl (pi_list (pe_op op_cat (pe_op op_cat (pe_callTy (call_listD rfl) rfl T.list' bt_list (pa_cons (pv 0) pa_nil)) (pe_callTy (call_listD rfl) rfl T.list' bt_list (pa_cons (pv 1) pa_nil))) (pe_callTy (call_listD rfl) rfl T.list' bt_list (pa_cons (pv 2) pa_nil)))) (pg_name (i := 3) scIsSum.nd rfl (Or.inl rfl))
        (pss_cons (ps_set (i := 4) scIsSum.nd rfl (Or.inl rfl) (pe_dget2 (hu_of hr) (pv 0) (pv 3) (pe_tup (pa_cons pe_int (pa_cons pe_int pa_nil))) ⟨rfl, rfl, rfl, rfl⟩))
        (pss_cons (ps_set (i := 5) scIsSum.nd rfl (Or.inl rfl) (pe_dget2 (hu_of hr) (pv 1) (pv 3) (pe_tup (pa_cons pe_int (pa_cons pe_int pa_nil))) ⟨rfl, rfl, rfl, rfl⟩))
        (pss_cons (ps_set (i := 6) scIsSum.nd rfl (Or.inl rfl) (pe_dget2 (hu_of hr) (pv 2) (pv 3) (pe_tup (pa_cons pe_int (pa_cons pe_int pa_nil))) ⟨rfl, rfl, rfl, rfl⟩))
        (pss_cons (ps_set (i := 7) scIsSum.nd rfl (Or.inl rfl) (pe_op op_add (pe_op op_mulB (pit 5 0) (pit 6 1)) (pe_op op_mulB (pit 6 0) (pit 5 1))))
        (pss_one (ps_if (pt_cmpR op_ne (pe_op op_mulB (pe_op op_mulB (pit 4 0) (pit 5 1)) (pit 6 1)) (pe_op op_mulB (pv 7) (pit 4 1)) (nomark _))
          (pss_one (ps_ret pe_bl))
          pss_nil)))))))
      (pss_one (ps_ret pe_bl))), ?_⟩
    have e1 := congrArg List.length F1.ky
    have e2 := congrArg List.length F2.ky
    have e3 := congrArg List.length F3.ky
    rw [List.length_map, List.length_map] at e1 e2 e3
    have n1 := F1.ln
    have n2 := F2.ln
    have n3 := F3.ln
    refine ⟨_, rfl, d1, k1, s1, rfl, F1.hd, F1.ky, fun p1 hp1 => ?_⟩
    have u1 := Same.upd (o := .lst (s1.map V.str)) hp1
    refine ⟨_, rfl, d2, k2, s2, rfl, u1 _ _ F2.hd, F2.ky, fun p2 hp2 => ?_⟩
    have u2 := Same.upd (o := .lst (s2.map V.str)) hp2
    refine ⟨p1, p2, _, _, rfl, rfl, u2 _ _ upd_same, upd_same, sz1000 (by rw [List.length_map, List.length_map]; omega), fun p3 hp3 => ?_⟩
    have u3 := Same.upd (o := .lst (s1.map V.str ++ s2.map V.str)) hp3
    refine ⟨_, rfl, d3, k3, s3, rfl, u3 _ _ (u2 _ _ (u1 _ _ F3.hd)), F3.ky, fun p4 hp4 => ?_⟩
    have u4 := Same.upd (o := .lst (s3.map V.str)) hp4
    refine ⟨p3, p4, _, _, rfl, rfl, u4 _ _ upd_same, upd_same, sz1000 (by rw [List.length_append, List.length_map, List.length_map, List.length_map]; omega), fun p5 hp5 => ?_⟩
    rw [← List.map_append, ← List.map_append]
    rw [← List.map_append] at hp4 u3 u4
    have u5 := Same.upd (o := .lst ((s1 ++ s2 ++ s3).map V.str)) hp5
    rw [← List.map_append] at u5
    have sA := (((u1.trans u2).trans u3).trans u4).trans u5
    refine ⟨p5, rfl, ⟨_, SqL.of upd_same⟩, ?_⟩
    refine for_list (xs := (s1 ++ s2 ++ s3).map V.str) (fun i σ H' => ∃ (v3 v4 v5 v6 v7 : Option V), σ = [some (.ref d1), some (.ref d2), some (.ref d3), v3, v4, v5, v6, v7] ∧ Same H H' ∧ H' p5 = some (.lst ((s1 ++ s2 ++ s3).map V.str))) ⟨none, none, none, none, none, rfl, sA, upd_same⟩ ?_ ?_ ?_
    · rintro i σ H' _ ⟨_, _, _, _, _, rfl, _, hp⟩
      exact SqL.of hp
    · rintro i v σ H2 hv ⟨v3, v4, v5, v6, v7, rfl, s2', hp2'⟩
      rw [List.getElem?_map] at hv
      obtain ⟨y, hy, rfl⟩ := Option.map_eq_some_iff.mp hv
      have G1 := F1.keep s2'
      refine ⟨_, rfl, d1, rfl, .inl ⟨k1, .inl G1.hd⟩, _, rfl, (by show 2 ≤ sizeLine; decide), fun z1 hz1 => ?_⟩
      have w1 := Same.upd (o := .tup [.int 0, .int 1]) hz1
      have G1' := G1.keep w1
      obtain ⟨q1, t1, b1, g1, hq1, fr1, bt1, bb1⟩ := G1'.get y upd_same
      refine ⟨_, DGet.k (k := Sum.inr y) G1'.hd, ?_⟩
      rw [g1]
      have sB := s2'.trans w1
      have G2 := F2.keep sB
      refine ⟨_, rfl, d2, rfl, .inl ⟨k2, .inl G2.hd⟩, _, rfl, (by show 2 ≤ sizeLine; decide), fun z2 hz2 => ?_⟩
      have w2 := Same.upd (o := .tup [.int 0, .int 1]) hz2
      have G2' := G2.keep w2
      obtain ⟨q2, t2, b2, g2, hq2, fr2, bt2, bb2⟩ := G2'.get y upd_same
      refine ⟨_, DGet.k (k := Sum.inr y) G2'.hd, ?_⟩
      rw [g2]
      have sC := sB.trans w2
      have G3 := F3.keep sC
      refine ⟨_, rfl, d3, rfl, .inl ⟨k3, .inl G3.hd⟩, _, rfl, (by show 2 ≤ sizeLine; decide), fun z3 hz3 => ?_⟩
      have w3 := Same.upd (o := .tup [.int 0, .int 1]) hz3
      have G3' := G3.keep w3
      obtain ⟨q3, t3, b3', g3, hq3, fr3, bt3, bb3⟩ := G3'.get y upd_same
      refine ⟨_, DGet.k (k := Sum.inr y) G3'.hd, ?_⟩
      rw [g3]
      have sq1 := SqT.of (K := K) (w3 _ _ (w2 _ _ hq1))
      have sq2 := SqT.of (K := K) (w3 _ _ hq2)
      have sq3 := SqT.of (K := K) hq3
      refine ⟨q2, _, _, rfl, sq2, rfl, q3, _, _, rfl, sq3, rfl, _, _, rfl, rfl, ⟨b3 bt2, b3 bb3⟩, q3, _, _, rfl, sq3, rfl, q2, _, _, rfl, sq2, rfl, _, _, rfl, rfl, ⟨b3 bt3, b3 bb2⟩, _, _, rfl, rfl, ?_⟩
      have bd : Bt 6001 (t2 * b3' + t3 * b2) := (bt2.mul bb3).add (bt3.mul bb2)
      refine ⟨q1, _, _, rfl, sq1, rfl, q2, _, _, rfl, sq2, rfl, _, _, rfl, rfl, ⟨b3 bt1, b3 bb2⟩, q3, _, _, rfl, sq3, rfl, _, _, rfl, rfl, ⟨b3 (bt1.mul bb2), b3 bb3⟩, _, rfl, q1, _, _, rfl, sq1, rfl, _, _, rfl, rfl, ⟨b3 bd, b3 bb1⟩, rfl, _, rfl, ?_⟩
      have crs := sum_crs M0 fr1 fr2 fr3 (ef y)
      refine ite2 (fun z => absurd ((congrArg Bool.not (decide_eq_true (congrArg V.int crs))).symm.trans z) (by decide)) (fun _ => ?_)
      exact ⟨_, _, _, _, _, rfl, sC.trans w3, w3 _ _ (w2 _ _ (w1 _ _ hp2'))⟩
    · rintro σ H2 ⟨v3, v4, v5, v6, v7, rfl, s2', _⟩
      exact k _ s2'
theorem scSum : FnScope ["_law_one", "_law_other", "_law_top"] ["_law_one", "_law_other"] (defScope sSum) := ⟨rfl, rfl, rfl, by decide +kernel, rfl, by decide +kernel, by decide +kernel⟩
theorem ok_sum {f : Addr} {fd : FuncData} (F : Fun K "_law_sum" "_law_sum" sSum f fd) (cL : Cal P w K mg base CX0 2 "_law_low" ["_law_top", "_law_bottom"] spLow) : FnOk P w K mg base CX0 3 f fd ["_law_one", "_law_other"] (spSum K) := by
  refine F.ok scSum (fun vs H Q E h => ?_) (fun cdv A outer s H vs Q E hr h => ?_)
  · obtain ⟨_, _, _, _, _, _, rfl, _⟩ := h
    rfl
  · obtain ⟨p, q, t1, b1, t2, b2, rfl, W, k⟩ := h
    refine ⟨_, (pss_cons (ps_set (i := 2) scSum.nd rfl (Or.inl rfl) (pe_op op_add (pe_op op_mulB (pit 0 0) (pit 1 1)) (pe_op op_mulB (pit 1 0) (pit 0 1))))
      (pss_one (ps_ret (pe_cal cL hr rfl pass0 (pa_cons (pv 2) (pa_cons (pe_op op_mulB (pit 0 1) (pit 1 1)) pa_nil)))))), ?_⟩
    have n1 := Int.mul_nonneg W.a1.t0 (show 0 ≤ b2 by have := W.a2.b1; omega)
    have n2 := Int.mul_nonneg W.a2.t0 (show 0 ≤ b1 by have := W.a1.b1; omega)
    refine ⟨p, _, _, rfl, W.sp, rfl, q, _, _, rfl, W.sq, rfl, _, _, rfl, rfl, ⟨b3 W.st1, b3 W.sb2⟩, q, _, _, rfl, W.sq, rfl, p, _, _, rfl, W.sp, rfl, _, _, rfl, rfl, ⟨b3 W.st2, b3 W.sb1⟩, _, _, rfl, rfl, ?_⟩
    exact ⟨_, rfl, p, _, _, rfl, W.sp, rfl, q, _, _, rfl, W.sq, rfl, _, _, rfl, rfl, ⟨b3 W.sb1, b3 W.sb2⟩, _, _, rfl, by omega, mul1 W.a1.b1 W.a2.b1, (W.sb1.mul W.sb2).mono (by decide), k⟩
theorem SmB.sqt {a : Addr} {H H' : Hp} {p : Addr} {xs : List V} (s : SmB a H H') (l : Lf H a) (h : SqT K H p xs) : SqT K H' p xs := by
  obtain ⟨n, fl, la, _⟩ := l
  have ne : ∀ {b : Addr} {o : HO}, H b = some o → (∀ ys, o ≠ .lst ys) → H' b = some o := fun {b o} e d => s _ _ (fun z => by rw [z, la] at e; cases e; exact d _ rfl) e
  rcases h with h | h
  · rcases h with h | ⟨o, h⟩
    · exact .inl (.inl (ne h fun _ z => by cases z))
    · exact .inl (.inr ⟨o, ne h fun _ z => by cases z⟩)
  · exact .inr h
theorem scAsked : FnScope ["_law_state", "_law_left_here", "_law_top", "_law_lies"] ["_law_state", "_law_left_here"] (defScope sAsked) := ⟨rfl, rfl, rfl, by decide +kernel, rfl, by decide +kernel, by decide +kernel⟩
theorem ok_asked {f : Addr} {fd : FuncData} (F : Fun K "_law_asked" "_law_asked" sAsked f fd) (cN : Cal P w K mg base CX0 2 "_law_next" ["_law_left_here", "_law_many"] spNext) (cL : Cal P w K mg base CX0 2 "_law_low" ["_law_top", "_law_bottom"] spLow) : FnOk P w K mg base CX0 3 f fd ["_law_state", "_law_left_here"] (spAsked K) := by
  refine F.ok scAsked (fun vs H Q E h => ?_) (fun cdv A outer s H vs Q E hr h => ?_)
  · obtain ⟨_, _, _, _, _, _, _, _, rfl, _⟩ := h
    rfl
  · obtain ⟨st, a, m, d, l, h, lt, lb, rfl, S, la, sa, sl, am, bt, bb, k⟩ := h
    refine ⟨_, (pss_cons (ps_if (pt_cmpR op_eq (pe_cal cN hr rfl pass0 (pa_cons (pv 1) (pa_cons pe_int pa_nil))) pe_int (nomark _))
        (pss_cons (ps_set (i := 2) scAsked.nd rfl (Or.inl rfl) (pe_cal cN hr rfl pass0 (pa_cons (pv 1) (pa_cons pe_int pa_nil))))
        (pss_one (ps_ret (pe_cal cL hr rfl pass0 (pa_cons (pv 2) (pa_cons (pe_op op_add pe_int (pe_cal cN hr rfl pass0 (pa_cons (pv 1) (pa_cons pe_int pa_nil)))) pa_nil))))))
        pss_nil)
      (pss_cons (ps_set (i := 3) scAsked.nd rfl (Or.inl rfl) (pe_dget (hu_of hr) (pv 0) pe_str (fun _ _ => rfl)))
      (pss_one (ps_ret (pe_cal cL hr rfl pass0 (pa_cons (pe_op op_mulB (pit 3 0) (pe_cal cN hr rfl pass0 (pa_cons (pv 1) (pa_cons pe_int pa_nil)))) (pa_cons (pe_op op_mulB (pit 3 1) pe_int) pa_nil))))))), ?_⟩
    have s9 : ∀ {c : Int}, 0 ≤ c → c < 1000 → Bt 9000 c := fun h0 h1 => (bt_lt 64 (c := 1000) h0 h1).mono (by decide)
    refine ⟨_, rfl, a, 5, rfl, la, by decide, s9 (by decide) (by decide), fun n0 H1 a0 a1 s1 l1 => ⟨rfl, _, rfl, ite2 (fun _ => ?_) (fun _ => ?_)⟩⟩
    · refine ⟨_, rfl, a, 13, rfl, l1, by decide, s9 (by decide) (by decide), fun t H2 t0 t1 s2 l2 => ?_⟩
      refine ⟨_, rfl, _, rfl, a, 12, rfl, l2, by decide, s9 (by decide) (by decide), fun b H3 b0 b1 s3 l3 => ⟨_, _, rfl, rfl, t, 1 + b, rfl, t0, by omega, s9 (by omega) (by omega), fun p H4 s4 hp => ?_⟩⟩
      have am' := low_amt t0 (show 1 ≤ 1 + b by omega)
      have cr := low_cross t (1 + b)
      have fr : Fr (1 + b) (t / G t (1 + b)) ((1 + b) / G t (1 + b)) t := ⟨am', cr⟩
      have sm := frSmall (by omega) fr
      have dv := fr.dvd
      refine k _ _ p H4 am' (.inl ⟨by omega, Int.dvd_trans dv ?_, by omega⟩) (((s1.trans s2).trans s3).trans (SmB.of s4)) (l3.keep s4) hp
      have : b = 0 ∨ b = 1 ∨ b = 2 ∨ b = 3 ∨ b = 4 ∨ b = 5 ∨ b = 6 ∨ b = 7 ∨ b = 8 ∨ b = 9 ∨ b = 10 ∨ b = 11 := by omega
      rcases this with rfl | rfl | rfl | rfl | rfl | rfl | rfl | rfl | rfl | rfl | rfl | rfl <;> decide
    · have S1 : St8 H1 st m d l h := ⟨s1 _ _ sa S.hs⟩
      refine ⟨_, rfl, st, _, rfl, S1.lies, ?_⟩
      have sl1 := s1.sqt la sl
      refine ⟨l, _, _, rfl, sl1, rfl, _, rfl, a, 8, rfl, l1, by decide, s9 (by decide) (by decide), fun j H2 j0 j1 s2 l2 => ?_⟩
      have sl2 := s2.sqt l1 sl1
      have bj : Bt 64 j := bt_lt 64 (c := 8) j0 j1
      have b7 : Bt 64 (7 : Int) := bt_lt 64 (c := 8) (by decide) (by decide)
      have n1 := Int.mul_nonneg am.t0 j0
      have n2 := mul1 am.b1 (show (1 : Int) ≤ 7 by decide)
      refine ⟨_, _, rfl, rfl, ⟨b3 bt, b3 bj⟩, l, _, _, rfl, sl2, rfl, _, _, rfl, rfl, ⟨b3 bb, b3 b7⟩, lt * j, lb * 7, rfl, n1, n2, (bb.mul b7).mono (by decide), fun p H3 s3 hp => ?_⟩
      exact k _ _ p H3 (low_amt n1 n2) (.inr ⟨j, j0, by omega, low_cross (lt * j) (lb * 7)⟩) ((s1.trans s2).trans (SmB.of s3)) (l2.keep s3) hp
end
end K8

namespace L2
open PySem PySem.Spec PyProof.Rows
/-! ### the statements of a def under names: what follows stays small -/
section
variable {D : Ends} {σ : L2.St} {H : Hp}
theorem cut4 {t1 t2 t3 t4 : TS} (h : let u4 : TS := t4; let u3 : TS := tSeq t3 u4; let u2 : TS := tSeq t2 u3; tSeq t1 u2 D σ H) : (tSeq t1 (tSeq t2 (tSeq t3 (t4)))) D σ H := h
theorem cut15 {t1 t2 t3 t4 t5 t6 t7 t8 t9 t10 t11 t12 t13 t14 t15 : TS} (h : let u15 : TS := t15; let u14 : TS := tSeq t14 u15; let u13 : TS := tSeq t13 u14; let u12 : TS := tSeq t12 u13; let u11 : TS := tSeq t11 u12; let u10 : TS := tSeq t10 u11; let u9 : TS := tSeq t9 u10; let u8 : TS := tSeq t8 u9; let u7 : TS := tSeq t7 u8; let u6 : TS := tSeq t6 u7; let u5 : TS := tSeq t5 u6; let u4 : TS := tSeq t4 u5; let u3 : TS := tSeq t3 u4; let u2 : TS := tSeq t2 u3; tSeq t1 u2 D σ H) : (tSeq t1 (tSeq t2 (tSeq t3 (tSeq t4 (tSeq t5 (tSeq t6 (tSeq t7 (tSeq t8 (tSeq t9 (tSeq t10 (tSeq t11 (tSeq t12 (tSeq t13 (tSeq t14 (t15))))))))))))))) D σ H := h
/-- the names' values told anew -/
theorem st {u : TS} (τ : L2.St) (e : σ = τ) (h : u D τ H) : u D σ H := e ▸ h
end
end L2

namespace K8
open PySem PySem.Spec PyProof.Rows L2 GM TM
def BB (k : Nat) : Int := ((27720 * 7 ^ k : Nat) : Int)
theorem BB_pos (k : Nat) : 0 < BB k := by
  have : 0 < 27720 * 7 ^ k := Nat.mul_pos (by decide) (Nat.pow_pos (by decide))
  unfold BB
  omega
theorem BB_le {k : Nat} (h : k ≤ 24) : BB k ≤ BB 24 := by
  have : 27720 * 7 ^ k ≤ 27720 * 7 ^ 24 := Nat.mul_le_mul_left _ (Nat.pow_le_pow_right (by decide) h)
  unfold BB
  omega
theorem BB_dvd (k : Nat) : (27720 : Int) ∣ BB k := ⟨((7 ^ k : Nat) : Int), by unfold BB; rw [Int.natCast_mul]; rfl⟩
theorem BB_succ (k : Nat) : BB (k + 1) = BB k * 7 := by
  unfold BB
  rw [Nat.pow_succ]
  push_cast
  rw [Int.mul_assoc]
theorem nd_sub : ∀ {ws ks : List Str}, ks.Nodup → (∀ y ∈ ks, y ∈ ws) → ks.length ≤ ws.length
  | [], [], _, _ => Nat.le_refl _
  | [], y :: _, _, h => nomatch h y (List.mem_cons_self ..)
  | w :: ws, ks, nd, h => by
    have ih := nd_sub (ws := ws) (nd.erase w) fun y hy => by
      obtain ⟨h1, h2⟩ := nd.mem_erase_iff.mp hy
      rcases List.mem_cons.mp (h y h2) with z | z
      · exact absurd z h1
      · exact z
    have := List.le_length_erase (a := w) (l := ks)
    rw [List.length_cons]
    omega
/-- all but s and a stayed -/
def S2 (s a : Addr) (H H' : Hp) : Prop := ∀ b o, b ≠ s → b ≠ a → H b = some o → H' b = some o
theorem S2.refl {s a : Addr} {H : Hp} : S2 s a H H := fun _ _ _ _ h => h
theorem S2.same {s a : Addr} {H H1 H2 : Hp} (x : S2 s a H H1) (y : Same H1 H2) : S2 s a H H2 := fun b o h1 h2 e => y _ _ (x b o h1 h2 e)
theorem S2.smb {s a : Addr} {H H1 H2 : Hp} (x : S2 s a H H1) (y : SmB a H1 H2) : S2 s a H H2 := fun b o h1 h2 e => y _ _ h2 (x b o h1 h2 e)
theorem S2.own {s a p : Addr} {H H1 : Hp} {o : HO} (x : S2 s a H H1) (n : H p = none) : S2 s a H (upd H1 p o) := fun b u h1 h2 e => by
  rw [upd_ne (fun z => by rw [z, n] at e; cases e)]
  exact x b u h1 h2 e
theorem S2.at {s a : Addr} {H H1 : Hp} {o : HO} (x : S2 s a H H1) : S2 s a H (upd H1 s o) := fun b u h1 h2 e => by
  rw [upd_ne h1]
  exact x b u h1 h2 e
/-- s is a dict, a a list -/
structure Two2 (H : Hp) (s a : Addr) : Prop where
  s : ∃ kvs, H s = some (.dK kvs)
  a : ∃ xs, H a = some (.lst xs)
theorem S2.tk {s a : Addr} {H H1 : Hp} (x : S2 s a H H1) (t : Two2 H s a) : Tk H H1 := fun b ys e => by
  obtain ⟨kvs, e1⟩ := t.s
  obtain ⟨xs, e2⟩ := t.a
  exact x b _ (fun z => by rw [z, e1] at e; cases e) (fun z => by rw [z, e2] at e; cases e) e
theorem S2.tup {K : PySem.W.Frag} {s a p : Addr} {H H1 : Hp} {xs : List V} (x : S2 s a H H1) (t : Two2 H s a) (h : SqT K H p xs) : SqT K H1 p xs := by
  obtain ⟨kvs, e1⟩ := t.s
  obtain ⟨ys, e2⟩ := t.a
  have ne : ∀ {b : Addr} {o : HO}, H b = some o → (∀ ks, o ≠ .dK ks) → (∀ ks, o ≠ .lst ks) → H1 b = some o := fun {b o} e d1 d2 => x _ _ (fun z => by rw [z, e1] at e; cases e; exact d1 _ rfl) (fun z => by rw [z, e2] at e; cases e; exact d2 _ rfl) e
  rcases h with h | h
  · rcases h with h | ⟨o, h⟩
    · exact .inl (.inl (ne h (fun _ z => by cases z) fun _ z => by cases z))
    · exact .inl (.inr ⟨o, ne h (fun _ z => by cases z) fun _ z => by cases z⟩)
  · exact .inr h
theorem Lf.l {H : Hp} {a : Addr} (h : Lf H a) : ∃ xs, H a = some (.lst xs) := let ⟨_, _, e, _⟩ := h; ⟨_, e⟩
theorem DA.snoc {H : Hp} {M : Int} {xs : List (Str × Int × Int)} {kvs : List (Key × V)} {ks : List Str} {x : Str × Int × Int} {r : Addr} {t b : Int} (h : DA H M xs kvs ks) (hr : H r = some (.tup [.int t, .int b])) (fr : Fr M t b (NW M xs x.1 + nOf M x)) :
    ∃ ks', DA H M (xs ++ [x]) (putK kvs (Sum.inr x.1) (.ref r)) ks' ∧ ks'.length ≤ ks.length + 1 := by
  have e1 : (xs ++ [x]).take xs.length = xs := List.take_left ..
  have e2 : (xs ++ [x]).take (xs.length + 1) = xs ++ [x] := List.take_of_length_le (by rw [List.length_append]; exact Nat.le_refl _)
  have q := DA.step (H := H) (M := M) (xs := xs ++ [x]) (i := xs.length) (x := x) (r := r) (t := t) (b := b) (kvs := kvs) (ks := ks) (by simp) (by rw [e1]; exact h) hr (by rw [e1]; exact fr)
  rw [e2] at q
  exact q
theorem DA.fd {H : Hp} {d : Addr} {M : Int} {xs : List (Str × Int × Int)} {kvs : List (Key × V)} {ks : List Str} (h : DA H M xs kvs ks) (hd : H d = some (.dK kvs)) (M0 : 0 < M) (ov : Over M xs) (kl : ks.length ≤ 63) (bM : Bt 3000 M) (bS : Bt 3000 (sumN M xs)) : FD H d kvs ks M (NW M xs) :=
  ⟨hd, h.1.keys, by rw [h.1.len]; exact kl, fun y => by
    by_cases hy : y ∈ ks
    · obtain ⟨p, t, b, e1, e2, fr⟩ := h.2.2 y hy
      have nw := NW_all M0 ov y
      have sm := frSmall M0 fr
      exact .inl ⟨p, t, b, e1, e2, fr, bS.le fr.am.t0 (by omega), bM.le (by have := fr.am.b1; omega) sm.2⟩
    · refine .inr ⟨?_, NW_none (fun z => hy ((h.2.1 y).mpr z))⟩
      cases e : valV kvs (Sum.inr y) with
      | none => rfl
      | some v => exact absurd ((h.1.get y).mp (by rw [e]; rfl)) hy⟩
theorem TD.ddeq {K : PySem.W.Frag} {H : Hp} {ka kb : List (Key × V)} {ys : List (Str × Int × Int)} (h1 : TD H ka ys) (h2 : TD H kb ys) (nd : (ys.map (·.1)).Nodup) : DDeq K H ka kb := by
  refine ⟨by rw [pd_len h1, pd_len h2], fun kv hkv => ?_⟩
  have mem : ∀ {ka : List (Key × V)} {ys : List (Str × Int × Int)}, TD H ka ys → ∀ kv ∈ ka, ∃ x ∈ ys, kv.1 = Sum.inr x.1 ∧ ∃ q, kv.2 = .ref q ∧ H q = some (.tup [.int x.2.1, .int x.2.2]) := by
    intro ka ys h
    induction h with
    | nil => exact fun _ h => nomatch h
    | cons r _ ih =>
      intro kv hkv
      rcases List.mem_cons.mp hkv with rfl | z
      · exact ⟨_, List.mem_cons_self .., r⟩
      · obtain ⟨x, hx, r⟩ := ih kv z
        exact ⟨x, List.mem_cons_of_mem _ hx, r⟩
  have inj : ∀ {ys : List (Str × Int × Int)}, (ys.map (·.1)).Nodup → ∀ {x y}, x ∈ ys → y ∈ ys → x.1 = y.1 → x = y := by
    intro ys
    induction ys with
    | nil => intro _ _ _ h; exact nomatch h
    | cons c ys ih =>
      intro nd x y hx hy e
      rw [List.map_cons, List.nodup_cons] at nd
      rcases List.mem_cons.mp hx with p | p <;> rcases List.mem_cons.mp hy with q | q
      · rw [p, q]
      · exact absurd (by rw [← p, e]; exact List.mem_map_of_mem q) nd.1
      · exact absurd (by rw [← q, ← e]; exact List.mem_map_of_mem p) nd.1
      · exact ih nd.2 p q e
  obtain ⟨x, hx, e1, q, e2, e3⟩ := mem h1 kv hkv
  rcases h2.look (y := x.1) with ⟨x', hx', e4, q', e5, e6⟩ | ⟨_, no⟩
  · have := inj nd hx' hx e4
    subst this
    exact ⟨.ref q', .t [.i x'.2.1, .i x'.2.2], by rw [e1]; exact e5, by rw [e2]; exact Dv.two (n := 29) (SqZ.of e3) .i .i, Dv.two (n := 29) (SqZ.of e6) .i .i⟩
  · exact absurd (List.mem_map_of_mem hx) no
/-- the tub, as it is told -/
structure Tb (K : PySem.W.Frag) (H : Hp) (ws : List Str) (m d l : Addr) (us : List V) (ys : List (Str × Int × Int)) (M : Int) (f : Str → Int) (kvs : List (Key × V)) (lt lb nl : Int) (k : Nat) : Prop where
  sq : SqT K H m us
  pr : PrL H us ys
  mx : IsMx M f ys
  M0 : 0 < M
  hd : H d = some (.dK kvs)
  td : TD H kvs ys
  sl : SqT K H l [.int lt, .int lb]
  fr : Fr M lt lb (sumN M ys)
  fb : Fr (BB k) lt lb nl
  nb : nl ≤ 36 * (k : Int) * BB k
  dv : (27720 : Int) ∣ M
  bM : Bt (16 + 100 * k) M
  nm : ∀ x ∈ ys, x.1 ∈ ws ∧ 1 ≤ x.1.length
  k24 : k ≤ 24
  w5 : ws.length = 5
  wn : ws.Nodup
theorem Tb.small {K : PySem.W.Frag} {H : Hp} {ws : List Str} {m d l : Addr} {us : List V} {ys : List (Str × Int × Int)} {M : Int} {f : Str → Int} {kvs : List (Key × V)} {lt lb nl : Int} {k : Nat} (T : Tb K H ws m d l us ys M f kvs lt lb nl k) : Bt 120 lt ∧ Bt 120 lb := by
  have p := BB_pos k
  have sm := frSmall p T.fb
  have b := BB_le T.k24
  have nb := T.nb
  have n1 : nl ≤ 864 * BB 24 := by
    refine Int.le_trans nb (Int.mul_le_mul (by have := T.k24; omega) b (by omega) (by decide))
  have c : 864 * BB 24 < ((2 ^ 120 : Nat) : Int) := by decide +kernel
  have t0 := T.fb.am.t0
  have b1 := T.fb.am.b1
  constructor
  · show lt.natAbs < 2 ^ 120
    omega
  · show lb.natAbs < 2 ^ 120
    have : BB 24 ≤ 864 * BB 24 := by have := BB_pos 24; omega
    omega
theorem Tb.len {K : PySem.W.Frag} {H : Hp} {ws : List Str} {m d l : Addr} {us : List V} {ys : List (Str × Int × Int)} {M : Int} {f : Str → Int} {kvs : List (Key × V)} {lt lb nl : Int} {k : Nat} (T : Tb K H ws m d l us ys M f kvs lt lb nl k) : ys.length ≤ 5 := by
  have := nd_sub T.mx.nd fun y hy => by
    obtain ⟨x, hx, rfl⟩ := List.mem_map.mp hy
    exact (T.nm x hx).1
  rw [List.length_map, T.w5] at this
  exact this
theorem Tb.bN {K : PySem.W.Frag} {H : Hp} {ws : List Str} {m d l : Addr} {us : List V} {ys : List (Str × Int × Int)} {M : Int} {f : Str → Int} {kvs : List (Key × V)} {lt lb nl : Int} {k : Nat} (T : Tb K H ws m d l us ys M f kvs lt lb nl k) : Bt (136 + 100 * k) (sumN M ys) := by
  have N0 := sumN_nonneg T.M0 T.mx.over
  have e := T.fr.e
  have b1 := T.fr.am.b1
  have le : sumN M ys ≤ lt * M := by
    rw [e]
    have := Int.mul_le_mul_of_nonneg_left b1 N0
    omega
  exact ((T.small.1.mul T.bM).mono (by omega)).le N0 le
theorem Tb.mixd {K : PySem.W.Frag} {H : Hp} {ws : List Str} {m d l : Addr} {us : List V} {ys : List (Str × Int × Int)} {M : Int} {f : Str → Int} {kvs : List (Key × V)} {lt lb nl : Int} {k : Nat} (T : Tb K H ws m d l us ys M f kvs lt lb nl k) : Mixd K H m us ys M f :=
  ⟨T.sq, T.pr, T.mx, by have := T.len; omega, T.M0, T.bM.mono (by have := T.k24; omega), T.bN.mono (by have := T.k24; omega)⟩
theorem Tb.fd {K : PySem.W.Frag} {H : Hp} {ws : List Str} {m d l : Addr} {us : List V} {ys : List (Str × Int × Int)} {M : Int} {f : Str → Int} {kvs : List (Key × V)} {lt lb nl : Int} {k : Nat} (T : Tb K H ws m d l us ys M f kvs lt lb nl k) : FD H d kvs (ys.map (·.1)) M f :=
  T.td.fd T.hd T.mx T.M0 (by have := T.len; omega) (T.bM.mono (by have := T.k24; omega)) (T.bN.mono (by have := T.k24; omega))
theorem Tb.keep {K : PySem.W.Frag} {H H' : Hp} {ws : List Str} {m d l : Addr} {us : List V} {ys : List (Str × Int × Int)} {M : Int} {f : Str → Int} {kvs : List (Key × V)} {lt lb nl : Int} {k : Nat} (T : Tb K H ws m d l us ys M f kvs lt lb nl k) (s : Same H H') : Tb K H' ws m d l us ys M f kvs lt lb nl k :=
  ⟨s.tup T.sq, T.pr.keep (Same.tk s), T.mx, T.M0, s _ _ T.hd, T.td.keep (Same.tk s), s.tup T.sl, T.fr, T.fb, T.nb, T.dv, T.bM, T.nm, T.k24, T.w5, T.wn⟩
end K8

namespace K8
open PySem PySem.Spec PyProof.Rows L2 GM TM
abbrev sk (m d l h : V) : List (Key × V) := [(Sum.inr "tub", m), (Sum.inr "told", d), (Sum.inr "lies", l), (Sum.inr "held", h)]
theorem put_tub (m d l h x : V) : putK (sk m d l h) (Sum.inr "tub") x = sk x d l h := by rfl
theorem put_told (m d l h x : V) : putK (sk m d l h) (Sum.inr "told") x = sk m x l h := by rfl
theorem put_lies (m d l h x : V) : putK (sk m d l h) (Sum.inr "lies") x = sk m d x h := by rfl
theorem S2.seqL {K : PySem.W.Frag} {s a p : Addr} {H H1 : Hp} {xs : List V} (x : S2 s a H H1) (t : Two2 H s a) (n : p ≠ a) (h : SqL K H p xs) : SqL K H1 p xs := by
  obtain ⟨kvs, e1⟩ := t.s
  have ne : ∀ {o : HO}, H p = some o → (∀ ks, o ≠ .dK ks) → H1 p = some o := fun {o} e d1 => x _ _ (fun z => by rw [z, e1] at e; cases e; exact d1 _ rfl) n e
  rcases h with h | h
  · rcases h with h | ⟨o, h⟩
    · exact .inl (.inl (ne h fun _ z => by cases z))
    · exact .inl (.inr ⟨o, ne h fun _ z => by cases z⟩)
  · exact .inr h
theorem S2.td {s a : Addr} {H H1 : Hp} {kvs : List (Key × V)} {ys : List (Str × Int × Int)} (x : S2 s a H H1) (t : Two2 H s a) (h : TD H kvs ys) : TD H1 kvs ys := h.keep (x.tk t)
def spPut (K : PySem.W.Frag) : Sp := fun vs H Q _ => ∃ s nl a m d l h ws us ys M f kvs lt lb nn k, vs = [.ref s, .ref nl, .ref a] ∧ St8 H s m d l h ∧ Tb K H ws m d l us ys M f kvs lt lb nn k ∧ s ≠ d ∧ k ≤ 23 ∧ SqL K H nl (ws.map V.str) ∧ nl ≠ a ∧ (∀ x ∈ ws, Wr x) ∧ Lf H a ∧
  ∀ m' d' l' us' ys' f' kvs' lt' lb' nn' H', S2 s a H H' → St8 H' s m' d' l' h → Tb K H' ws m' d' l' us' ys' M f' kvs' lt' lb' nn' (k + 1) → s ≠ d' → (∃ o, H' a = some o) → Q (.bl true) H'
theorem sumN_snoc' {M : Int} (xs : List (Str × Int × Int)) (x : Str × Int × Int) : sumN M (xs ++ [x]) = sumN M xs + nOf M x := by
  rw [sumN_append]
  unfold sumN
  simp
theorem d12 {b : Int} (h0 : 0 ≤ b) (h : b < 12) : (1 + b) ∣ 27720 := by
  have : b = 0 ∨ b = 1 ∨ b = 2 ∨ b = 3 ∨ b = 4 ∨ b = 5 ∨ b = 6 ∨ b = 7 ∨ b = 8 ∨ b = 9 ∨ b = 10 ∨ b = 11 := by omega
  rcases this with rfl | rfl | rfl | rfl | rfl | rfl | rfl | rfl | rfl | rfl | rfl | rfl <;> decide
section
variable {P : Program} {w : World} {K : PySem.W.Frag} {mg : Str → Option Value} {base : Heap} {cP c1 c3 fI : Addr}
abbrev Npu : List Str := ["_law_state", "_law_names_here", "_law_left_here", "_law_pairs", "_law_more", "_law_k", "_law_ware", "_law_top", "_law_one", "_law_before", "_law_found"]
theorem scPut : FnScope Npu ["_law_state", "_law_names_here", "_law_left_here"] (defScope sPut) := ⟨rfl, rfl, rfl, by decide +kernel, rfl, by decide +kernel, by decide +kernel⟩
theorem ok_put {f : Addr} {fd : FuncData} (F : Fun K "_law_put" "_law_put" sPut f fd) (T : Txt mg) (cN : Cal P w K mg base CX0 5 "_law_next" ["_law_left_here", "_law_many"] spNext) (cL : Cal P w K mg base CX0 5 "_law_low" ["_law_top", "_law_bottom"] spLow) (cS : Cal P w K mg base CX0 5 "_law_sum" ["_law_one", "_law_other"] (spSum K))
    (cA : Cal P w K mg base CX0 5 "_law_as_dict" ["_law_found"] (spAsDict K)) (cI : Cal P w K mg base CX0 5 "_law_is_sum" ["_law_found", "_law_mine", "_law_more"] spIsSum) (cT : Cal P w K mg base CX0 5 "together" ["one", "other"] (spTog K)) (cM : Cal P w K mg base CX0 5 "mixture" ["pairs"] (spMixture K)) : FnOk P w K mg base CX0 6 f fd ["_law_state", "_law_names_here", "_law_left_here"] (spPut K) := by
  refine F.ok scPut (fun vs H Q E h => ?_) (fun cdv A outer s0 H vs Q E hr h => ?_)
  · obtain ⟨_, _, _, _, _, _, _, _, _, _, _, _, _, _, _, _, _, rfl, _⟩ := h
    rfl
  · obtain ⟨s, nl, a, m, d, l, h, ws, us, ys, M, fn, kvs, lt, lb, nn, kk, rfl, S, B, sd, k23, hnl, nla, wr, la, k⟩ := h
    refine ⟨_, (pss_cons (ps_set (i := 3) scPut.nd rfl (Or.inl rfl) (pe_lst pa_nil))
      (pss_cons (ps_set (i := 4) scPut.nd rfl (Or.inl rfl) pe_dnewK)
      (pss_cons (ps_for PassesOwn.never rfl (pi_range1 rfl T.range (pa_cons (pe_op op_add pe_int (pe_cal cN hr rfl pass0 (pa_cons (pv 2) (pa_cons pe_int pa_nil)))) pa_nil)) (pg_name (i := 5) scPut.nd rfl (Or.inl rfl))
        (pss_cons (ps_set (i := 6) scPut.nd rfl (Or.inl rfl) (pe_ix ix_list (pv 1) (pe_cal cN hr rfl pass0 (pa_cons (pv 2) (pa_cons pe_int pa_nil))) (fun _ _ => rfl)))
        (pss_cons (ps_set (i := 7) scPut.nd rfl (Or.inl rfl) (pe_cal cN hr rfl pass0 (pa_cons (pv 2) (pa_cons pe_int pa_nil))))
        (pss_cons (ps_set (i := 8) scPut.nd rfl (Or.inl rfl) (pe_cal cL hr rfl pass0 (pa_cons (pv 7) (pa_cons (pe_op op_add pe_int (pe_cal cN hr rfl pass0 (pa_cons (pv 2) (pa_cons pe_int pa_nil)))) pa_nil))))
        (pss_cons (ps_expr (pe_bm PySem.F.plainAttrs_list PySem.F.slot_list_append PySem.F.type_list_append mt_append (pv 3) (pa_cons (pe_tup (pa_cons (pv 6) (pa_cons (pv 8) pa_nil))) pa_nil)))
        (pss_cons (ps_set (i := 9) scPut.nd rfl (Or.inl rfl) (pe_dget2 (hu_of hr) (pv 4) (pv 6) (pe_tup (pa_cons pe_int (pa_cons pe_int pa_nil))) ⟨rfl, rfl, rfl, rfl⟩))
        (pss_cons (ps_dput (hu_of hr) (pv 4) (pv 6) (pe_cal cS hr rfl pass0 (pa_cons (pv 9) (pa_cons (pv 8) pa_nil))) rfl)
        (pss_one (ps_dput (hu_of hr) (pv 0) pe_str (pe_cal cS hr rfl pass0 (pa_cons (pe_dget (hu_of hr) (pv 0) pe_str (fun _ _ => rfl)) (pa_cons (pv 8) pa_nil))) rfl)))))))))
      (pss_cons (ps_set (i := 10) scPut.nd rfl (Or.inl rfl) (pe_cal cA hr rfl pass0 (pa_cons (pe_cal cT hr rfl pass0 (pa_cons (pe_dget (hu_of hr) (pv 0) pe_str (fun _ _ => rfl)) (pa_cons (pe_cal cM hr rfl pass0 (pa_cons (pv 3) pa_nil)) pa_nil))) pa_nil)))
      (pss_cons (ps_if (PW.pt (pw_or (pt_cmpR op_isN (pv 10) pe_non (nomark _)) (pw_or1 (pt_not (pt_val (pe_cal cI hr rfl pass0 (pa_cons (pv 10) (pa_cons (pe_dget (hu_of hr) (pv 0) pe_str (fun _ _ => rfl)) (pa_cons (pv 4) pa_nil)))))))))
        (pss_one (ps_ret pe_bl))
        pss_nil)
      (pss_cons (ps_dput (hu_of hr) (pv 0) pe_str (pe_cal cT hr rfl pass0 (pa_cons (pe_dget (hu_of hr) (pv 0) pe_str (fun _ _ => rfl)) (pa_cons (pe_cal cM hr rfl pass0 (pa_cons (pv 3) pa_nil)) pa_nil))) rfl)
      (pss_cons (ps_dput (hu_of hr) (pv 0) pe_str (pv 10) rfl)
      (pss_one (ps_ret (pe_cmpR (op_eqDD hr.units) (pe_cal cA hr rfl pass0 (pa_cons (pe_dget (hu_of hr) (pv 0) pe_str (fun _ _ => rfl)) pa_nil)) (pv 10) (nomark _))))))))))), ?_⟩
    have s9 : ∀ {c : Int}, 0 ≤ c → c < 1000 → Bt 9000 c := fun h0 h1 => (bt_lt 64 (c := 1000) h0 h1).mono (by decide)
    have M0 := B.M0
    have ov1 := B.mx.over
    have w5 := B.w5
    have tw0 : Two2 H s a := ⟨⟨_, S.hs⟩, la.l⟩
    refine ⟨(by show 0 ≤ sizeLine; decide), fun pr hpr => ?_⟩
    have tp := Same.upd (o := .lst []) hpr
    refine fun mo hmo => ?_
    have tm := Same.upd (o := .dK []) hmo
    have pm : pr ≠ mo := fun e => by rw [← e, upd_same] at hmo; cases hmo
    have hmo0 : H mo = none := same_none tp hmo
    have ps : pr ≠ s := fun e => by rw [e, S.hs] at hpr; cases hpr
    have ms : mo ≠ s := fun e => by rw [e, S.hs] at hmo0; cases hmo0
    have pa : pr ≠ a := la.there hpr
    have ma : mo ≠ a := la.there hmo0
    have s1 := tp.trans tm
    have sa : s ≠ a := fun e => by obtain ⟨_, ea⟩ := la.l; rw [← e, S.hs] at ea; cases ea
    refine ⟨_, rfl, a, 3, rfl, la.keep s1, by decide, s9 (by decide) (by decide), fun n3 H1 n30 n31 s1b l1 => ⟨_, _, rfl, rfl, _, rfl, by omega, by omega, ?_⟩⟩
    have p1 := s1b _ _ pa (tm _ _ (upd_same (H := H) (a := pr) (o := .lst [])))
    have m1 := s1b _ _ ma (upd_same (H := upd H pr (.lst [])) (a := mo) (o := .dK []))
    have S1 : St8 H1 s m d l h := ⟨s1b _ _ sa (s1 _ _ S.hs)⟩
    have x1 : S2 s a H H1 := (S2.same S2.refl s1).smb s1b
    refine for_range (fun i σ H' => ∃ (xs : List (Str × Int × Int)) (vs : List V) (kv2 : List (Key × V)) (ks : List Str) (l' : Addr) (lt' lb' : Int) (v5 v6 v7 v8 v9 : Option V), σ = [some (.ref s), some (.ref nl), some (.ref a), some (.ref pr), some (.ref mo), v5, v6, v7, v8, v9, none] ∧ S2 s a H H' ∧ St8 H' s m d l' h ∧ Lf H' a ∧ H' pr = some (.lst vs) ∧ PrL H' vs xs ∧ H' mo = some (.dK kv2) ∧ DA H' M xs kv2 ks ∧ ks.length ≤ i ∧ xs.length = i ∧ (∀ x ∈ xs, Amt x.2.1 x.2.2 ∧ x.2.2 ∣ 27720 ∧ x.2.1 ≤ 12 ∧ x.1 ∈ ws) ∧ SqT K H' l' [.int lt', .int lb'] ∧ Fr M lt' lb' (sumN M ys + sumN M xs) ∧ Fr (BB kk) lt' lb' (nn + sumN (BB kk) xs))
      ⟨[], [], [], [], l, lt, lb, none, none, none, none, none, rfl, x1, S1, l1, p1, .nil, m1, ⟨.nil, fun y => by simp, fun y hy => by simp at hy⟩, Nat.le_refl _, rfl, (fun x h => nomatch h), x1.tup tw0 B.sl, by rw [show sumN M [] = 0 from rfl, Int.add_zero]; exact B.fr, by rw [show sumN (BB kk) [] = 0 from rfl, Int.add_zero]; exact B.fb⟩ ?_ ?_
    · rintro i σ H2 hi ⟨xs, vs, kv2, ks, l', lt', lb', v5, v6, v7, v8, v9, rfl, x2, S', l2, p2, pl, m2, da, kl, xl, al, sl2, fr2, fb2⟩
      have i3 : i < 3 := by omega
      have hnl2 := x2.seqL tw0 nla hnl
      refine ⟨_, rfl, _, rfl, a, 5, rfl, l2, by decide, s9 (by decide) (by decide), fun n5 H3 n50 n51 s3 l3 => ?_⟩
      have x3 := x2.smb s3
      have hnl3 := x3.seqL tw0 nla hnl
      obtain ⟨j, rfl⟩ := Int.eq_ofNat_of_zero_le n50
      obtain ⟨y, hy⟩ : ∃ y, ws[j]? = some y := ⟨_, List.getElem?_eq_getElem (by omega)⟩
      have yw := List.mem_of_getElem? hy
      refine ⟨nl, _, _, _, rfl, rfl, hnl3, atI_nat (by rw [List.getElem?_map, hy]; rfl), ?_⟩
      refine ⟨_, rfl, a, 13, rfl, l3, by decide, s9 (by decide) (by decide), fun t H4 t0 t1 s4 l4 => ?_⟩
      refine ⟨_, rfl, _, rfl, a, 12, rfl, l4, by decide, s9 (by decide) (by decide), fun b H5 b0 b1 s5 l5 => ⟨_, _, rfl, rfl, t, 1 + b, rfl, t0, by omega, s9 (by omega) (by omega), fun p H6 s6 hp => ?_⟩⟩
      have am := low_amt t0 (show 1 ≤ 1 + b by omega)
      have fr0 : Fr (1 + b) (t / G t (1 + b)) ((1 + b) / G t (1 + b)) t := ⟨am, low_cross t (1 + b)⟩
      have sm0 := frSmall (by omega) fr0
      have dv : (1 + b) / G t (1 + b) ∣ 27720 := Int.dvd_trans fr0.dvd (d12 b0 b1)
      have tl : t / G t (1 + b) ≤ 12 := by omega
      have bl12 : (1 + b) / G t (1 + b) ≤ 12 := by omega
      generalize t / G t (1 + b) = ta at am tl hp
      generalize (1 + b) / G t (1 + b) = ba at am dv bl12 hp
      have s26 : SmB a H2 H6 := ((s3.trans s4).trans s5).trans (SmB.of s6)
      have l6 := l5.keep s6
      have x6 := x2.smb s26
      have p6 := s26 _ _ pa p2
      have m6 := s26 _ _ ma m2
      have S6 : St8 H6 s m d l' h := ⟨s26 _ _ sa S'.hs⟩
      have tkS : ∀ {G1 G2 : Hp}, Lf G1 a → SmB a G1 G2 → Tk G1 G2 := fun {G1 G2} la' sb b ys e => sb b _ (fun z => by obtain ⟨_, ea⟩ := la'.l; rw [z, ea] at e; cases e) e
      have pl6 := pl.keep (tkS l2 s26)
      have da6 := da.keep (tkS l2 s26)
      have sl6 := s26.sqt l2 sl2
      clear hnl2 hnl3 x3 s3 s4 s5 l3 l4 l5
      have vl := pl.length
      -- the pair
      refine ⟨_, rfl, .inl ⟨rfl, _, SqL.of p6⟩, _, rfl, _, rfl, (by show 2 ≤ sizeLine; decide), fun z hz => ?_⟩
      have tz := Same.upd (o := .tup [.str y, .ref p]) hz
      refine ⟨pr, _, _, rfl, rfl, tz _ _ p6, small1000 (by omega), ?_⟩
      have ne7 : ∀ {b : Addr} {o : HO}, b ≠ pr → H6 b = some o → upd (upd H6 z (.tup [.str y, .ref p])) pr (.lst (vs ++ [.ref z])) b = some o := fun {b o} n e => by rw [upd_ne n]; exact tz _ _ e
      have t7 : Tk H6 (upd (upd H6 z (.tup [.str y, .ref p])) pr (.lst (vs ++ [.ref z]))) := fun b ys e => ne7 (fun q => by rw [q, p6] at e; cases e) e
      have p7 := upd_same (H := upd H6 z (.tup [.str y, .ref p])) (a := pr) (o := .lst (vs ++ [.ref z]))
      have pl7 : PrL (upd (upd H6 z (.tup [.str y, .ref p])) pr (.lst (vs ++ [.ref z]))) (vs ++ [.ref z]) (xs ++ [(y, ta, ba)]) := (pl6.keep t7).snoc ⟨z, p, rfl, by rw [upd_ne (fun q => by rw [q, p6] at hz; cases hz)]; exact upd_same, t7 _ _ hp⟩
      have hp7 := t7 _ _ hp
      have m7 := ne7 (Ne.symm pm) m6
      have S7 : St8 (upd (upd H6 z (.tup [.str y, .ref p])) pr (.lst (vs ++ [.ref z]))) s m d l' h := ⟨ne7 (Ne.symm ps) S6.hs⟩
      have l7 : Lf (upd (upd H6 z (.tup [.str y, .ref p])) pr (.lst (vs ++ [.ref z]))) a := (l6.keep tz).own pa
      have x7 : S2 s a H (upd (upd H6 z (.tup [.str y, .ref p])) pr (.lst (vs ++ [.ref z]))) := (x6.same tz).own hpr
      have da7 := da6.keep t7
      have sl7 : SqT K (upd (upd H6 z (.tup [.str y, .ref p])) pr (.lst (vs ++ [.ref z]))) l' [.int lt', .int lb'] := by
        rcases sl6 with q | q
        · rcases q with q | ⟨o, q⟩
          · exact .inl (.inl (t7 _ _ q))
          · exact .inl (.inr ⟨o, ne7 (fun e => by rw [e, p6] at q; cases q) q⟩)
        · exact .inr q
      generalize upd (upd H6 z (.tup [.str y, .ref p])) pr (.lst (vs ++ [.ref z])) = H7 at p7 pl7 hp7 m7 S7 l7 x7 da7 sl7 ⊢
      clear p6 m6 S6 l6 x6 pl6 da6 sl6 ne7 t7 tz hz p2 m2 S' l2 x2 pl da sl2 s6 hp
      -- more
      have al' : ∀ x ∈ xs ++ [(y, ta, ba)], Amt x.2.1 x.2.2 ∧ x.2.2 ∣ 27720 ∧ x.2.1 ≤ 12 ∧ x.1 ∈ ws := fun x hx => by
        rcases List.mem_append.mp hx with q | q
        · exact al x q
        · rw [List.mem_singleton.mp q]
          exact ⟨am, dv, tl, yw⟩
      have ovx : Over M xs := fun x hx => ⟨(al x hx).1, Int.dvd_trans (al x hx).2.1 B.dv⟩
      have frx : Fr M ta ba (nOf M (y, ta, ba)) := Fr.of am (Int.dvd_trans dv B.dv)
      have sS : sumN M xs ≤ (xs.length : Int) * (12 * M) := sumN_bound M0 (by decide) fun x hx => ⟨(al x hx).1, Int.dvd_trans (al x hx).2.1 B.dv, (al x hx).2.2.1⟩
      have bM := B.bM
      have k24 := B.k24
      have b36 : Bt 2600 (36 * M) := ((bt_lt 6 (x := 36) (c := 37) (by decide) (by decide)).mul bM).mono (by omega)
      have S0 := sumN_nonneg M0 ovx
      have le36 : sumN M xs ≤ 36 * M := by
        have : (xs.length : Int) * (12 * M) ≤ 3 * (12 * M) := Int.mul_le_mul_of_nonneg_right (by omega) (by omega)
        omega
      refine ⟨_, rfl, mo, rfl, .inl ⟨kv2, .inl m7⟩, _, rfl, (by show 2 ≤ sizeLine; decide), fun z1 hz1 => ?_⟩
      have w1 := Same.upd (o := .tup [.int 0, .int 1]) hz1
      have F8 := (da7.keep (Same.tk w1)).fd (w1 _ _ m7) M0 ovx (by omega) (bM.mono (by omega)) ((b36.le S0 le36).mono (by decide))
      obtain ⟨q1, t1', b1', g1, hq1, fr1, bt1, bb1⟩ := F8.get y upd_same
      refine ⟨_, DGet.k (k := Sum.inr y) F8.hd, ?_⟩
      rw [g1]
      have b12 : ∀ {n : Int}, 0 ≤ n → n ≤ 12 → Bt 4000 n := fun h0 h1 => (bt_lt 5 (c := 13) h0 (by omega)).mono (by decide)
      refine ⟨_, rfl, _, rfl, q1, p, t1', b1', ta, ba, rfl, ⟨SqT.of hq1, SqT.of (w1 _ _ hp7), fr1.am, am, bt1.mono (by decide), bb1.mono (by decide), b12 am.t0 tl, b12 (by have := am.b1; omega) bl12⟩, fun r H9 s9' hr' => ?_⟩
      have s79 := w1.trans s9'
      have m9 := s79 _ _ m7
      have da9 := da7.keep (Same.tk s79)
      obtain ⟨ks', da9', kl'⟩ := da9.snoc (x := (y, ta, ba)) hr' (fr1.plus frx)
      refine ⟨_, rfl, _, rfl, mo, _, rfl, DPut.k (k := Sum.inr y) m9 (small1000 (by have := da7.1.len; omega)), ?_⟩
      have tkm : Tk H9 (upd H9 mo (.dK (putK kv2 (Sum.inr y) (.ref r)))) := Tk.dk m9
      have neA : ∀ {b : Addr} {o : HO}, b ≠ mo → H7 b = some o → upd H9 mo (.dK (putK kv2 (Sum.inr y) (.ref r))) b = some o := fun {b o} n e => by rw [upd_ne n]; exact s79 _ _ e
      have pA := neA pm p7
      have plA := (pl7.keep (Same.tk s79)).keep tkm
      have mA := upd_same (H := H9) (a := mo) (o := .dK (putK kv2 (Sum.inr y) (.ref r)))
      have daA := da9'.keep tkm
      have SA : St8 (upd H9 mo (.dK (putK kv2 (Sum.inr y) (.ref r)))) s m d l' h := ⟨neA (Ne.symm ms) S7.hs⟩
      have lA : Lf (upd H9 mo (.dK (putK kv2 (Sum.inr y) (.ref r)))) a := (l7.keep s79).own ma
      have xA : S2 s a H (upd H9 mo (.dK (putK kv2 (Sum.inr y) (.ref r)))) := (x7.same s79).own hmo0
      have hpA : upd H9 mo (.dK (putK kv2 (Sum.inr y) (.ref r))) p = some (.tup [.int ta, .int ba]) := tkm _ _ (s79 _ _ hp7)
      have slA : SqT K (upd H9 mo (.dK (putK kv2 (Sum.inr y) (.ref r)))) l' [.int lt', .int lb'] := by
        rcases s79.tup sl7 with q | q
        · rcases q with q | ⟨o, q⟩
          · exact .inl (.inl (tkm _ _ q))
          · exact .inl (.inr ⟨o, by rw [upd_ne (fun e => by rw [e, m9] at q; cases q)]; exact q⟩)
        · exact .inr q
      generalize upd H9 mo (.dK (putK kv2 (Sum.inr y) (.ref r))) = HA at pA plA mA daA SA lA xA hpA slA ⊢
      -- what lies there
      have smb := frSmall (BB_pos kk) fb2
      have bbk := BB_le k24
      have sSB : sumN (BB kk) xs ≤ (xs.length : Int) * (12 * BB kk) := sumN_bound (BB_pos kk) (by decide) fun x hx => ⟨(al x hx).1, Int.dvd_trans (al x hx).2.1 (BB_dvd kk), (al x hx).2.2.1⟩
      have nB : nn + sumN (BB kk) xs ≤ 900 * BB 24 := by
        have h1 : (xs.length : Int) * (12 * BB kk) ≤ 3 * (12 * BB kk) := Int.mul_le_mul_of_nonneg_right (by omega) (by have := BB_pos kk; omega)
        have h2 := B.nb
        have h3 : 36 * (kk : Int) * BB kk ≤ 864 * BB kk := Int.mul_le_mul_of_nonneg_right (by omega) (by have := BB_pos kk; omega)
        omega
      have cB : 900 * BB 24 < ((2 ^ 120 : Nat) : Int) := by decide +kernel
      have btl : Bt 120 lt' := by show lt'.natAbs < 2 ^ 120; have := fb2.am.t0; omega
      have bbl : Bt 120 lb' := by show lb'.natAbs < 2 ^ 120; have := fb2.am.b1; have : BB 24 ≤ 900 * BB 24 := (by have := BB_pos 24; omega); omega
      refine ⟨_, rfl, s, _, rfl, SA.lies, _, rfl, l', p, lt', lb', ta, ba, rfl, ⟨slA, SqT.of hpA, fr2.am, am, btl.mono (by decide), bbl.mono (by decide), b12 am.t0 tl, b12 (by have := am.b1; omega) bl12⟩, fun r2 HB sB hr2 => ?_⟩
      have SB : St8 HB s m d l' h := ⟨sB _ _ SA.hs⟩
      refine ⟨_, rfl, s, _, rfl, DPut.k (k := Sum.inr "lies") SB.hs (by show 4 < sizeLine; decide), ?_⟩
      have ep := put_lies (.ref m) (.ref d) (.ref l') (.ref h) (.ref r2)
      rw [ep]
      have tks : Tk HB (upd HB s (.dK (sk (.ref m) (.ref d) (.ref r2) (.ref h)))) := Tk.dk SB.hs
      refine ⟨xs ++ [(y, ta, ba)], vs ++ [.ref z], _, ks', r2, _, _, _, _, _, _, _, rfl, (xA.same sB).at, ⟨upd_same⟩, (lA.keep sB).own sa, by rw [upd_ne ps]; exact sB _ _ pA, (plA.keep (Same.tk sB)).keep tks, by rw [upd_ne ms]; exact sB _ _ mA, (daA.keep (Same.tk sB)).keep tks, by omega, by rw [List.length_append, xl]; rfl, al', SqT.of (tks _ _ hr2), ?_, ?_⟩
      · rw [sumN_snoc', ← Int.add_assoc]
        exact fr2.plus frx
      · rw [sumN_snoc', ← Int.add_assoc]
        exact fb2.plus (Fr.of am (Int.dvd_trans dv (BB_dvd kk)))
    · rintro σ H2 ⟨xs, vs, kv2, ks, l', lt', lb', v5, v6, v7, v8, v9, rfl, x2, S2', l2, p2, pl, m2, da, kl, xl, al, sl2, fr2, fb2⟩
      have x3 : xs.length ≤ 3 := by omega
      have k24 := B.k24
      have bM := B.bM
      have ovx : Over M xs := fun x hx => ⟨(al x hx).1, Int.dvd_trans (al x hx).2.1 B.dv⟩
      have sS : sumN M xs ≤ (xs.length : Int) * (12 * M) := sumN_bound M0 (by decide) fun x hx => ⟨(al x hx).1, Int.dvd_trans (al x hx).2.1 B.dv, (al x hx).2.2.1⟩
      have b36 : Bt 2600 (36 * M) := ((bt_lt 6 (x := 36) (c := 37) (by decide) (by decide)).mul bM).mono (by omega)
      have S0 := sumN_nonneg M0 ovx
      have le36 : sumN M xs ≤ 36 * M := by
        have : (xs.length : Int) * (12 * M) ≤ 3 * (12 * M) := Int.mul_le_mul_of_nonneg_right (by omega) (by omega)
        omega
      have bSx : Bt 2600 (sumN M xs) := b36.le S0 le36
      have bM3 : Bt 3000 M := bM.mono (by omega)
      have bN := B.bN
      have bN26 : Bt 2600 (sumN M ys) := B.bN.mono (by omega)
      have hms : ∃ o, H2 s = some o := ⟨_, S2'.hs⟩
      have tw : Two2 H s a := tw0
      have sq2 := x2.tup tw B.sq
      have pr2 := B.pr.keep (x2.tk tw)
      have hd2 : H2 d = some (.dK kvs) := x2 _ _ (Ne.symm sd) (fun e => by obtain ⟨_, ea⟩ := la.l; rw [← e, B.hd] at ea; cases ea) B.hd
      have td2 := x2.td tw B.td
      have ylen := B.len
      -- the new mixture, once
      have tog : ∀ (G : Hp) (R : VK), Same H2 G ∨ True → SqT K G m us → PrL G us ys → SqL K G pr vs → PrL G vs xs → (∀ m' zs ys' G', Same G G' → G' m' = some (.tup zs) → PrL G' zs ys' → IsMx M (fun y => fn y + NW M xs y) ys' → R (.ref m') G') → spMixture K [.ref pr] G (fun v G1 => spTog K [.ref m, v] G1 R E0) E0 := fun G R _ g1 g2 g3 g4 kr => by
        refine ⟨pr, vs, xs, M, rfl, g3, g4, by omega, ovx, M0, bM3, bSx.mono (by decide), fun m2 zs2 ys2 G1 t1 e1 e2 e3 => ?_⟩
        have mx2 := IsMx.of e3
        have y2l : ys2.length ≤ 5 := by
          have := nd_sub (ws := ws) mx2.nd fun y hy => by
            have := (mx2.mem y).mp hy
            by_cases q : y ∈ xs.map (·.1)
            · obtain ⟨x, hx, rfl⟩ := List.mem_map.mp q
              exact (al x hx).2.2.2
            · exact absurd (NW_none q) this
          rw [List.length_map, w5] at this
          exact this
        have e4 : sumN M ys2 = sumN M xs := e3.sum
        refine ⟨m, m2, us, zs2, ys, ys2, M, rfl, t1.tup g1, g2.keep (Same.tk t1), SqT.of e1, e2, by omega, ov1, mx2.over, M0, bM3, ?_, fun m' zs ys' G' t2 e5 e6 e7 => ?_⟩
        · rw [sumN_append, e4]
          exact (bN26.add bSx).mono (by decide)
        · exact kr m' zs ys' G' (t1.trans t2) e5 e6 (e7.congr fun y => by rw [B.mx.nw, mx2.nw])
      have sN' : ∀ {ys' : List (Str × Int × Int)}, IsMx M (fun y => fn y + NW M xs y) ys' → (sumN M ys' = sumN M ys + sumN M xs ∧ ∀ x ∈ ys', x.1 ∈ ws) := fun {ys'} mx' => by
        have inW : ∀ x ∈ ys', x.1 ∈ ws := fun x hx => by
          have q := (mx'.mem x.1).mp (List.mem_map_of_mem hx)
          by_cases q1 : fn x.1 = 0
          · have q2 : NW M xs x.1 ≠ 0 := fun z => q (by show fn x.1 + NW M xs x.1 = 0; omega)
            by_cases q3 : x.1 ∈ xs.map (·.1)
            · obtain ⟨x', hx', e⟩ := List.mem_map.mp q3
              exact e ▸ (al x' hx').2.2.2
            · exact absurd (NW_none q3) q2
          · obtain ⟨x', hx', e⟩ := List.mem_map.mp ((B.mx.mem x.1).mpr q1)
            exact e ▸ (B.nm x' hx').1
        have h1 := NW_sum (M := M) B.wn inW
        have h2 := NW_sum (M := M) B.wn fun x hx => (B.nm x hx).1
        have h3 := NW_sum (M := M) B.wn fun x hx => (al x hx).2.2.2
        refine ⟨?_, inW⟩
        rw [← h1, ← h2, ← h3, ← sum_add]
        congr 1
        refine List.map_congr_left fun y _ => ?_
        rw [mx'.nw, B.mx.nw]
      have al1 : ∀ {ys' : List (Str × Int × Int)}, IsMx M (fun y => fn y + NW M xs y) ys' → ys'.length ≤ 5 ∧ ∀ x ∈ ys', 1 ≤ x.1.length ∧ Amt x.2.1 x.2.2 ∧ x.2.1 ≠ 0 := fun {ys'} mx' => by
        have inW := (sN' mx').2
        constructor
        · have := nd_sub mx'.nd fun y hy => by
            obtain ⟨x, hx, rfl⟩ := List.mem_map.mp hy
            exact inW x hx
          rw [List.length_map, w5] at this
          exact this
        · intro x hx
          have fx := mx'.fr x hx
          refine ⟨(wr _ (inW x hx)).l1, fx.am, fun z => ?_⟩
          exact (mx'.mem x.1).mp (List.mem_map_of_mem hx) ((fx.nought M0).mpr z)
      refine ⟨_, rfl, s, _, rfl, S2'.tub, _, rfl, ?_⟩
      dsimp only [tNil, List.append_nil]
      refine tog H2 _ (.inr trivial) sq2 pr2 (SqL.of p2) pl fun m1 zs1 ys1 G1 t1 e1 e2 mx1 => ?_
      obtain ⟨yl1, al1'⟩ := al1 mx1
      have sn1 := (sN' mx1).1
      refine ⟨m1, zs1, ys1, rfl, SqT.of e1, e2, by omega, mx1.pw, mx1.nd, al1', fun d1 kv1 H3 s3 hd10 hd1 td1 => ?_⟩
      have s23 := t1.trans s3
      have S3 : St8 H3 s m d l' h := ⟨s23 _ _ S2'.hs⟩
      have bN' : Bt 2700 (sumN M ys1) := by
        rw [sn1]
        exact (bN26.add bSx).mono (by decide)
      have F1 : FD H3 d1 kv1 _ M _ := td1.fd hd1 mx1 M0 (by omega) bM3 (bN'.mono (by decide))
      have F2 : FD H3 d kvs _ M fn := (td2.keep (Same.tk s23)).fd (s23 _ _ hd2) B.mx M0 (by omega) bM3 (bN.mono (by omega))
      have F3 : FD H3 mo kv2 ks M (NW M xs) := (da.keep (Same.tk s23)).fd (s23 _ _ m2) M0 ovx (by omega) bM3 (bSx.mono (by decide))
      refine ⟨_, rfl, rfl, _, rfl, iteF ⟨_, rfl, _, rfl, s, _, rfl, S3.told, _, rfl, d1, d, mo, kv1, kvs, kv2, _, _, _, M, _, _, _, rfl, F1, F2, F3, M0, (fun y => rfl), fun H4 s4 => ⟨_, rfl, iteF ?_⟩⟩⟩
      have s24 := s23.trans s4
      have S4 : St8 H4 s m d l' h := ⟨s4 _ _ S3.hs⟩
      -- once more
      refine ⟨_, rfl, s, _, rfl, S4.tub, _, rfl, ?_⟩
      dsimp only [tNil, List.append_nil]
      refine tog H4 _ (.inr trivial) (s24.tup sq2) (pr2.keep (Same.tk s24)) (SqL.of (s24 _ _ p2)) (pl.keep (Same.tk s24)) fun m5 zs5 ys5 H5 t5 e5 e6 mx5 => ?_
      have ey := IsMx.uniq M0 mx5 mx1
      subst ey
      have s25 := s24.trans t5
      have S5 : St8 H5 s m d l' h := ⟨t5 _ _ S4.hs⟩
      have hd5 := t5 _ _ (s4 _ _ hd1)
      have td5 := td1.keep (Same.tk (s4.trans t5))
      have sd1 : s ≠ d1 := fun e => by rw [← e, t1 _ _ S2'.hs] at hd10; cases hd10
      refine ⟨_, rfl, s, _, rfl, DPut.k (k := Sum.inr "tub") S5.hs (by show 4 < sizeLine; decide), ?_⟩
      rw [put_tub (.ref m) (.ref d) (.ref l') (.ref h) (.ref m5)]
      have tk6 : Tk H5 (upd H5 s (.dK (sk (.ref m5) (.ref d) (.ref l') (.ref h)))) := Tk.dk S5.hs
      refine ⟨_, rfl, _, rfl, s, _, rfl, DPut.k (k := Sum.inr "told") upd_same (by show 4 < sizeLine; decide), ?_⟩
      rw [put_told (.ref m5) (.ref d) (.ref l') (.ref h) (.ref d1)]
      have tk7 : Tk (upd H5 s (.dK (sk (.ref m5) (.ref d) (.ref l') (.ref h)))) (upd (upd H5 s (.dK (sk (.ref m5) (.ref d) (.ref l') (.ref h)))) s (.dK (sk (.ref m5) (.ref d1) (.ref l') (.ref h)))) := Tk.dk upd_same
      have tk57 : Tk H5 (upd (upd H5 s (.dK (sk (.ref m5) (.ref d) (.ref l') (.ref h)))) s (.dK (sk (.ref m5) (.ref d1) (.ref l') (.ref h)))) := fun b ys e => tk7 _ _ (tk6 _ _ e)
      have S7 : St8 (upd (upd H5 s (.dK (sk (.ref m5) (.ref d) (.ref l') (.ref h)))) s (.dK (sk (.ref m5) (.ref d1) (.ref l') (.ref h)))) s m5 d1 l' h := ⟨upd_same⟩
      have hd7 : upd (upd H5 s (.dK (sk (.ref m5) (.ref d) (.ref l') (.ref h)))) s (.dK (sk (.ref m5) (.ref d1) (.ref l') (.ref h))) d1 = some (.dK kv1) := by rw [upd_ne (Ne.symm sd1), upd_ne (Ne.symm sd1)]; exact hd5
      have td7 := td5.keep tk57
      have e57 := tk57 _ _ e5
      have pr7 := e6.keep tk57
      have x7 : S2 s a H (upd (upd H5 s (.dK (sk (.ref m5) (.ref d) (.ref l') (.ref h)))) s (.dK (sk (.ref m5) (.ref d1) (.ref l') (.ref h)))) := ((x2.same s25).at).at
      have l7 : Lf (upd (upd H5 s (.dK (sk (.ref m5) (.ref d) (.ref l') (.ref h)))) s (.dK (sk (.ref m5) (.ref d1) (.ref l') (.ref h)))) a := ((l2.keep s25).own sa).own sa
      have sl7 : SqT K (upd (upd H5 s (.dK (sk (.ref m5) (.ref d) (.ref l') (.ref h)))) s (.dK (sk (.ref m5) (.ref d1) (.ref l') (.ref h)))) l' [.int lt', .int lb'] := by
        rcases s25.tup sl2 with q | q
        · rcases q with q | ⟨o, q⟩
          · exact .inl (.inl (tk57 _ _ q))
          · exact .inl (.inr ⟨o, by rw [upd_ne (fun e => by rw [e, S5.hs] at q; cases q), upd_ne (fun e => by rw [e, S5.hs] at q; cases q)]; exact q⟩)
        · exact .inr q
      generalize upd (upd H5 s (.dK (sk (.ref m5) (.ref d) (.ref l') (.ref h)))) s (.dK (sk (.ref m5) (.ref d1) (.ref l') (.ref h))) = H7 at S7 hd7 td7 e57 pr7 x7 l7 sl7 ⊢
      refine ⟨_, rfl, s, _, rfl, S7.tub, m5, zs5, ys5, rfl, SqT.of e57, pr7, by omega, mx5.pw, mx5.nd, al1', fun d8 kv8 H8 s8 hd80 hd8 td8 => ?_⟩
      refine ⟨_, rfl, d8, d1, _, _, rfl, rfl, .inl hd8, .inl (s8 _ _ hd7), TD.ddeq td8 (td7.keep (Same.tk s8)) mx5.nd, ?_⟩
      have sSB : sumN (BB kk) xs ≤ (xs.length : Int) * (12 * BB kk) := sumN_bound (BB_pos kk) (by decide) fun x hx => ⟨(al x hx).1, Int.dvd_trans (al x hx).2.1 (BB_dvd kk), (al x hx).2.2.1⟩
      have fb8 : Fr (BB (kk + 1)) lt' lb' ((nn + sumN (BB kk) xs) * 7) := fr_scale fb2 (BB_pos kk) (by rw [BB_succ]; grind)
      refine k m5 d1 l' zs5 ys5 _ kv1 lt' lb' _ H8 (x7.same s8) ⟨s8 _ _ S7.hs⟩ ⟨SqT.of (s8 _ _ e57), pr7.keep (Same.tk s8), mx5, M0, s8 _ _ hd7, td7.keep (Same.tk s8), s8.tup sl7, by rw [sn1]; exact fr2, fb8, ?_, B.dv, bM.mono (by omega), fun x hx => ⟨(sN' mx5).2 x hx, (al1' x hx).1⟩, by omega, w5, B.wn⟩ sd1 (let ⟨_, ea⟩ := (l7.keep s8).l; ⟨_, ea⟩)
      have h1 : (xs.length : Int) * (12 * BB kk) ≤ 3 * (12 * BB kk) := Int.mul_le_mul_of_nonneg_right (by omega) (by have := BB_pos kk; omega)
      have h2 := B.nb
      rw [BB_succ]
      have h4 : 36 * ((kk + 1 : Nat) : Int) * (BB kk * 7) = (36 * (kk : Int) * BB kk + 36 * BB kk) * 7 := by push_cast; grind
      rw [h4]
      omega
end
end K8

/-! ### a dict that was walked may change again; dict.update; min(one int, default=None) -/
namespace L2
open PySem PySem.Spec PyProof.Rows
theorem Inv.thaw {X : Cx} {pins : List (Addr × Obj)} {σ : St} {H : Hp} {s : Shared} {d : Addr} {ob : Obj} {kvs : List (Key × V)} (I : Inv X pins σ H s) (hd : H d = some (.frz ob (.dK kvs))) (h0 : ∀ o u, X.H₀ d ≠ some (.frz o u)) : Inv X pins σ (upd H d (.dK kvs)) s := by
  have ne : ∀ b, H b = none → b ≠ d := fun b n z => by rw [z, hd] at n; cases n
  have nd : ∀ b u, H b = some u → u ≠ .frz ob (.dK kvs) → b ≠ d := fun b u e n z => by
    rw [z, hd] at e
    exact n (Option.some.inj e).symm
  have st : ∀ {a : Addr} {u : HO}, ObjOk X.prog X.w H s.heap a u → ObjOk X.prog X.w (upd H d (.dK kvs)) s.heap a u := fun x =>
    x.stay (fun c v _ q => q) (fun c q => by rw [upd_ne (nd c _ q (by intro z; cases z))]; exact q) fun c xs q => by rw [upd_ne (nd c _ q (by intro z; cases z))]; exact q
  refine ⟨I.ok, I.os, I.bare, ⟨I.base.keep, I.base.slot, fun b o e n hx => ?_, I.base.there, fun b xs e => ?_, fun b o u e => ?_, fun b ps e => ?_⟩, I.loc, I.cell, ?_, fun x c e => ?_, fun p hp => ?_, fun b u e => ?_, I.len⟩
  · have z := I.base.free b o e n hx
    rw [upd_ne (ne b z)]
    exact z
  · have z := I.base.tups b xs e
    rw [upd_ne (nd b _ z (by intro z; cases z))]
    exact z
  · have z := I.base.frzs b o u e
    rw [upd_ne (fun q => h0 o u (by rw [← q]; exact e))]
    exact z
  · obtain ⟨m, z⟩ := I.base.tbls b ps e
    exact ⟨m, by rw [upd_ne (nd b _ z (by intro z; cases z))]; exact z⟩
  · rw [upd_ne (ne _ I.free)]
    exact I.free
  · rw [upd_ne (ne _ (I.freeC x c e))]
    exact I.freeC x c e
  · obtain ⟨q1, q2, q3⟩ := I.pin p hp
    exact ⟨q1, by rw [upd_ne (ne _ q2)]; exact q2, q3⟩
  · by_cases e' : b = d
    · subst e'
      rw [upd_same] at e
      cases e
      exact st (I.hok b _ hd).2
    · rw [upd_ne e'] at e
      exact st (I.hok b u e)
def tThaw (H₀ : Hp) (te : TE) : TE := fun σ H Q => te σ H fun v H' => ∃ d ob kvs, H' d = some (.frz ob (.dK kvs)) ∧ (∀ o u, H₀ d ≠ some (.frz o u)) ∧ Q v (upd H' d (.dK kvs))
theorem pe_thaw {X : Cx} {e : Expr} {te : TE} (he : PE X e te) : PE X e (tThaw X.H₀ te) := by
  intro pins s σ H Q I h
  refine thn (he pins s σ H _ I h) fun v s1 ⟨x, H1, I1, r1, d, ob, kvs, hd, h0, q⟩ => ?_
  exact ⟨x, _, I1.thaw hd h0, r1, q⟩
def rUpd : V → List V → Hp → VK → Prop := fun x vs H Q => ∃ d o kvs more, x = .ref d ∧ vs = [.ref o] ∧ d ≠ o ∧ H d = some (.dK kvs) ∧ H o = some (.dK more) ∧ kvs.length + more.length ≤ 1000 ∧ Q .non (upd H d (.dK (mergeK kvs more)))
section
variable {prog : Program} {w : World} {A : Around} {E : Value → Shared → Prop} {s : Shared}
end
end L2
namespace L2
open PySem PySem.Spec PyProof.Rows
def tMinD (te : TE) : TE := fun σ H Q => te σ H fun x H1 => ∃ l n, x = .ref l ∧ H1 l = some (.lst [.int n]) ∧ Q (.int n) H1
end L2

/-! ### methods, by their class; fields within a comprehension; a walked dict behind a statement -/
namespace L2
open PySem PySem.Spec PyProof.Rows
/-- a method of the class that may be called -/
structure MCal (P : Program) (w : World) (K : PySem.W.Frag) (mg : Str → Option Value) (base : Heap) (CX : CXT) (k : Nat) (C : Addr) (m : Str) (ps : List Str) (sp : Sp) : Prop where
  ex : ∃ (f : Addr) (fd : FuncData), Meth K C m f ∧ Binds K fd ps [] ∧ FnOk P w K mg base CX k f fd ps sp
section
variable {X : Cx} {CX : CXT} {k : Nat} {C : Addr} {m : Str} {ps : List Str} {sp : Sp} {E : XK} {o e : Expr} {es : List Expr} {ta : TE} {t : TA} {apos pos : Pos}
end
def tThawS (H₀ : Hp) (t : TS) : TS := fun D σ H => t { D with nx := fun σ' H' => ∃ d ob kvs, H' d = some (.frz ob (.dK kvs)) ∧ (∀ o u, H₀ d ≠ some (.frz o u)) ∧ D.nx σ' (upd H' d (.dK kvs)) } σ H
theorem ps_thaw {X : Cx} {st : Stmt} {t : TS} (h : PS X st t) : PS X st (tThawS X.H₀ t) := by
  intro pins s σ H D I q
  refine thn (h pins s σ H _ I q) fun f s1 z => ?_
  cases f with
  | next =>
    obtain ⟨σ', H', I', d, ob, kvs, hd, h0, q'⟩ := z
    exact ⟨σ', _, I'.thaw hd h0, q'⟩
  | brk => exact z
  | cont => exact z
  | ret u => exact z
theorem thaw_same {H H5 : Hp} {c : Addr} {ob : Obj} {kvs : List (Key × V)} (h : H c = some (.dK kvs)) (s : Same (upd H c (.frz ob (.dK kvs))) H5) : Same H (upd H5 c (.dK kvs)) := fun b o e => by
  by_cases z : b = c
  · subst z
    rw [h] at e
    cases e
    exact upd_same
  · rw [upd_ne z]
    exact s b o (by rw [upd_ne z]; exact e)
end L2

namespace K8
open PySem PySem.Spec PyProof.Rows L2 GM TM
theorem ratio_crs {M bs ts N ta ba t1 b1 t2 b2 f lt lb : Int} (M0 : 0 < M) (b0 : 0 < bs) (h1 : Fr (M * bs) t1 b1 (f * ts)) (h2 : Fr M t2 b2 f) (h3 : Fr M lt lb N) (e : ts * (N * ba) = ta * M * bs) : t1 * b2 * lt * ba = t2 * ta * b1 * lb := by
  have e1 := h1.e
  have e2 := h2.e
  have e3 := h3.e
  have p : 0 < M * bs * M := Int.mul_pos (Int.mul_pos M0 b0) M0
  refine Int.eq_of_mul_eq_mul_right (show M * bs * M ≠ 0 by omega) ?_
  calc t1 * b2 * lt * ba * (M * bs * M) = (t1 * (M * bs)) * b2 * (lt * M) * ba := by grind
    _ = (f * ts * b1) * b2 * (N * lb) * ba := by rw [e1, e3]
    _ = f * b1 * b2 * lb * (ts * (N * ba)) := by grind
    _ = f * b1 * b2 * lb * (ta * M * bs) := by rw [e]
    _ = (f * b2) * ta * b1 * lb * (M * bs) := by grind
    _ = (t2 * M) * ta * b1 * lb * (M * bs) := by rw [e2]
    _ = t2 * ta * b1 * lb * (M * bs * M) := by grind
structure RtIn (K : PySem.W.Frag) (H : Hp) (e q s m d l h : Addr) (ke kd : List (Key × V)) (se sd : List Str) (M N ta ba ts bs lt lb : Int) (f : Str → Int) : Prop where
  fo : FD H e ke se (M * bs) (fun y => f y * ts)
  ft : FD H d kd sd M f
  sq : SqT K H q [.int ta, .int ba]
  st : St8 H s m d l h
  sl : SqT K H l [.int lt, .int lb]
  fr : Fr M lt lb N
  M0 : 0 < M
  sh : Shr M N ta ba ts bs
  ed : e ≠ d
  nsd : s ≠ d
  nse : s ≠ e
  bt : Bt 200 ta
  bb : Bt 200 ba
  bl : Bt 200 lt
  bm : Bt 200 lb
  nz : ∀ y ∈ se, f y ≠ 0
def spRatio (K : PySem.W.Frag) : Sp := fun vs H Q _ => ∃ e q s m d l h ke kd se sd M N ta ba ts bs lt lb f, vs = [.ref e, .ref q, .ref s] ∧ RtIn K H e q s m d l h ke kd se sd M N ta ba ts bs lt lb f ∧ ∀ H', Same H H' → Q (.bl true) H'
theorem filt0 : ∀ l : List V, (l.filter fun _ => false).length = 0
  | [] => rfl
  | _ :: l => filt0 l
theorem key_str {kvs : List (Key × V)} {ks : List Str} (h : kvs.map (·.1) = ks.map Sum.inr) {i : Nat} {kv : Key × V} (hi : kvs[i]? = some kv) : ∃ y, ks[i]? = some y ∧ kv.1 = Sum.inr y := by
  have q := congrArg (fun l => l[i]?) h
  simp only [List.getElem?_map, hi] at q
  cases e : ks[i]? with
  | none => rw [e] at q; cases q
  | some y => rw [e] at q; exact ⟨y, rfl, Option.some.inj q⟩
section
variable {P : Program} {w : World} {K : PySem.W.Frag} {mg : Str → Option Value} {base : Heap} {cP c1 c3 fI : Addr}
abbrev Nra : List Str := ["_law_out", "_law_asked_here", "_law_state", "_law_lies", "_law_ware", "_law_one", "_law_mine", "_law_due"]
theorem ndRa : (["_law_ware", "_law_state"] : List Str).Nodup := by decide +kernel
theorem scRatio : FnScope Nra ["_law_out", "_law_asked_here", "_law_state"] (defScope sRatio) := ⟨rfl, rfl, rfl, by decide +kernel, rfl, by decide +kernel, by decide +kernel⟩
theorem ok_ratio {f : Addr} {fd : FuncData} (F : Fun K "_law_ratio" "_law_ratio" sRatio f fd) (T : Txt mg) : FnOk P w K mg base CX0 1 f fd ["_law_out", "_law_asked_here", "_law_state"] (spRatio K) := by
  refine F.ok scRatio (fun vs H Q E h => ?_) (fun cdv A outer s0 H vs Q E hr h => ?_)
  · obtain ⟨_, _, _, _, _, _, _, _, _, _, _, _, _, _, _, _, _, _, _, _, rfl, _⟩ := h
    rfl
  · obtain ⟨e, q, s, m, d, l, h, ke, kd, se, sd, M, N, ta, ba, ts, bs, lt, lb, fn, rfl, I, k⟩ := h
    refine ⟨_, (pss_cons (ps_set (i := 3) scRatio.nd rfl (Or.inl rfl) (pe_dget (hu_of hr) (pv 2) pe_str (fun _ _ => rfl)))
      (pss_cons (ps_thaw (ps_for PassesOwn.never rfl (pi_dict (pe_dget (hu_of hr) (pv 2) pe_str (fun _ _ => rfl))) (pg_name (i := 4) scRatio.nd rfl (Or.inl rfl))
        (pss_cons (ps_set (i := 5) scRatio.nd rfl (Or.inl rfl) (pe_dget2 (hu_of hr) (pv 0) (pv 4) (pe_tup (pa_cons pe_int (pa_cons pe_int pa_nil))) ⟨rfl, rfl, rfl, rfl⟩))
        (pss_cons (ps_set (i := 6) scRatio.nd rfl (Or.inl rfl) (pe_dget (hu_of hr) (pe_dget (hu_of hr) (pv 2) pe_str (fun _ _ => rfl)) (pv 4) (fun _ _ => rfl)))
        (pss_cons (ps_set (i := 7) scRatio.nd rfl (Or.inl rfl) (pe_op op_mulB (pe_op op_mulB (pe_op op_mulB (pit 6 0) (pit 1 0)) (pit 5 1)) (pit 3 1)))
        (pss_one (ps_if (pt_cmpR op_ne (pe_op op_mulB (pe_op op_mulB (pe_op op_mulB (pit 5 0) (pit 6 1)) (pit 3 0)) (pit 1 1)) (pv 7) (nomark _))
          (pss_one (ps_ret pe_bl))
          pss_nil)))))))
      (pss_one (ps_ret (pe_cmpR (op_eqE hr.units) (pe_thaw (pe_compC (N' := ["_law_ware", "_law_state"]) (fun σ => [none, some 2].map fun t => t.bind fun j => (σ[j]?).join) rfl rfl (by decide +kernel) (by decide +kernel)
            (hk_of (sc := defScope sRatio) rfl (by decide +kernel)) (fun _ _ _ => blkN_by (sc := defScope sRatio) (N := Nra) [none, some 2] rfl rfl rfl rfl (by decide +kernel))
            (pi_dict (pv 0)) (fun _ _ _ _ _ _ => pg_name (i := 0) ndRa rfl (Or.inl rfl))
            (fun _ _ _ _ _ _ => pifs_one (pt_cmp (pc_dnotin (hu_of hr) (pv 0) (pe_dget (hu_of hr) (pv 1) pe_str (fun _ _ => rfl)))))
            (fun _ _ _ _ _ _ => pv 0))) (pe_lst pa_nil) (nomark _)))))), ?_⟩
    have bs1 := I.sh.am.b1
    refine ⟨_, rfl, s, _, rfl, I.st.lies, ?_⟩
    refine ⟨_, rfl, s, _, rfl, I.st.told, d, kd, rfl, I.ft.hd, fun ob => ?_⟩
    have ne : ∀ {b : Addr} {o : HO}, b ≠ d → H b = some o → upd H d (.frz ob (.dK kd)) b = some o := fun {b o} n e => by rw [upd_ne n]; exact e
    have tkd : Tk H (upd H d (.frz ob (.dK kd))) := Tk.dk I.ft.hd
    have sqt : ∀ {p : Addr} {xs : List V}, SqT K H p xs → SqT K (upd H d (.frz ob (.dK kd))) p xs := fun {p xs} x => by
      rcases x with x | x
      · rcases x with x | ⟨o, x⟩
        · exact .inl (.inl (tkd _ _ x))
        · exact .inl (.inr ⟨o, ne (fun z => by rw [z, I.ft.hd] at x; cases x) x⟩)
      · exact .inr x
    refine for_dict (fun i σ H' => ∃ (v4 v5 v6 v7 : Option V), σ = [some (.ref e), some (.ref q), some (.ref s), some (.ref l), v4, v5, v6, v7] ∧ Same (upd H d (.frz ob (.dK kd))) H') ⟨none, none, none, none, rfl, Same.refl _⟩ ?_ ?_ ?_
    · rintro i σ H' _ ⟨_, _, _, _, rfl, sm⟩
      exact sm _ _ upd_same
    · rintro i kv σ H2 hkv ⟨v4, v5, v6, v7, rfl, s2⟩
      obtain ⟨y, hy, ek⟩ := key_str I.ft.ky hkv
      rw [ek]
      have he2 : H2 e = some (.dK ke) := s2 _ _ (ne I.ed I.fo.hd)
      refine ⟨_, rfl, e, rfl, .inl ⟨ke, .inl he2⟩, _, rfl, (by show 2 ≤ sizeLine; decide), fun z1 hz1 => ?_⟩
      have w1 := Same.upd (o := .tup [.int 0, .int 1]) hz1
      have s3 := s2.trans w1
      have F1 : FD (upd H2 z1 (.tup [.int 0, .int 1])) e ke se (M * bs) (fun y => fn y * ts) := ⟨w1 _ _ he2, I.fo.ky, I.fo.ln, fun y => (I.fo.at' y).imp (fun ⟨p, t, b, e1, e2, r⟩ => ⟨p, t, b, e1, s3 _ _ (tkd _ _ e2), r⟩) id⟩
      obtain ⟨q1, t1, b1, g1, hq1, fr1, bt1, bb1⟩ := F1.get y upd_same
      refine ⟨_, DGet.k (k := Sum.inr y) F1.hd, ?_⟩
      rw [g1]
      have hd3 := s3 _ _ (upd_same (H := H) (a := d) (o := .frz ob (.dK kd)))
      have hs3 : St8 (upd H2 z1 (.tup [.int 0, .int 1])) s m d l h := ⟨s3 _ _ (ne I.nsd I.st.hs)⟩
      obtain ⟨q2, t2, b2, g2, hq2, fr2, bt2, bb2⟩ : ∃ q2 t2 b2, valV kd (Sum.inr y) = some (.ref q2) ∧ H q2 = some (.tup [.int t2, .int b2]) ∧ Fr M t2 b2 (fn y) ∧ Bt 3000 t2 ∧ Bt 3000 b2 := by
        rcases I.ft.at' y with z | ⟨z, _⟩
        · exact z
        · exfalso
          have : Sum.inr y ∈ kd.map (·.1) := by rw [I.ft.ky]; exact List.mem_map_of_mem (List.mem_of_getElem? hy)
          rw [← ek] at this z
          obtain ⟨kv', hk', e'⟩ := List.mem_map.mp this
          have q := valV_any kv.1 kd
          rw [z] at q
          have : (kd.any fun kv' => decide (kv'.1 = kv.1)) = true := List.any_eq_true.mpr ⟨kv', hk', decide_eq_true e'⟩
          rw [q] at this
          cases this
      have dg : DGet (upd H2 z1 (.tup [.int 0, .int 1])) d (.str y) (some (.ref q2)) := .inl ⟨kd, .inr y, .inr ⟨ob, hd3⟩, rfl, g2.symm⟩
      refine ⟨_, rfl, s, _, rfl, hs3.told, _, rfl, d, _, rfl, dg, ?_⟩
      have sq2 := SqT.of (K := K) (s3 _ _ (tkd _ _ hq2))
      have sq1 := SqT.of (K := K) hq1
      have sqq := s3.tup (sqt I.sq)
      have sql := s3.tup (sqt I.sl)
      have c1 := bt2.mul I.bt
      have c2 := c1.mul bb1
      have c3 := bt1.mul bb2
      have c4 := c3.mul I.bl
      refine ⟨q2, _, _, rfl, sq2, rfl, q, _, _, rfl, sqq, rfl, _, _, rfl, rfl, ⟨b3 bt2, b3 I.bt⟩, q1, _, _, rfl, sq1, rfl, _, _, rfl, rfl, ⟨b3 c1, b3 bb1⟩, l, _, _, rfl, sql, rfl, _, _, rfl, rfl, ⟨b3 c2, b3 I.bm⟩, ?_⟩
      refine ⟨q1, _, _, rfl, sq1, rfl, q2, _, _, rfl, sq2, rfl, _, _, rfl, rfl, ⟨b3 bt1, b3 bb2⟩, l, _, _, rfl, sql, rfl, _, _, rfl, rfl, ⟨b3 c3, b3 I.bl⟩, q, _, _, rfl, sqq, rfl, _, _, rfl, rfl, ⟨b3 c4, b3 I.bb⟩, _, rfl, rfl, _, rfl, ?_⟩
      have crs := ratio_crs I.M0 (by omega) fr1 fr2 I.fr I.sh.e
      refine ite2 (fun z => absurd ((congrArg Bool.not (decide_eq_true (congrArg V.int crs))).symm.trans z) (by decide)) (fun _ => ?_)
      exact ⟨_, _, _, _, rfl, s3⟩
    · rintro σ H2 ⟨v4, v5, v6, v7, rfl, s2⟩
      refine ⟨d, ob, kd, s2 _ _ upd_same, (fun o u z => by have z' : H d = some (.frz o u) := z; rw [I.ft.hd] at z'; cases z'), ?_⟩
      have s3 : Same H (upd H2 d (.dK kd)) := thaw_same I.ft.hd s2
      generalize upd H2 d (.dK kd) = H3 at s3 ⊢
      have he3 := s3 _ _ I.fo.hd
      refine ⟨_, rfl, e, ke, rfl, he3, fun ob2 D hD => ?_⟩
      have el : se.length = ke.length := by have := congrArg List.length I.fo.ky; simpa using this.symm
      have en := I.fo.ln
      refine comp_filt (Ys.dict upd_same) (fun _ => false) (fun _ _ _ => False) (fun _ _ _ _ h _ => h) hD (by rw [List.length_map]; omega) (fun i v H' R1 R2 hv sm r1 r2 => ?_) (fun ys H5 sm hD5 yl hy => ?_)
      · rw [List.getElem?_map] at hv
        obtain ⟨kv, hkv, rfl⟩ := Option.map_eq_some_iff.mp hv
        obtain ⟨y, hy, ek⟩ := key_str I.fo.ky hkv
        rw [ek]
        have nz := I.nz y (List.mem_of_getElem? hy)
        have hs' : St8 H' s m d l h := ⟨sm _ _ (by rw [upd_ne I.nse]; exact s3 _ _ I.st.hs)⟩
        have hd' : H' d = some (.dK kd) := sm _ _ (by rw [upd_ne (Ne.symm I.ed)]; exact s3 _ _ I.ft.hd)
        rcases I.ft.at' y with ⟨q2, t2, b2, g2, _⟩ | ⟨_, z⟩
        · have dg : DGet H' d (.str y) (some (.ref q2)) := .inl ⟨kd, .inr y, .inl hd', rfl, g2.symm⟩
          exact ⟨(Keep.refl _).set rfl, _, rfl, _, rfl, s, _, rfl, hs'.told, d, _, rfl, dg, _, rfl, iteF (r2 rfl _ (Same.refl _))⟩
        · exact absurd z nz
      have y0 : ys = [] := by
        have : ys.length = 0 := by rw [yl]; exact filt0 _
        exact List.length_eq_zero_iff.mp this
      subst y0
      have De : D ≠ e := fun z => by rw [z, upd_same] at hD; cases hD
      refine ⟨e, ob2, ke, sm _ _ upd_same, (fun o u z => by have z' : H e = some (.frz o u) := z; rw [I.fo.hd] at z'; cases z'), ?_⟩
      have s6 : Same H3 (upd H5 e (.dK ke)) := thaw_same he3 sm
      refine ⟨(by show 0 ≤ sizeLine; decide), fun z hz => ⟨D, z, [], rfl, rfl, SqL.of ((Same.upd hz) _ _ (by rw [upd_ne De]; exact hD5)), SqL.of upd_same, k _ ((s3.trans s6).trans (Same.upd hz))⟩⟩
end
end K8

namespace K8
open PySem PySem.Spec PyProof.Rows L2 GM TM
def spShort (K : PySem.W.Frag) : Sp := fun vs H Q _ => ∃ s q m d l h us ys M ta ba f lt lb, vs = [.ref s, .ref q] ∧ St8 H s m d l h ∧ TkIn K H m q us ys M ta ba f ∧ sumN M ys * ba < ta * M ∧ SqT K H l [.int lt, .int lb] ∧ Fr M lt lb (sumN M ys) ∧ ∀ H', Same H H' → Q (.bl true) H'
theorem sum_mul (f : Str → Int) (c : Int) : ∀ ks : List Str, (ks.map fun k => f k * c).sum = (ks.map f).sum * c
  | [] => by simp
  | k :: r => by rw [List.map_cons, List.map_cons, List.sum_cons, List.sum_cons, sum_mul f c r, Int.add_mul]
theorem mx_sum {M : Int} {f : Str → Int} {ys : List (Str × Int × Int)} {ws : List Str} (mx : IsMx M f ys) (nd : ws.Nodup) (h : ∀ x ∈ ys, x.1 ∈ ws) : sumN M ys = (ws.map f).sum := by
  rw [← NW_sum nd h]
  congr 1
  exact List.map_congr_left fun y _ => mx.nw y
theorem mx_sub {M M' : Int} {f f' : Str → Int} {ys zs : List (Str × Int × Int)} {ws : List Str} (mx : IsMx M f ys) (mz : IsMx M' f' zs) (h : ∀ x ∈ ys, x.1 ∈ ws ∧ 1 ≤ x.1.length) (z : ∀ y, f' y ≠ 0 → f y ≠ 0) : ∀ x ∈ zs, x.1 ∈ ws ∧ 1 ≤ x.1.length := fun x hx => by
  obtain ⟨x', hx', e⟩ := List.mem_map.mp ((mx.mem x.1).mpr (z _ ((mz.mem x.1).mp (List.mem_map_of_mem hx))))
  exact e ▸ h x' hx'
abbrev Kind (ta ba lt lb : Int) : Prop := (ta ≤ 12 ∧ ba ∣ 27720 ∧ ba ≤ 12) ∨ ∃ j : Int, 0 ≤ j ∧ j ≤ 7 ∧ ta * (lb * 7) = lt * j * ba
theorem share_low {M N ta ba ts bs lt lb : Int} (M0 : 0 < M) (fr : Fr M lt lb N) (sh : Shr M N ta ba ts bs) : ts * (ba * lt) = ta * lb * bs := by
  have e1 := fr.e
  have e2 := sh.e
  have b1 := fr.am.b1
  refine Int.eq_of_mul_eq_mul_right (show M ≠ 0 by omega) ?_
  grind
theorem Tb.bs {K : PySem.W.Frag} {H : Hp} {ws : List Str} {m d l : Addr} {us : List V} {ys : List (Str × Int × Int)} {M : Int} {f : Str → Int} {kvs : List (Key × V)} {lt lb nl : Int} {k : Nat} (T : Tb K H ws m d l us ys M f kvs lt lb nl k) {ta ba ts bs : Int} (am : Amt ta ba) (kd : Kind ta ba lt lb) (sh : Shr M (sumN M ys) ta ba ts bs) : Bt 100 bs := by
  have bs1 := sh.am.b1
  by_cases n0 : sumN M ys = 0
  · rw [(sh.nn n0).2]
    exact (bt_lt 2 (c := 2) (by decide) (by decide)).mono (by decide)
  · have e := share_low T.M0 T.fr sh
    have ba1 := am.b1
    have lt1 : 1 ≤ lt := by
      have := T.fr.am.t0
      have : lt ≠ 0 := fun z => n0 ((T.fr.nought T.M0).mpr z)
      omega
    have p := mul1 ba1 lt1
    rcases kd with ⟨k1, k2, k3⟩ | ⟨j, j0, j7, ej⟩
    · have fr : Fr (ba * lt) ts bs (ta * lb) := ⟨sh.am, e⟩
      have sm := (frSmall (by omega) fr).2
      have smb := (frSmall (BB_pos k) T.fb).1
      have h1 : nl ≤ 864 * BB 24 := Int.le_trans T.nb (Int.mul_le_mul (by have := T.k24; omega) (BB_le T.k24) (by have := BB_pos k; omega) (by decide))
      have h2 : ba * lt ≤ 12 * (864 * BB 24) := Int.mul_le_mul k3 (by omega) (by omega) (by decide)
      have c : 12 * (864 * BB 24) < ((2 ^ 100 : Nat) : Int) := by decide +kernel
      show bs.natAbs < 2 ^ 100
      omega
    · have e7 : ts * 7 = j * bs := by
        refine Int.eq_of_mul_eq_mul_right (show ba * lt ≠ 0 by omega) ?_
        calc ts * 7 * (ba * lt) = ts * (ba * lt) * 7 := by rw [Int.mul_right_comm]
          _ = ta * lb * bs * 7 := by rw [e]
          _ = ta * (lb * 7) * bs := by grind
          _ = lt * j * ba * bs := by rw [ej]
          _ = j * bs * (ba * lt) := by grind
      have fr : Fr 7 ts bs j := ⟨sh.am, e7⟩
      have sm := (frSmall (by decide) fr).2
      show bs.natAbs < 2 ^ 100
      have : bs.natAbs ≤ 7 := by omega
      exact Nat.lt_of_le_of_lt this (by decide)
theorem Tb.askb {K : PySem.W.Frag} {H : Hp} {ws : List Str} {m d l : Addr} {us : List V} {ys : List (Str × Int × Int)} {M : Int} {f : Str → Int} {kvs : List (Key × V)} {lt lb nl : Int} {k : Nat} (T : Tb K H ws m d l us ys M f kvs lt lb nl k) {ta ba : Int} (am : Amt ta ba) (kd : Kind ta ba lt lb) : Bt 200 ta ∧ Bt 200 ba ∧ ∃ na, Fr (BB (k + 1)) ta ba na := by
  obtain ⟨s1, s2⟩ := T.small
  have b1 := am.b1
  have t0 := am.t0
  rcases kd with ⟨k1, k2, k3⟩ | ⟨j, j0, j7, ej⟩
  · exact ⟨(bt_lt 5 (c := 13) t0 (by omega)).mono (by decide), (bt_lt 5 (c := 13) (by omega) (by omega)).mono (by decide), _, Fr.of am (Int.dvd_trans k2 (BB_dvd (k + 1)))⟩
  · have lb1 := T.fr.am.b1
    have lt0 := T.fr.am.t0
    have fr : Fr (lb * 7) ta ba (lt * j) := ⟨am, ej⟩
    have sm := frSmall (by omega) fr
    have b7 : Bt 4 (7 : Int) := bt_lt 4 (c := 8) (by decide) (by decide)
    have bj : Bt 4 j := bt_lt 4 (c := 8) j0 (by omega)
    refine ⟨((s1.mul bj).le t0 sm.1).mono (by decide), ((s2.mul b7).le (by omega) sm.2).mono (by decide), nl * j, am, ?_⟩
    have e := T.fb.e
    rw [BB_succ]
    refine Int.eq_of_mul_eq_mul_right (show lb ≠ 0 by omega) ?_
    calc ta * (BB k * 7) * lb = ta * (lb * 7) * BB k := by grind
      _ = lt * j * ba * BB k := by rw [ej]
      _ = lt * BB k * j * ba := by grind
      _ = nl * lb * j * ba := by rw [e]
      _ = nl * j * ba * lb := by grind
theorem Tb.tkin {K : PySem.W.Frag} {H : Hp} {ws : List Str} {m d l q : Addr} {us : List V} {ys : List (Str × Int × Int)} {M : Int} {f : Str → Int} {kvs : List (Key × V)} {lt lb nl : Int} {k : Nat} (T : Tb K H ws m d l us ys M f kvs lt lb nl k) (k23 : k ≤ 23) {ta ba : Int} (am : Amt ta ba) (kd : Kind ta ba lt lb) (sq : SqT K H q [.int ta, .int ba]) : TkIn K H m q us ys M ta ba f :=
  ⟨T.mixd, sq, am, (T.askb am kd).1, (T.askb am kd).2.1, fun ts bs sh => ⟨(T.bM.mul (T.bs am kd sh)).mono (by omega), (T.bN.mul (T.bs am kd sh)).mono (by omega)⟩⟩
section
variable {P : Program} {w : World} {K : PySem.W.Frag} {mg : Str → Option Value} {base : Heap} {cP c1 c3 fI : Addr}
theorem scShort : FnScope ["_law_state", "_law_asked_here", "_law_short_here", "e"] ["_law_state", "_law_asked_here"] (defScope sShort) := ⟨rfl, rfl, rfl, by decide +kernel, rfl, by decide +kernel, by decide +kernel⟩
theorem ok_short {f : Addr} {fd : FuncData} (F : Fun K "_law_short" "_law_short" sShort f fd) (R : ErN K mg cP c1 c3 fI) (cB : Cal P w K mg base (CXg P w) 6 "taken" ["one", "asked"] (spTaken K c3))
    (cA : Cal P w K mg base CX0 6 "_law_is_amount" ["_law_found"] (spIsAm K)) : FnOk P w K mg base CX0 7 f fd ["_law_state", "_law_asked_here"] (spShort K) := by
  refine F.ok scShort (fun vs H Q E h => ?_) (fun cdv A outer s0 H vs Q E hr h => ?_)
  · obtain ⟨_, _, _, _, _, _, _, _, _, _, _, _, _, _, rfl, _⟩ := h
    rfl
  · obtain ⟨s, q, m, d, l, h, us, ys, M, ta, ba, fn, lt, lb, rfl, S, I, les, sl, fr, k⟩ := h
    refine ⟨_, (pss_cons (ps_set (i := 2) scShort.nd rfl (Or.inl rfl) pe_non)
      (pss_cons (ps_tryS (i := 3) (j := 2) ⟨rfl, rfl, rfl⟩ rfl R.m3 R.ct3 scShort.nd rfl rfl rfl rfl (by decide) (fun pins E' σ Ec hp => pss_one (ps_expr (pe_calS cB hr rfl hp (pa_cons (pe_dget (hu_of hr) (pv 0) pe_str (fun _ _ => rfl)) (pa_cons (pv 1) pa_nil))))))
      (pss_cons (ps_if (PW.pt (pw_or (pt_cmpR op_isN (pv 2) pe_non (nomark _)) (pw_or1 (pt_not (pt_val (pe_cal cA hr rfl pass0 (pa_cons (pe_exf (pv 2) rfl) pa_nil)))))))
        (pss_one (ps_ret pe_bl))
        pss_nil)
      (pss_one (ps_ret (pe_cmpR (op_eqI hr.units) (pe_exf (pv 2) rfl) (pe_dget (hu_of hr) (pv 0) pe_str (fun _ _ => rfl)) (nomark _))))))), ?_⟩
    refine ⟨rfl, _, rfl, s, _, rfl, S.tub, _, rfl, m, q, us, ys, M, ta, ba, fn, rfl, I, fun _ p t' b' dx H1 s1 hp fr' hd => ⟨c3, rfl, R.ef.i.k, R.s3, fun ea hea => ?_⟩, fun le => absurd le (by omega)⟩
    obtain ⟨et, eb⟩ := Fr.uniq I.I.M0 fr' fr
    subst et eb
    have s2 : Same H1 (upd H1 ea (excD ea c3 (some dx))) := Same.upd hea
    have h1 := upd_same (H := H1) (a := ea) (o := excD ea c3 (some dx))
    have h2 := s2 _ _ hd
    have sq3 := s2.tup hp
    have s12 := s1.trans s2
    refine ⟨_, rfl, rfl, _, rfl, iteF ⟨_, rfl, ea, c3, cP, fI, dx, _, .ref p, rfl, h1, h2, R.ef, rfl, p, _, _, rfl, sq3, fr.am, _, rfl, iteF ?_⟩⟩
    have S2' : St8 (upd H1 ea (excD ea c3 (some dx))) s m d l h := ⟨s12 _ _ S.hs⟩
    refine ⟨_, rfl, ea, c3, cP, fI, dx, _, .ref p, rfl, h1, h2, R.ef, rfl, _, rfl, s, _, rfl, S2'.lies, p, l, [_, _], [_, _], rfl, rfl, sq3, s12.tup sl, ?_⟩
    have kk : ∀ bb : Bool, bb = true → Q (.bl bb) (upd H1 ea (excD ea c3 (some dx))) := fun _ h => h ▸ k _ s12
    exact kk _ (decide_eq_true rfl)
end
end K8

namespace K8
open PySem PySem.Spec PyProof.Rows L2 GM TM
/-- one thing held: what went out, and how it was told -/
structure Hd (K : PySem.W.Frag) (H : Hp) (g o e : Addr) (vo : List V) (zs : List (Str × Int × Int)) (ke : List (Key × V)) : Prop where
  hg : H g = some (.lst [.ref o, .ref e])
  ho : SqT K H o vo
  pr : PrL H vo zs
  he : H e = some (.dK ke)
  td : TD H ke zs
  zl : zs.length ≤ 63
  pw : (zs.map (·.1)).Pairwise leS
  nd : (zs.map (·.1)).Nodup
  al : ∀ x ∈ zs, 1 ≤ x.1.length ∧ Amt x.2.1 x.2.2 ∧ x.2.1 ≠ 0
def spTake (K : PySem.W.Frag) : Sp := fun vs H Q _ => ∃ s q m d l h ws us ys M f kvs lt lb nn k ta ba hs, vs = [.ref s, .ref q] ∧ St8 H s m d l h ∧ Tb K H ws m d l us ys M f kvs lt lb nn k ∧ s ≠ d ∧ k ≤ 23 ∧ (∀ x ∈ ws, Wr x) ∧ SqT K H q [.int ta, .int ba] ∧ Amt ta ba ∧ Kind ta ba lt lb ∧ H h = some (.lst hs) ∧ hs.length ≤ k ∧
  ∀ m' d' l' us' ys' M' f' kvs' lt' lb' nn' hs' H', S2 s h H H' → St8 H' s m' d' l' h → Tb K H' ws m' d' l' us' ys' M' f' kvs' lt' lb' nn' (k + 1) → s ≠ d' → H' h = some (.lst hs') → (hs' = hs ∨ ∃ g o e vo zs ke, hs' = hs ++ [.ref g] ∧ Hd K H' g o e vo zs ke ∧ g ≠ h ∧ e ≠ s) → Q (.bl true) H'
theorem Tb.up {K : PySem.W.Frag} {H : Hp} {ws : List Str} {m d l : Addr} {us : List V} {ys : List (Str × Int × Int)} {M : Int} {f : Str → Int} {kvs : List (Key × V)} {lt lb nl : Int} {k : Nat} (T : Tb K H ws m d l us ys M f kvs lt lb nl k) (k23 : k ≤ 23) : Tb K H ws m d l us ys M f kvs lt lb (nl * 7) (k + 1) :=
  ⟨T.sq, T.pr, T.mx, T.M0, T.hd, T.td, T.sl, T.fr, fr_scale T.fb (BB_pos k) (by rw [BB_succ]; grind), by
    have h2 := T.nb
    rw [BB_succ]
    have h4 : 36 * ((k + 1 : Nat) : Int) * (BB k * 7) = (36 * (k : Int) * BB k + 36 * BB k) * 7 := by push_cast; grind
    rw [h4]
    have := BB_pos k
    omega, T.dv, T.bM.mono (by omega), T.nm, by omega, T.w5, T.wn⟩
section
variable {P : Program} {w : World} {K : PySem.W.Frag} {mg : Str → Option Value} {base : Heap} {cP c1 c3 fI : Addr}
abbrev Nta : List Str := ["_law_state", "_law_asked_here", "_law_lies", "_law_found", "_law_out", "_law_left_here", "_law_top"]
theorem scTake : FnScope Nta ["_law_state", "_law_asked_here"] (defScope sTake) := ⟨rfl, rfl, rfl, by decide +kernel, rfl, by decide +kernel, by decide +kernel⟩
theorem ok_take {f : Addr} {fd : FuncData} (F : Fun K "_law_take" "_law_take" sTake f fd) (T : Txt mg) (cSh : Cal P w K mg base CX0 7 "_law_short" ["_law_state", "_law_asked_here"] (spShort K)) (cB : Cal P w K mg base (CXg P w) 7 "taken" ["one", "asked"] (spTaken K c3)) (cA : Cal P w K mg base CX0 7 "_law_as_dict" ["_law_found"] (spAsDict K)) (cI : Cal P w K mg base CX0 7 "_law_is_sum" ["_law_found", "_law_mine", "_law_more"] spIsSum)
    (cR : Cal P w K mg base CX0 7 "_law_ratio" ["_law_out", "_law_asked_here", "_law_state"] (spRatio K)) (cAl : Cal P w K mg base CX0 7 "alike" ["one", "other"] (spAlike K)) (cL : Cal P w K mg base CX0 7 "_law_low" ["_law_top", "_law_bottom"] spLow) : FnOk P w K mg base CX0 8 f fd ["_law_state", "_law_asked_here"] (spTake K) := by
  refine F.ok scTake (fun vs H Q E h => ?_) (fun cdv A outer s0 H vs Q E hr h => ?_)
  · obtain ⟨_, _, _, _, _, _, _, _, _, _, _, _, _, _, _, _, _, _, _, rfl, _⟩ := h
    rfl
  · obtain ⟨s, q, m, d, l, h, ws, us, ys, M, fn, kvs, lt, lb, nn, kk, ta, ba, hs, rfl, S, B, sd, k23, wr, sq, am, kd, hh, hl, k⟩ := h
    refine ⟨_, (pss_cons (ps_set (i := 2) scTake.nd rfl (Or.inl rfl) (pe_dget (hu_of hr) (pv 0) pe_str (fun _ _ => rfl)))
      (pss_cons (ps_if (pt_cmpR op_lt (pe_op op_mulB (pit 2 0) (pit 1 1)) (pe_op op_mulB (pit 1 0) (pit 2 1)) (nomark _))
        (pss_one (ps_ret (pe_cal cSh hr rfl pass0 (pa_cons (pv 0) (pa_cons (pv 1) pa_nil)))))
        pss_nil)
      (pss_cons (ps_set (i := 3) scTake.nd rfl (Or.inl rfl) (pe_cal cB hr rfl passY (pa_cons (pe_dget (hu_of hr) (pv 0) pe_str (fun _ _ => rfl)) (pa_cons (pv 1) pa_nil))))
      (pss_cons (ps_if (PW.pt (pw_or (pt_not (pt_val (pe_callB call_isi rfl T.isi boot_isinstance (pa_cons (pv 3) (pa_cons (pe_bltn (v := .ty "tuple") rfl T.tup' bt_tuple rfl) pa_nil))))) (pw_or1 (pt_cmpR op_ne (pe_callB call_len_seq rfl T.len PySem.boot_len (pa_cons (pv 3) pa_nil)) pe_int (nomark _)))))
        (pss_one (ps_ret pe_bl))
        pss_nil)
      (pss_cons (ps_set (i := 4) scTake.nd rfl (Or.inl rfl) (pe_cal cA hr rfl pass0 (pa_cons (pit 3 0) pa_nil)))
      (pss_cons (ps_set (i := 5) scTake.nd rfl (Or.inl rfl) (pe_cal cA hr rfl pass0 (pa_cons (pit 3 1) pa_nil)))
      (pss_cons (ps_if (PW.pt (pw_or (pt_cmpR op_isN (pv 4) pe_non (nomark _)) (pw_or (pt_cmpR op_isN (pv 5) pe_non (nomark _)) (pw_or1 (pt_not (pt_val (pe_cal cI hr rfl pass0 (pa_cons (pe_dget (hu_of hr) (pv 0) pe_str (fun _ _ => rfl)) (pa_cons (pv 4) (pa_cons (pv 5) pa_nil))))))))))
        (pss_one (ps_ret pe_bl))
        pss_nil)
      (pss_cons (ps_if (pt_not (pt_val (pe_cal cR hr rfl pass0 (pa_cons (pv 4) (pa_cons (pv 1) (pa_cons (pv 0) pa_nil))))))
        (pss_one (ps_ret pe_bl))
        pss_nil)
      (pss_cons (ps_if (PW.pt (pw_and (pt_cmpR op_gt (pit 1 0) pe_int (nomark _)) (pw_and (pt_cmpR op_eq (pe_op op_mod (pit 1 0) pe_int) pe_int (nomark _)) (pw_and1 (pt_cmpR op_isnotB (pe_cal cAl hr rfl pass0 (pa_cons (pit 3 0) (pa_cons (pe_dget (hu_of hr) (pv 0) pe_str (fun _ _ => rfl)) pa_nil))) pe_bl (nomark _))))))
        (pss_one (ps_ret pe_bl))
        pss_nil)
      (pss_cons (ps_set (i := 6) scTake.nd rfl (Or.inl rfl) (pe_op op_sub (pe_op op_mulB (pit 2 0) (pit 1 1)) (pe_op op_mulB (pit 1 0) (pit 2 1))))
      (pss_cons (ps_dput (hu_of hr) (pv 0) pe_str (pe_cal cL hr rfl pass0 (pa_cons (pv 6) (pa_cons (pe_op op_mulB (pit 2 1) (pit 1 1)) pa_nil))) rfl)
      (pss_cons (ps_expr (pe_bm PySem.F.plainAttrs_list PySem.F.slot_list_append PySem.F.type_list_append mt_append (pe_dget (hu_of hr) (pv 0) pe_str (fun _ _ => rfl)) (pa_cons (pe_lst (pa_cons (pit 3 0) (pa_cons (pv 4) pa_nil))) pa_nil)))
      (pss_cons (ps_dput (hu_of hr) (pv 0) pe_str (pit 3 1) rfl)
      (pss_cons (ps_dput (hu_of hr) (pv 0) pe_str (pv 5) rfl)
      (pss_one (ps_ret pe_bl)))))))))))))))), ?_⟩
    refine cut15 ?_; intro u15 u14 u13 u12 u11 u10 u9 u8 u7 u6 u5 u4 u3 u2
    have M0 := B.M0
    obtain ⟨sm1, sm2⟩ := B.small
    obtain ⟨ab1, ab2, na, fa⟩ := B.askb am kd
    have sh0 : s ≠ h := fun e => by rw [← e, S.hs] at hh; cases hh
    have N0 := sumN_nonneg M0 B.mx.over
    have ba1 := am.b1
    have ta0 := am.t0
    have lb1 := B.fr.am.b1
    have lt0 := B.fr.am.t0
    have I := B.tkin k23 am kd sq
    refine ⟨_, rfl, s, _, rfl, S.lies, ?_⟩
    refine ⟨l, _, _, rfl, B.sl, rfl, q, _, _, rfl, sq, rfl, _, _, rfl, rfl, ⟨b3 sm1, b3 ab2⟩, q, _, _, rfl, sq, rfl, l, _, _, rfl, B.sl, rfl, _, _, rfl, rfl, ⟨b3 ab1, b3 sm2⟩, _, _, rfl, rfl, _, rfl, ite2 (fun hc => ?_) (fun hc => ?_)⟩
    · have lt1 := (less_iff (ta := ta) (ba := ba) M0 B.fr).mp (of_decide_eq_true hc)
      refine ⟨_, rfl, _, rfl, s, q, m, d, l, h, us, ys, M, ta, ba, fn, lt, lb, rfl, S, I, lt1, B.sl, B.fr, fun H1 s1 => ?_⟩
      have s1' : S2 s h H H1 := S2.same S2.refl s1
      exact k m d l us ys M fn kvs lt lb _ hs H1 s1' ⟨s1 _ _ S.hs⟩ ((B.up k23).keep s1) sd (s1 _ _ hh) (.inl rfl)
    have le : ta * M ≤ sumN M ys * ba := by
      have : ¬ sumN M ys * ba < ta * M := fun z => hc (decide_eq_true ((less_iff M0 B.fr).mpr z))
      omega
    refine ⟨_, rfl, s, _, rfl, S.tub, _, rfl, ?_⟩
    dsimp only [tNil, List.append_nil]
    refine ⟨m, q, us, ys, M, ta, ba, fn, rfl, I, fun z => absurd le (by omega), fun _ r zs ls ts bs H1 s1 sh tk => ?_⟩
    obtain ⟨⟨o, g, vo, vl, hr1, ho1, po1, hg1, pg1⟩, z1, l1⟩ := tk
    have bs1 := sh.am.b1
    have ts0 := sh.am.t0
    have tl := sh.le
    have Mb0 : 0 < M * bs := Int.mul_pos M0 (by omega)
    have bb100 := B.bs am kd sh
    have bMb : Bt 2500 (M * bs) := (B.bM.mul bb100).mono (by omega)
    have bNb : Bt 2600 (sumN M ys * bs) := (B.bN.mul bb100).mono (by omega)
    have nzs := mx_sub B.mx z1 B.nm fun y (n : fn y * ts ≠ 0) z => n (by rw [z, Int.zero_mul])
    have nls := mx_sub B.mx l1 B.nm fun y (n : fn y * (bs - ts) ≠ 0) z => n (by rw [z, Int.zero_mul])
    have sy := mx_sum B.mx B.wn fun x hx => (B.nm x hx).1
    have sz : sumN (M * bs) zs = sumN M ys * ts := by rw [mx_sum z1 B.wn fun x hx => (nzs x hx).1, sum_mul, sy]
    have sl : sumN (M * bs) ls = sumN M ys * (bs - ts) := by rw [mx_sum l1 B.wn fun x hx => (nls x hx).1, sum_mul, sy]
    have lenW : ∀ {M' : Int} {f' : Str → Int} {xs : List (Str × Int × Int)}, IsMx M' f' xs → (∀ x ∈ xs, x.1 ∈ ws ∧ 1 ≤ x.1.length) → xs.length ≤ 5 := fun {M' f' xs} mx h => by
      have := nd_sub mx.nd fun y hy => by
        obtain ⟨x, hx, rfl⟩ := List.mem_map.mp hy
        exact (h x hx).1
      rw [List.length_map, B.w5] at this
      exact this
    have zl := lenW z1 nzs
    have ll := lenW l1 nls
    have alW : ∀ {f' : Str → Int} {xs : List (Str × Int × Int)}, IsMx (M * bs) f' xs → (∀ x ∈ xs, x.1 ∈ ws ∧ 1 ≤ x.1.length) → ∀ x ∈ xs, 1 ≤ x.1.length ∧ Amt x.2.1 x.2.2 ∧ x.2.1 ≠ 0 := fun {f' xs} mx h x hx =>
      ⟨(h x hx).2, (mx.fr x hx).am, fun z => (mx.mem x.1).mp (List.mem_map_of_mem hx) (((mx.fr x hx).nought Mb0).mpr z)⟩
    have bSz : Bt 2600 (sumN (M * bs) zs) := by rw [sz]; exact bNb.le (Int.mul_nonneg N0 ts0) (Int.mul_le_mul_of_nonneg_left tl N0)
    have bSl : Bt 2600 (sumN (M * bs) ls) := by rw [sl]; exact bNb.le (Int.mul_nonneg N0 (by omega)) (Int.mul_le_mul_of_nonneg_left (by omega) N0)
    -- told
    have sr1 := SqT.of (K := K) hr1
    refine ⟨_, rfl, _, "tuple", true, rfl, .tup_tuple sr1, _, rfl, iteF ⟨_, rfl, r, _, rfl, .inr sr1, rfl, _, rfl, iteF ?_⟩⟩
    refine ⟨r, _, _, rfl, sr1, rfl, o, vo, zs, rfl, SqT.of ho1, po1, by omega, z1.pw, z1.nd, alW z1 nzs, fun e ke H2 s2 he0 he te => ?_⟩
    have hr2 := s2 _ _ hr1
    refine ⟨r, _, _, rfl, SqT.of hr2, rfl, g, vl, ls, rfl, SqT.of (s2 _ _ hg1), pg1.keep (Same.tk s2), by omega, l1.pw, l1.nd, alW l1 nls, fun c kc H3 s3 hc0 hc3 tc => ?_⟩
    have s13 := s1.trans (s2.trans s3)
    have S3 : St8 H3 s m d l h := ⟨s13 _ _ S.hs⟩
    have B3 := B.keep s13
    have he3 := s3 _ _ he
    have te3 := te.keep (Same.tk s3)
    have Fe : FD H3 e ke _ (M * bs) _ := te3.fd he3 z1 Mb0 (by omega) (bMb.mono (by decide)) (bSz.mono (by decide))
    have Fc : FD H3 c kc _ (M * bs) _ := tc.fd hc3 l1 Mb0 (by omega) (bMb.mono (by decide)) (bSl.mono (by decide))
    have Fd := B3.fd
    have Fd' := Fd.scale (f2 := fun y => fn y * bs) M0 Mb0 fun y => by grind
    refine ⟨_, rfl, rfl, _, rfl, iteF ⟨_, rfl, rfl, _, rfl, iteF ⟨_, rfl, s, _, rfl, S3.told, _, rfl, _, rfl, d, e, c, kvs, ke, kc, _, _, _, M * bs, _, _, _, rfl, Fd', Fe, Fc, Mb0, (fun y => by show fn y * bs = fn y * ts + fn y * (bs - ts); grind), fun H4 s4 => ⟨_, rfl, iteF ?_⟩⟩⟩⟩
    have s14 := s13.trans s4
    have S4 : St8 H4 s m d l h := ⟨s4 _ _ S3.hs⟩
    have B4 := B3.keep s4
    have sq4 := s14.tup sq
    have ed : e ≠ d := fun z => by rw [z, s1 _ _ B.hd] at he0; cases he0
    have se : s ≠ e := fun z => by rw [← z, s1 _ _ S.hs] at he0; cases he0
    have sc : s ≠ c := fun z => by rw [← z, s2 _ _ (s1 _ _ S.hs)] at hc0; cases hc0
    refine ⟨_, rfl, _, rfl, _, rfl, e, q, s, m, d, l, h, ke, kvs, _, _, M, sumN M ys, ta, ba, ts, bs, lt, lb, fn, rfl, ⟨Fe.keep s4, B4.fd, sq4, S4, B4.sl, B.fr, M0, sh, ed, sd, se, ab1, ab2, sm1.mono (by decide), sm2.mono (by decide), (fun y hy z => (z1.mem y).mp hy (by show fn y * ts = 0; rw [z, Int.zero_mul]))⟩, fun H5 s5 => ⟨_, rfl, iteF ?_⟩⟩
    -- alike
    have s15 := s14.trans s5
    have S5 : St8 H5 s m d l h := ⟨s5 _ _ S4.hs⟩
    have B5 := B4.keep s5
    have s25 := s3.trans (s4.trans s5)
    have hr5 := s25 _ _ hr2
    have sq5 := s15.tup sq
    have Me : Mixd K H5 o vo zs (M * bs) (fun y => fn y * ts) := ⟨SqT.of ((s2.trans s25) _ _ ho1), po1.keep (Same.tk (s2.trans s25)), z1, by omega, Mb0, bMb.mono (by decide), bSz.mono (by decide)⟩
    have fin : ∀ H6, Same H5 H6 → u10 { nx := fun _ H' => Q .non H', rt := Q } [some (.ref s), some (.ref q), some (.ref l), some (.ref r), some (.ref e), some (.ref c), none] H6 := fun H6 s6 => by
      have s16 := s15.trans s6
      have S6 : St8 H6 s m d l h := ⟨s6 _ _ S5.hs⟩
      have B6 := B5.keep s6
      have sq6 := s16.tup sq
      have hr6 := s6 _ _ hr5
      have h6 := s16 _ _ hh
      obtain ⟨lm1, lm2⟩ := fr_minus M0 (show 0 < ba by omega) B.fr (show Fr ba ta ba ta from ⟨am, rfl⟩) le
      refine ⟨l, _, _, rfl, B6.sl, rfl, q, _, _, rfl, sq6, rfl, _, _, rfl, rfl, ⟨b3 sm1, b3 ab2⟩, q, _, _, rfl, sq6, rfl, l, _, _, rfl, B6.sl, rfl, _, _, rfl, rfl, ⟨b3 ab1, b3 sm2⟩, _, _, rfl, rfl, ?_⟩
      refine ⟨_, rfl, l, _, _, rfl, B6.sl, rfl, q, _, _, rfl, sq6, rfl, _, _, rfl, rfl, ⟨b3 sm2, b3 ab2⟩, lt * ba - ta * lb, lb * ba, rfl, by omega, mul1 lb1 ba1, (sm2.mul ab2).mono (by decide), fun l' H7 s7 hl7 => ?_⟩
      have S7 : St8 H7 s m d l h := ⟨s7 _ _ S6.hs⟩
      refine ⟨_, rfl, s, _, rfl, DPut.k (k := Sum.inr "lies") S7.hs (by show 4 < sizeLine; decide), ?_⟩
      rw [put_lies (.ref m) (.ref d) (.ref l) (.ref h) (.ref l')]
      have s17 := s16.trans s7
      have neA : ∀ {b : Addr} {u : HO}, b ≠ s → H7 b = some u → upd H7 s (.dK (sk (.ref m) (.ref d) (.ref l') (.ref h))) b = some u := fun {b u} n x => by rw [upd_ne n]; exact x
      have tkA : Tk H7 (upd H7 s (.dK (sk (.ref m) (.ref d) (.ref l') (.ref h)))) := Tk.dk S7.hs
      have SA : St8 (upd H7 s (.dK (sk (.ref m) (.ref d) (.ref l') (.ref h)))) s m d l' h := ⟨upd_same⟩
      have hA := neA (Ne.symm sh0) (s7 _ _ h6)
      have rA := SqT.of (K := K) (tkA _ _ (s7 _ _ hr6))
      refine ⟨_, rfl, s, _, rfl, SA.held, .inl ⟨rfl, _, SqL.of hA⟩, r, _, _, rfl, rA, rfl, _, rfl, (by show 2 ≤ sizeLine; decide), fun g2 hg2 => ?_⟩
      have tg := Same.upd (o := .lst [.ref o, .ref e]) hg2
      refine ⟨h, _, _, rfl, rfl, tg _ _ hA, small1000 (by omega), ?_⟩
      have gh : g2 ≠ h := fun z => by rw [z, hA] at hg2; cases hg2
      have s27 := s25.trans (s6.trans s7)
      -- what stands in the end
      have nB : ∀ {b : Addr} {u : HO}, b ≠ s → b ≠ h → H7 b = some u → upd (upd (upd H7 s (.dK (sk (.ref m) (.ref d) (.ref l') (.ref h)))) g2 (.lst [.ref o, .ref e])) h (.lst (hs ++ [.ref g2])) b = some u := fun {b u} n1 n2 x => by rw [upd_ne n2]; exact tg _ _ (neA n1 x)
      have gB : upd (upd (upd H7 s (.dK (sk (.ref m) (.ref d) (.ref l') (.ref h)))) g2 (.lst [.ref o, .ref e])) h (.lst (hs ++ [.ref g2])) g2 = some (.lst [.ref o, .ref e]) := by rw [upd_ne gh]; exact upd_same
      have SB : St8 (upd (upd (upd H7 s (.dK (sk (.ref m) (.ref d) (.ref l') (.ref h)))) g2 (.lst [.ref o, .ref e])) h (.lst (hs ++ [.ref g2]))) s m d l' h := ⟨by rw [upd_ne sh0]; exact tg _ _ SA.hs⟩
      have hB := upd_same (H := upd (upd H7 s (.dK (sk (.ref m) (.ref d) (.ref l') (.ref h)))) g2 (.lst [.ref o, .ref e])) (a := h) (o := .lst (hs ++ [.ref g2]))
      have xB : S2 s h H (upd (upd (upd H7 s (.dK (sk (.ref m) (.ref d) (.ref l') (.ref h)))) g2 (.lst [.ref o, .ref e])) h (.lst (hs ++ [.ref g2]))) := fun b u n1 n2 x => nB n1 n2 (s17 _ _ x)
      generalize upd (upd (upd H7 s (.dK (sk (.ref m) (.ref d) (.ref l') (.ref h)))) g2 (.lst [.ref o, .ref e])) h (.lst (hs ++ [.ref g2])) = HB at nB gB SB hB xB ⊢
      have tkB : Tk H7 HB := fun b ys x => nB (fun z => by rw [z, S7.hs] at x; cases x) (fun z => by rw [z, s7 _ _ h6] at x; cases x) x
      have rB := SqT.of (K := K) (tkB _ _ (s7 _ _ hr6))
      refine ⟨r, _, _, rfl, rB, rfl, _, rfl, s, _, rfl, DPut.k (k := Sum.inr "tub") SB.hs (by show 4 < sizeLine; decide), ?_⟩
      rw [put_tub (.ref m) (.ref d) (.ref l') (.ref h) (.ref g)]
      refine ⟨_, rfl, _, rfl, s, _, rfl, DPut.k (k := Sum.inr "told") upd_same (by show 4 < sizeLine; decide), ?_⟩
      rw [put_told (.ref g) (.ref d) (.ref l') (.ref h) (.ref c)]
      have nD : ∀ {b : Addr} {u : HO}, b ≠ s → HB b = some u → upd (upd HB s (.dK (sk (.ref g) (.ref d) (.ref l') (.ref h)))) s (.dK (sk (.ref g) (.ref c) (.ref l') (.ref h))) b = some u := fun {b u} n x => by rw [upd_ne n, upd_ne n]; exact x
      have SD : St8 (upd (upd HB s (.dK (sk (.ref g) (.ref d) (.ref l') (.ref h)))) s (.dK (sk (.ref g) (.ref c) (.ref l') (.ref h)))) s g c l' h := ⟨upd_same⟩
      have xD : S2 s h H (upd (upd HB s (.dK (sk (.ref g) (.ref d) (.ref l') (.ref h)))) s (.dK (sk (.ref g) (.ref c) (.ref l') (.ref h)))) := xB.at.at
      generalize upd (upd HB s (.dK (sk (.ref g) (.ref d) (.ref l') (.ref h)))) s (.dK (sk (.ref g) (.ref c) (.ref l') (.ref h))) = HD at nD SD xD ⊢
      have tkD : Tk H7 HD := fun b ys x => nD (fun z => by rw [z, S7.hs] at x; cases x) (tkB b ys x)
      have hh7 := s7 _ _ h6
      have eh : ∀ {b : Addr} {ks : List (Key × V)}, H7 b = some (.dK ks) → b ≠ h := fun {b ks} x z => by rw [z, hh7] at x; cases x
      have he7 := (s4.trans (s5.trans (s6.trans s7))) _ _ he3
      have hc7 := (s4.trans (s5.trans (s6.trans s7))) _ _ hc3
      have te7 := te3.keep (Same.tk (s4.trans (s5.trans (s6.trans s7))))
      have tc7 := tc.keep (Same.tk (s4.trans (s5.trans (s6.trans s7))))
      have heD := nD (Ne.symm se) (nB (Ne.symm se) (eh he7) he7)
      have hcD := nD (Ne.symm sc) (nB (Ne.symm sc) (eh hc7) hc7)
      have frl : Fr (M * bs) ((lt * ba - ta * lb) / G (lt * ba - ta * lb) (lb * ba)) (lb * ba / G (lt * ba - ta * lb) (lb * ba)) (sumN (M * bs) ls) := by
        rw [sl]
        refine fr_scale lm2 (Int.mul_pos M0 (by omega)) ?_
        have e := sh.e
        grind
      have fb7 : Fr (BB (kk + 1)) lt lb (nn * 7) := fr_scale B.fb (BB_pos kk) (by rw [BB_succ]; grind)
      have na7 : na ≤ nn * 7 := by
        have e1 := fa.e
        have e2 := fb7.e
        have pB := BB_pos (kk + 1)
        have h1 : ta * lb * BB (kk + 1) ≤ lt * ba * BB (kk + 1) := Int.mul_le_mul_of_nonneg_right lm1 (by omega)
        have h2 : na * (ba * lb) ≤ nn * 7 * (ba * lb) := by
          have e3 : ta * lb * BB (kk + 1) = na * (ba * lb) := by grind
          have e4 : lt * ba * BB (kk + 1) = nn * 7 * (ba * lb) := by grind
          rw [e3, e4] at h1
          exact h1
        exact Int.le_of_mul_le_mul_right h2 (Int.mul_pos (by omega) (by omega))
      have fbl : Fr (BB (kk + 1)) ((lt * ba - ta * lb) / G (lt * ba - ta * lb) (lb * ba)) (lb * ba / G (lt * ba - ta * lb) (lb * ba)) (nn * 7 - na) := by
        obtain ⟨_, fm⟩ := fr_minus (BB_pos (kk + 1)) (BB_pos (kk + 1)) fb7 fa (Int.mul_le_mul_of_nonneg_right na7 (by have := BB_pos (kk + 1); omega))
        refine fr_scale fm (Int.mul_pos (BB_pos _) (BB_pos _)) ?_
        grind
      have na0 := fa.nonneg (BB_pos (kk + 1))
      refine k g c l' vl ls (M * bs) _ kc _ _ _ _ HD xD SD ⟨SqT.of (tkD _ _ (s27 _ _ (s2 _ _ hg1))), (pg1.keep (Same.tk (s2.trans s27))).keep tkD, l1, Mb0, hcD, tc7.keep tkD, SqT.of (tkD _ _ hl7), frl, fbl, ?_, ?_, (B.bM.mul bb100).mono (by omega), nls, by omega, B.w5, B.wn⟩ sc (nD (Ne.symm sh0) hB) (.inr ⟨g2, o, e, vo, zs, ke, rfl, ⟨nD (fun z => by rw [z, SA.hs] at hg2; cases hg2) gB, SqT.of (tkD _ _ (s27 _ _ (s2 _ _ ho1))), (po1.keep (Same.tk (s2.trans s27))).keep tkD, heD, te7.keep tkD, by omega, z1.pw, z1.nd, alW z1 nzs⟩, gh, Ne.symm se⟩)
      · have h2 := (B.up k23).nb
        omega
      · exact Int.dvd_trans B.dv (Int.dvd_mul_right M bs)
    refine st [some (.ref s), some (.ref q), some (.ref l), some (.ref r), some (.ref e), some (.ref c), none] rfl ?_
    refine ⟨q, _, _, rfl, sq5, rfl, _, _, rfl, rfl, _, rfl, ite2 (fun h1 => ?_) (fun _ => iteF (fin _ (Same.refl _)))⟩
    refine ⟨q, _, _, rfl, sq5, rfl, _, _, rfl, rfl, (by show (0 : Int) < 4; decide), rfl, _, rfl, ite2 (fun h2 => ?_) (fun _ => iteF (fin _ (Same.refl _)))⟩
    have tp : 0 < ta := of_decide_eq_true h1
    refine ⟨r, _, _, rfl, SqT.of hr5, rfl, _, rfl, s, _, rfl, S5.tub, o, m, vo, us, zs, ys, M * bs, M, _, fn, rfl, Me, B5.mixd, fun β H6 s6 hβ => ?_⟩
    have Np : 0 < sumN M ys := by
      have h3 := Int.mul_pos tp M0
      have : sumN M ys ≠ 0 := fun z => by rw [z, Int.zero_mul] at le; omega
      omega
    have tsp : ts ≠ 0 := fun z => by
      have e := sh.e
      rw [z, Int.zero_mul] at e
      have := Int.mul_pos (Int.mul_pos tp M0) (show 0 < bs by omega)
      omega
    have eβ : β = true := hβ.mpr ⟨fun z => by
      exfalso
      rw [sz] at z
      rcases z with z | z
      · rcases Int.mul_eq_zero.mp z with z | z
        · omega
        · exact tsp z
      · omega, fun y => by rw [sz]; grind⟩
    subst eβ
    exact ⟨true, true, rfl, rfl, _, rfl, iteF (fin _ s6)⟩
end
end K8

namespace L2
open PySem PySem.Spec PyProof.Rows
section
variable {X : Cx} {pos : Pos}
/-- (a, b, ..) = a list of that length -/
def gTupL (K : PySem.W.Frag) (n : Nat) (t : TGs) : TG := fun v σ H Q => ∃ a xs, v = .ref a ∧ SqL K H a xs ∧ xs.length = n ∧ t xs σ H Q
theorem pg_tupL {es : List Expr} {k : Nat} {t : TGs} {n : Nat} (hc : X.calm = true) (h : PGs X es t)
    (hn : (assignEach es X.env).length = n := by rfl) (hst : (assignEach es X.env).findIdx? (·.1) = none := by rfl) : PG X (.Tuple es k pos) (gTupL X.K n t) := by
  intro pins s σ H v u Q I r hw
  obtain ⟨a, xs, e1, hq, hl, hw⟩ := hw
  subst e1
  cases r
  obtain ⟨its, rv, ⟨o, n', ho, hcl, _, hd⟩, hz⟩ := I.list hq
  have ht : s.heap.IsList a its.toArray := ⟨o, ho, hcl, n', hd⟩
  rw [assign_Tuple]
  refine wpAny_bind (wpAny_standAt ?_)
  unfold unpack
  have e2 : (assignEach es X.env).length = its.toArray.size := by simp [hn, ← hl, rv.length]
  rw [e2, hst]
  refine wpAny_bind (wpAny_holding (PySem.W.kun_itemsOf (I.ok.hd hc) ht fun h' hx => ?_))
  have I1 : Inv X pins σ H { s with heap := h' } := I.kept (t' := s.toks) fun b o e => hx b o (Nat.ne_of_lt (Heap.lt_size e)) e
  exact h pins _ σ H xs _ Q I1 (by simpa using rv) hw
end
end L2

namespace L2
open PySem PySem.Spec PyProof.Rows
/-! ### != of two lists of dicts that tell the same, at one program -/
/-- the two are equal, at this program -/
def EqIn (P : Program) (w : World) (A : Around) (s : Shared) (y x : Value) : Prop := ∀ (E : Value → Shared → Prop) (Q : Bool → Shared → Prop), Q true s → wpAny (model P w) A (eqBool y x) Q E s
section
open AutoSeq1 MeetsSeq MeetsSeq2 MeetsSeq3 SeqAt
variable {P : Program} {w : World}
end
section
variable {X : Cx}
def rNeLD (K : PySem.W.Frag) : R2 := fun x y H Q => ∃ a b xs ys, x = .ref a ∧ y = .ref b ∧ SqL K H a xs ∧ SqL K H b ys ∧ xs.length = ys.length ∧
  (∀ (j : Nat) x y, xs[j]? = some x → ys[j]? = some y → ∃ da db ka kb, x = .ref da ∧ y = .ref db ∧ Rd H da (.dK ka) ∧ Rd H db (.dK kb) ∧ DDeq K H ka kb) ∧ Q (.bl false) H
end
end L2

namespace HT
open PySem PyProof.Rows
/-- t < u of tuples of texts -/
def lexLtS : List Str → List Str → Bool
  | [], [] => false
  | [], _ :: _ => true
  | _ :: _, [] => false
  | x :: xs, y :: ys => if x = y then lexLtS xs ys else decide (x.cps.toList < y.cps.toList)
section
open PySem.SeqAt
open PySem.AutoSeq1 (wpAny_loadPart')
open PySem.MeetsSeq PySem.MeetsSeq2 PySem.MeetsSeq3

end

section
variable {prog : Program} {w : World} {A : Around} {E : Value → Shared → Prop} {s : Shared}

end
end HT
namespace L2
open PySem PySem.Spec PyProof.Rows
section
variable {X : Cx}
def rLtTS (K : PySem.W.Frag) : R2 := fun x y H Q => ∃ a b ns ms, x = .ref a ∧ y = .ref b ∧ SqT K H a (ns.map V.str) ∧ SqT K H b (ms.map V.str) ∧ Q (.bl (HT.lexLtS ns ms)) H
end
end L2

namespace HT
open PySem PySem.Spec PyProof.Rows
section
variable {prog : Program} {w : World} {A : Around} {E : Value → Shared → Prop} {s : Shared}
end
end HT
namespace L2
open PySem PySem.Spec PyProof.Rows
section
variable {X : Cx}
/-- () + u -/
def rCatT0 (K : PySem.W.Frag) : R2 := fun x y H Q => ∃ a b ys, x = .ref a ∧ y = .ref b ∧ SqT K H a [] ∧ SqT K H b ys ∧ Q (.ref b) H
/-- t + u, whatever t is -/
def rCatTA (K : PySem.W.Frag) : R2 := fun x y H Q => rCatT0 K x y H Q ∨ rCatT K x y H Q
/-- t * k, t not empty, k from 2 on -/
def rRepT (K : PySem.W.Frag) : R2 := fun x y H Q => ∃ a k xs, x = .ref a ∧ y = .int k ∧ SqT K H a xs ∧ xs ≠ [] ∧ 2 ≤ k ∧ k ≤ 1000 ∧ xs.length ≤ 1000 ∧ ∀ p, H p = none → Q (.ref p) (upd H p (.tup (List.replicate k.toNat xs).flatten))
end
end L2

namespace L2
open PySem PySem.Spec PyProof.Rows
/-! ### for over range(a, b, c) -/
def Itr3 (lo c : Int) (n : Nat) : It := ⟨fun i _ => i < n, fun i H x H' => H' = H ∧ x = .int (lo + (i : Nat) * c), fun i _ => n ≤ i⟩
def iRng3 (ta : TA) : TI := fun σ H R => ta σ H fun vs H1 => ∃ i j c : Int, vs = [.int i, .int j, .int c] ∧ (-(2 ^ 20) ≤ i ∧ i ≤ 2 ^ 20 ∧ -(2 ^ 20) ≤ j ∧ j ≤ 2 ^ 20 ∧ 0 < c ∧ c ≤ 2 ^ 20) ∧ R (Itr3 i c (if i < j then (j - i - 1) / c + 1 else 0).toNat) H1
end L2

namespace SX
open PySem PySem.Spec PyProof.Rows
/-! ### sets of texts -/
def byT (w : World) : Bool := w.params.followText "set-order"
def kv : Value → Str
  | .str x _ => x
  | _ => ⟨#[]⟩
def setO (es : Array (Int × Value)) (ep : Nat) (t : SetTable) : Obj := { cls := .type "set", dict := none, data := .set es ep t, slots := #[] }
/-- the set at a holds just the texts ks -/
structure SetS (P : Program) (w : World) (h : Heap) (a : Addr) (ks : List Str) : Prop where
  ex : ∃ es ep t, h.get? a = some (setO es ep t) ∧ ElemsOf (strKind P w) es.toList ∧ t.fits es.size = true ∧ t.led = (!byT w) ∧ (t.plain = false ∨ es.size = 0) ∧ (es.toList.map fun e => kv e.2).Perm ks
  nd : ks.Nodup
  lt : ks.length < scanBound
def dd (ks : List Str) (x : Str) : List Str := if x ∈ ks then ks else ks ++ [x]
def ddl (ss : List Str) : List Str := ss.foldl dd []
section
variable {P : Program} {w : World} {A : Around} {E : Value → Shared → Prop} {s : Shared}
end
end SX

namespace SX
open PySem PySem.Spec PyProof.Rows
section
variable {P : Program} {w : World} {A : Around} {R : Result → Shared → Prop} {I : Addr} {fp wr : List Addr} {G : Array GenState → Array GenState → Prop} {n : Nat} {Pr : Nat → Value → Prop} {St : Nat → Shared → Prop}
end
section
variable {P : Program} {w : World} {A : Around} {E : Value → Shared → Prop} {s : Shared}
abbrev nuSet (w : World) : Obj := setO #[] 0 (.fresh 0 0 (!byT w))
end
end SX

namespace SX
open PySem PySem.Spec PyProof.Rows
/-! ### a walk over a set of texts, in any order -/
def itO (f : Value) (i : Int) (n ep : Nat) (a : Addr) : Obj := { cls := .type "set_iterator", dict := none, data := .fields #[f, .int i 0, .ref a, .int n 0, .int ep 0], slots := #[] }
section
variable {P : Program} {w : World} {A : Around} {E : Value → Shared → Prop} {s : Shared}
end
end SX

namespace SX
open PySem PySem.Spec PyProof.Rows
abbrev IP (ord : List Value) (i : Nat) (v : Value) : Prop := ord[i]? = some v
section
variable {P : Program} {w : World} {A : Around} {E : Value → Shared → Prop} {s : Shared} {a I : Addr} {es : Array (Int × Value)} {ep : Nat} {t : SetTable}
end
end SX

namespace SX
open PySem PySem.Spec PyProof.Rows
section
variable {P : Program} {w : World} {A : Around} {E : Value → Shared → Prop} {s : Shared} {a I : Addr} {es : Array (Int × Value)} {ep : Nat} {t : SetTable}
end
end SX

namespace SX
open PySem PySem.Spec PyProof.Rows
section
variable {P : Program} {w : World} {A : Around} {E : Value → Shared → Prop} {s : Shared} {a : Addr} {ks : List Str}
end
end SX

namespace L2
open PySem PySem.Spec PyProof.Rows
/-! ### set(xs), sorted(set(xs)) of a list of texts -/
abbrev SetT (X : Cx) (a : Addr) (ks : List Str) : HO := .ext fun h => SX.SetS X.prog X.w h a ks
section
variable {X : Cx}
def rSetS (X : Cx) : List V → Hp → VK → Prop := fun xs H Q => ∃ a, ∃ ss : List Str, xs = [.ref a] ∧ SqL X.K H a (ss.map V.str) ∧ ss.length < 1000 ∧ ∀ p, H p = none → Q (.ref p) (upd H p (SetT X p (SX.ddl ss)))
def rSortSet (X : Cx) : List V → Hp → VK → Prop := fun xs H Q => ∃ a, ∃ ks : List Str, xs = [.ref a] ∧ H a = some (SetT X a ks) ∧ ks.length < 64 ∧ ∀ (p : Addr) (ss' : List Str), ss'.Perm ks → sortedS ss' = true → H p = none → Q (.ref p) (upd H p (.lst (ss'.map V.str)))
end
end L2

namespace L2
open PySem PySem.Spec PyProof.Rows
/-! ### statements whose reading must not be unfolded while it is found: PS and PSs under a hood -/
structure PSX (X : Cx) (st : Stmt) (t : TS) : Prop where
  h : PS X st t
structure PSB (X : Cx) (l : List Stmt) (t : TS) : Prop where
  h : PSs X l t
theorem psx_of {X : Cx} {st : Stmt} {t : TS} (h : PS X st t) : PSX X st t := ⟨h⟩
theorem psb_of {X : Cx} {l : List Stmt} {t : TS} (h : PSs X l t) : PSB X l t := ⟨h⟩
theorem psb_cons {X : Cx} {st : Stmt} {t u : TS} {rest : List Stmt} (h1 : PSX X st t) (h2 : PSB X rest u) : PSB X (st :: rest) (tSeq t u) := ⟨pss_cons h1.h h2.h⟩
end L2

set_option maxHeartbeats 1000000
namespace K8
open PySem PySem.Spec PyProof.Rows L2 GM TM
theorem Hd.keep2 {K : PySem.W.Frag} {H H' : Hp} {s h g o e : Addr} {vo : List V} {zs : List (Str × Int × Int)} {ke : List (Key × V)} (x : Hd K H g o e vo zs ke) (y : S2 s h H H') (t : Two2 H s h) (gh : g ≠ h) (es : e ≠ s) : Hd K H' g o e vo zs ke := by
  obtain ⟨kvs, e1⟩ := t.s
  obtain ⟨xs, e2⟩ := t.a
  exact ⟨y _ _ (fun z => by have := x.hg; rw [z, e1] at this; cases this) gh x.hg, y.tup t x.ho, x.pr.keep (y.tk t), y _ _ es (fun z => by have := x.he; rw [z, e2] at this; cases this) x.he, y.td t x.td, x.zl, x.pw, x.nd, x.al⟩
theorem Hd.keep {K : PySem.W.Frag} {H H' : Hp} {g o e : Addr} {vo : List V} {zs : List (Str × Int × Int)} {ke : List (Key × V)} (x : Hd K H g o e vo zs ke) (y : Same H H') : Hd K H' g o e vo zs ke :=
  ⟨y _ _ x.hg, y.tup x.ho, x.pr.keep (Same.tk y), y _ _ x.he, x.td.keep (Same.tk y), x.zl, x.pw, x.nd, x.al⟩
/-- all that is held -/
def Hl (K : PySem.W.Frag) (H : Hp) (s h : Addr) (hs : List V) : Prop := ∀ v ∈ hs, ∃ g o e vo zs ke, v = .ref g ∧ Hd K H g o e vo zs ke ∧ g ≠ h ∧ e ≠ s
structure Iv (K : PySem.W.Frag) (H : Hp) (ws : List Str) (s h m d l : Addr) (us : List V) (ys : List (Str × Int × Int)) (M : Int) (f : Str → Int) (kvs : List (Key × V)) (lt lb nn : Int) (hs : List V) (k : Nat) : Prop where
  S : St8 H s m d l h
  B : Tb K H ws m d l us ys M f kvs lt lb nn k
  sd : s ≠ d
  hh : H h = some (.lst hs)
  hl : hs.length ≤ k
  hd : Hl K H s h hs
theorem Iv.keep {K : PySem.W.Frag} {H H' : Hp} {ws : List Str} {s h m d l : Addr} {us : List V} {ys : List (Str × Int × Int)} {M : Int} {f : Str → Int} {kvs : List (Key × V)} {lt lb nn : Int} {hs : List V} {k : Nat} (x : Iv K H ws s h m d l us ys M f kvs lt lb nn hs k) (y : Same H H') : Iv K H' ws s h m d l us ys M f kvs lt lb nn hs k :=
  ⟨⟨y _ _ x.S.hs⟩, x.B.keep y, x.sd, y _ _ x.hh, x.hl, fun v hv => let ⟨g, o, e, vo, zs, ke, e1, e2, e3, e4⟩ := x.hd v hv; ⟨g, o, e, vo, zs, ke, e1, e2.keep y, e3, e4⟩⟩
theorem Tb.part {K : PySem.W.Frag} {H : Hp} {ws : List Str} {m d l : Addr} {us : List V} {ys : List (Str × Int × Int)} {M : Int} {f : Str → Int} {kvs : List (Key × V)} {lt lb nl : Int} {k : Nat} (T : Tb K H ws m d l us ys M f kvs lt lb nl k) (i : Nat) : Bt 3000 (sumN M (ys.take i)) := by
  have ov := T.mx.over
  have ovt : Over M (ys.take i) := fun x hx => ov x (List.mem_of_mem_take hx)
  exact (T.bN.le (sumN_nonneg T.M0 ovt) (sumN_take T.M0 i ov)).mono (by have := T.k24; omega)
theorem seq_nx {t u : TS} {D : Ends} {σ : L2.St} {H : Hp} (S : L2.St → Hp → Prop) (h : ∀ σ' H', S σ' H' → u D σ' H') (g : ∀ N : L2.St → Hp → Prop, (∀ σ' H', S σ' H' → N σ' H') → t { D with nx := N } σ H) : tSeq t u D σ H := g (u D) h
theorem pe_disp4 {X : Cx} {pos : Pos} {k1 k2 k3 k4 v1 v2 v3 v4 : Expr} {t1 t2 t3 t4 u1 u2 u3 u4 : TE} (h1 : PE X k1 t1) (g1 : PE X v1 u1) (h2 : PE X k2 t2) (g2 : PE X v2 u2) (h3 : PE X k3 t3) (g3 : PE X v3 u3) (h4 : PE X k4 t4) (g4 : PE X v4 u4) :
    PE X (.Dict [some k1, some k2, some k3, some k4] [v1, v2, v3, v4] pos) (tDisp [(t1, u1), (t2, u2), (t3, u3), (t4, u4)]) :=
  pe_disp (pps_cons h1 g1 (pps_cons h2 g2 (pps_cons h3 g3 (pps_cons h4 g4 pps_nil)))) rfl rfl (by simp) (by simp)
theorem st_e1 {X : Cx} {p5 p6 q3 : Pos} {j5 j6 x2} : PE X (.Tuple [.Constant (.int 0) j5 p5, .Constant (.int 1) j6 p6] x2 q3) (tTup (tCons (tC (.int 0)) (tCons (tC (.int 1)) tNil))) := pe_tup (pa_cons pe_int (pa_cons pe_int pa_nil))
theorem st_e2 {X : Cx} {q2 : Pos} : PE X (.Dict [] [] q2) tDNewK := pe_dnewK
theorem st_e3 {X : Cx} {q2 : Pos} : PE X (.List [] q2) (tLst tNil) := pe_lst pa_nil
theorem st_e4 {X : Cx} {q2 : Pos} {x1} : PE X (.Tuple [] x1 q2) (tTup tNil) := pe_tup pa_nil
theorem st_e5 {X : Cx} {p1 : Pos} {j1} : PE X (.Constant (.str "tub") j1 p1) (tC (.str "tub")) := pe_str
theorem st_e6 {X : Cx} {pos p1 p2 p3 p4 : Pos} {j1 j2 j3 j4} {v1 v2 v3 v4 : Expr} {u1 u2 u3 u4 : TE} (g1 : PE X v1 u1) (g2 : PE X v2 u2) (g3 : PE X v3 u3) (g4 : PE X v4 u4) : PE X (.Dict [some (.Constant (.str "tub") j1 p1), some (.Constant (.str "told") j2 p2), some (.Constant (.str "lies") j3 p3), some (.Constant (.str "held") j4 p4)] [v1, v2, v3, v4] pos)
    (tDisp [(tC (.str "tub"), u1), (tC (.str "told"), u2), (tC (.str "lies"), u3), (tC (.str "held"), u4)]) := pe_disp4 st_e5 g1 (pe_str (x := "told")) g2 (pe_str (x := "lies")) g3 (pe_str (x := "held")) g4
structure PEX (X : Cx) (e : Expr) (t : TE) : Prop where
  h : PE X e t
theorem st_e7 {X : Cx} {pos p1 p2 p3 p4 : Pos} {j1 j2 j3 j4} {v1 v2 v3 v4 : Expr} {u1 u2 u3 u4 : TE} (g1 : PEX X v1 u1) (g2 : PEX X v2 u2) (g3 : PEX X v3 u3) (g4 : PEX X v4 u4) : PEX X (.Dict [some (.Constant (.str "tub") j1 p1), some (.Constant (.str "told") j2 p2), some (.Constant (.str "lies") j3 p3), some (.Constant (.str "held") j4 p4)] [v1, v2, v3, v4] pos)
    (tDisp [(tC (.str "tub"), u1), (tC (.str "told"), u2), (tC (.str "lies"), u3), (tC (.str "held"), u4)]) := ⟨st_e6 g1.h g2.h g3.h g4.h⟩
theorem dispX {X : Cx} {pos p1 p2 p3 p4 p5 p6 q1 q2 q3 q4 : Pos} {j1 j2 j3 j4 j5 j6 x1 x2} : PEX X (.Dict [some (.Constant (.str "tub") j1 p1), some (.Constant (.str "told") j2 p2), some (.Constant (.str "lies") j3 p3), some (.Constant (.str "held") j4 p4)] [.Tuple [] x1 q1, .Dict [] [] q2, .Tuple [.Constant (.int 0) j5 p5, .Constant (.int 1) j6 p6] x2 q3, .List [] q4] pos)
    (tDisp [(tC (.str "tub"), tTup tNil), (tC (.str "told"), tDNewK), (tC (.str "lies"), tTup (tCons (tC (.int 0)) (tCons (tC (.int 1)) tNil))), (tC (.str "held"), tLst tNil)]) := st_e7 ⟨st_e4⟩ ⟨st_e2⟩ ⟨st_e1⟩ ⟨st_e3⟩
theorem psx_setX {X : Cx} {i : Nat} {x : Str} {e : Expr} {te : TE} {pos pos' : Pos} (hN : X.N.Nodup) (hi : X.N[i]? = some x) (hx : Loc X.env.scope x) (he : PEX X e te) (hs : swapsWith e (some (.Name x pos')) pos.line X.env = pure false := by rfl) (hf : X.fn x = true ∨ X.env.scope.names.lookup x = some .local := by first | exact .inl rfl | exact .inr rfl | assumption) :
    PSX X (.Assign [.Name x pos'] e pos) (tAsg te (gName i)) := ⟨ps_set hN hi hx he.h hs hf⟩
end K8

set_option maxHeartbeats 600000
namespace K8
open PySem PySem.Spec PyProof.Rows L2 GM TM
def spLaw (K : PySem.W.Frag) : Sp := fun vs H Q _ => ∃ (a : Addr) (ns : List Int), vs = [.ref a] ∧ SqL K H a (ns.map V.int) ∧ ns.length ≤ 63 ∧ ∀ H', Q (.bl true) H'
section
variable {P : Program} {w : World} {K : PySem.W.Frag} {mg : Str → Option Value} {base : Heap} {cP c1 c3 fI aN : Addr}
theorem scLaw : FnScope ["_law_script", "_law_names_here", "_law_state", "_law_at", "_law_left_here", "_law_found", "_law_name", "_law_told", "_law_due"] ["_law_script"] (defScope sLaw) := ⟨rfl, rfl, rfl, by decide +kernel, rfl, by decide +kernel, by decide +kernel⟩
theorem ok_law {f : Addr} {fd : FuncData} (F : Fun K "law" "law" sLaw f fd) (T : Txt mg) (sN : ∀ H : Hp, SqT K H aN [.int 0, .int 1])
    (cM : Cal P w K mg base CX0 8 "_law_names" ["_law_left_here", "_law_many"] spNames) (cL : Cal P w K mg base CX0 8 "_law_left" ["_law_script", "_law_k"] (spLeft K))
    (cN : Cal P w K mg base CX0 8 "_law_next" ["_law_left_here", "_law_many"] spNext) (cU : Cal P w K mg base CX0 8 "_law_put" ["_law_state", "_law_names_here", "_law_left_here"] (spPut K))
    (cT : Cal P w K mg base CX0 8 "_law_take" ["_law_state", "_law_asked_here"] (spTake K)) (cQ : Cal P w K mg base CX0 8 "_law_asked" ["_law_state", "_law_left_here"] (spAsked K))
    (cW : Cal P w K mg base CX0 8 "whole" ["one"] (spWholeM K)) (cI : Cal P w K mg base CX0 8 "_law_is_amount" ["_law_found"] (spIsAm K))
    (cO : Cal P w K mg base CX0 8 "of_ware" ["one", "ware"] (spOfWare K aN)) (cA : Cal P w K mg base CX0 8 "_law_as_dict" ["_law_found"] (spAsDict K)) : FnOk P w K mg base CX0 9 f fd ["_law_script"] (spLaw K) := by
  refine F.ok scLaw (fun vs H Q E h => ?_) (fun cdv A outer s0 H vs Q E hr h => ?_)
  · obtain ⟨_, _, rfl, _⟩ := h
    rfl
  · obtain ⟨a, ns, rfl, hS, l63, k⟩ := h
    refine ⟨_, PSB.h (psb_cons (psx_of (ps_set (i := 1) scLaw.nd rfl (Or.inl rfl) (pe_cal cM hr rfl pass0 (pa_cons (pe_cal cL hr rfl pass0 (pa_cons (pv 0) (pa_cons pe_int pa_nil))) (pa_cons pe_int pa_nil)))))
      (psb_cons (psx_setX (i := 2) scLaw.nd rfl (Or.inl rfl) dispX)
      (psb_of (pss_cons (ps_for PassesOwn.never rfl (pi_range2 rfl T.range (pa_cons pe_int (pa_cons (pe_callB (call_min2 rfl) rfl T.min' boot_min (pa_cons (pe_callB call_len_seq rfl T.len PySem.boot_len (pa_cons (pv 0) pa_nil)) (pa_cons pe_int pa_nil))) pa_nil))) (pg_name (i := 3) scLaw.nd rfl (Or.inl rfl))
        (pss_cons (ps_set (i := 4) scLaw.nd rfl (Or.inl rfl) (pe_cal cL hr rfl pass0 (pa_cons (pv 0) (pa_cons (pv 3) pa_nil))))
        (pss_cons (ps_if (pt_cmpR op_lt (pe_cal cN hr rfl pass0 (pa_cons (pv 4) (pa_cons pe_int pa_nil))) pe_int (nomark _))
          (pss_one (ps_if (pt_not (pt_val (pe_cal cU hr rfl pass0 (pa_cons (pv 2) (pa_cons (pv 1) (pa_cons (pv 4) pa_nil))))))
            (pss_one (ps_ret pe_bl))
            pss_nil))
          (pss_one (ps_if (pt_not (pt_val (pe_cal cT hr rfl pass0 (pa_cons (pv 2) (pa_cons (pe_cal cQ hr rfl pass0 (pa_cons (pv 2) (pa_cons (pv 4) pa_nil))) pa_nil)))))
            (pss_one (ps_ret pe_bl))
            pss_nil)))
        (pss_cons (ps_set (i := 5) scLaw.nd rfl (Or.inl rfl) (pe_cal cW hr rfl pass0 (pa_cons (pe_dget (hu_of hr) (pv 2) pe_str (fun _ _ => rfl)) pa_nil)))
        (pss_one (ps_if (PW.pt (pw_or (pt_not (pt_val (pe_cal cI hr rfl pass0 (pa_cons (pv 5) pa_nil)))) (pw_or1 (pt_cmpR (op_neI hr.units) (pv 5) (pe_dget (hu_of hr) (pv 2) pe_str (fun _ _ => rfl)) (nomark _)))))
          (pss_one (ps_ret pe_bl))
          pss_nil))))))
      (pss_cons (ps_for PassesOwn.never rfl (pi_list (pv 1)) (pg_name (i := 6) scLaw.nd rfl (Or.inl rfl))
        (pss_one (ps_if (pt_cmpR (op_neI hr.units) (pe_cal cO hr rfl pass0 (pa_cons (pe_dget (hu_of hr) (pv 2) pe_str (fun _ _ => rfl)) (pa_cons (pv 6) pa_nil))) (pe_dget2 (hu_of hr) (pe_dget (hu_of hr) (pv 2) pe_str (fun _ _ => rfl)) (pv 6) (pe_tup (pa_cons pe_int (pa_cons pe_int pa_nil))) ⟨rfl, rfl, rfl, rfl⟩) (nomark _))
          (pss_one (ps_ret pe_bl))
          pss_nil)))
      (pss_cons (ps_for PassesOwn.never rfl (pi_list (pe_dget (hu_of hr) (pv 2) pe_str (fun _ _ => rfl))) (pg_tupL rfl (pgs_cons (pg_name (i := 7) scLaw.nd rfl (Or.inl rfl)) (pgs_cons (pg_name (i := 8) scLaw.nd rfl (Or.inl rfl)) pgs_nil)))
        (pss_one (ps_if (pt_cmpR (op_neDD hr.units) (pe_cal cA hr rfl pass0 (pa_cons (pv 7) pa_nil)) (pv 8) (nomark _))
          (pss_one (ps_ret pe_bl))
          pss_nil)))
      (pss_one (ps_ret pe_bl)))))))), ?_⟩
    refine ⟨_, rfl, a, ns, 0, rfl, hS, by decide, by decide, fun p0 H1 s1 n1 lf1 => ⟨p0, 5, rfl, lf1, by decide, by decide, fun ws nl H2 wl wn ww s2 lf2 nl0 hnl => ?_⟩⟩
    have s12 : Same H H2 := fun b o e => s2 b o (fun z => by rw [z, n1] at e; cases e) (s1 b o e)
    have hS2 := s12.seq hS
    clear s1 s2 lf1 lf2 nl0 n1 s12
    refine fun s hs0 => ⟨(by show 0 ≤ sizeLine; decide), fun m hm => fun d hd => ⟨(by show 2 ≤ sizeLine; decide), fun l hl => ⟨(by show 0 ≤ sizeLine; decide), fun h hh => ⟨?_, [(.inr "tub", .ref m), (.inr "told", .ref d), (.inr "lies", .ref l), (.inr "held", .ref h)], rfl, by show 4 ≤ 15; decide, ?_⟩⟩⟩⟩
    · have e1 : m ≠ s := fun z => by rw [z, upd_same] at hm; cases hm
      have e2 : d ≠ s := fun z => by rw [z, upd_ne (Ne.symm e1), upd_same] at hd; cases hd
      have e3 : l ≠ s := fun z => by rw [z, upd_ne (Ne.symm e2), upd_ne (Ne.symm e1), upd_same] at hl; cases hl
      have e4 : h ≠ s := fun z => by rw [z, upd_ne (Ne.symm e3), upd_ne (Ne.symm e2), upd_ne (Ne.symm e1), upd_same] at hh; cases hh
      rw [upd_ne (Ne.symm e4), upd_ne (Ne.symm e3), upd_ne (Ne.symm e2), upd_ne (Ne.symm e1), upd_same]
    have t1 := Same.upd (o := .dK []) hs0
    have t2 := Same.upd (o := .tup []) hm
    have t3 := Same.upd (o := .dK []) hd
    have t4 := Same.upd (o := .tup [.int 0, .int 1]) hl
    have t5 := Same.upd (o := .lst []) hh
    have e1 : m ≠ s := fun z => by rw [z, upd_same] at hm; cases hm
    have e2 : d ≠ s := fun z => by rw [z, upd_ne (Ne.symm e1), upd_same] at hd; cases hd
    have e3 : l ≠ s := fun z => by rw [z, upd_ne (Ne.symm e2), upd_ne (Ne.symm e1), upd_same] at hl; cases hl
    have e4 : h ≠ s := fun z => by rw [z, upd_ne (Ne.symm e3), upd_ne (Ne.symm e2), upd_ne (Ne.symm e1), upd_same] at hh; cases hh
    have h0 : H2 h = none := same_none (t1.trans (t2.trans (t3.trans t4))) hh
    have sA : Same H2 (upd (upd (upd (upd (upd (upd H2 s (.dK [])) m (.tup [])) d (.dK [])) l (.tup [.int 0, .int 1])) h (.lst [])) s (.dK [(.inr "tub", .ref m), (.inr "told", .ref d), (.inr "lies", .ref l), (.inr "held", .ref h)])) := same_own (t1.trans (t2.trans (t3.trans (t4.trans t5)))) hs0
    have am := (upd_ne (H := upd (upd (upd (upd (upd H2 s (.dK [])) m (.tup [])) d (.dK [])) l (.tup [.int 0, .int 1])) h (.lst [])) (o := .dK [(.inr "tub", .ref m), (.inr "told", .ref d), (.inr "lies", .ref l), (.inr "held", .ref h)]) e1).trans (t5 _ _ (t4 _ _ (t3 _ _ upd_same)))
    have ad := (upd_ne (H := upd (upd (upd (upd (upd H2 s (.dK [])) m (.tup [])) d (.dK [])) l (.tup [.int 0, .int 1])) h (.lst [])) (o := .dK [(.inr "tub", .ref m), (.inr "told", .ref d), (.inr "lies", .ref l), (.inr "held", .ref h)]) e2).trans (t5 _ _ (t4 _ _ upd_same))
    have al := (upd_ne (H := upd (upd (upd (upd (upd H2 s (.dK [])) m (.tup [])) d (.dK [])) l (.tup [.int 0, .int 1])) h (.lst [])) (o := .dK [(.inr "tub", .ref m), (.inr "told", .ref d), (.inr "lies", .ref l), (.inr "held", .ref h)]) e3).trans (t5 _ _ upd_same)
    have ah := (upd_ne (H := upd (upd (upd (upd (upd H2 s (.dK [])) m (.tup [])) d (.dK [])) l (.tup [.int 0, .int 1])) h (.lst [])) (o := .dK [(.inr "tub", .ref m), (.inr "told", .ref d), (.inr "lies", .ref l), (.inr "held", .ref h)]) e4).trans upd_same
    have as := upd_same (H := upd (upd (upd (upd (upd H2 s (.dK [])) m (.tup [])) d (.dK [])) l (.tup [.int 0, .int 1])) h (.lst [])) (a := s) (o := .dK [(.inr "tub", .ref m), (.inr "told", .ref d), (.inr "lies", .ref l), (.inr "held", .ref h)])
    rw [show mergeK [] [((.inr "tub" : Key), V.ref m), (.inr "told", .ref d), (.inr "lies", .ref l), (.inr "held", .ref h)] = [(.inr "tub", .ref m), (.inr "told", .ref d), (.inr "lies", .ref l), (.inr "held", .ref h)] from rfl]
    generalize upd (upd (upd (upd (upd (upd H2 s (.dK [])) m (.tup [])) d (.dK [])) l (.tup [.int 0, .int 1])) h (.lst [])) s (.dK [(.inr "tub", .ref m), (.inr "told", .ref d), (.inr "lies", .ref l), (.inr "held", .ref h)]) = H3 at sA am ad al ah as ⊢
    clear t1 t2 t3 t4 t5 hm hd hl hh
    have hS3 := sA.seq hS2
    refine ⟨_, rfl, a, _, rfl, .inl hS3, _, _, rfl, ?_⟩
    generalize hj : (if (25 : Int) < ((ns.map V.int).length : Int) then (25 : Int) else ((ns.map V.int).length : Int)) = j
    have j1 : 0 ≤ j ∧ j ≤ 25 := by
      rw [← hj]
      split <;> omega
    refine ⟨_, _, rfl, ⟨by decide, by decide, by omega, by omega⟩, ?_⟩
    have I0 : Iv K H3 ws s h m d l [] [] 27720 (fun _ => 0) [] 0 1 0 [] 0 := ⟨⟨as⟩, ⟨SqT.of am, .nil, ⟨.nil, .nil, fun y => by simp, (fun _ h => nomatch h)⟩, by decide, ad, .nil, SqT.of al, Fr.zero, Fr.zero, by simp, ⟨1, rfl⟩, bt_lt _ (c := 30000) (by decide) (by decide), (fun _ h => nomatch h), by decide, by omega, wn⟩, Ne.symm e2, ah, Nat.le_refl _, fun _ h => nomatch h⟩
    refine for_range (fun i σ H' => ∃ (v3 v4 v5 : Option V), ∃ m d l us ys M fn kvs lt lb nn hs, σ = [some (.ref a), some (.ref nl), some (.ref s), v3, v4, v5, none, none, none] ∧ Iv K H' ws s h m d l us ys M fn kvs lt lb nn hs i ∧ Same H2 H') ⟨none, none, none, m, d, l, _, _, _, _, _, _, _, _, _, rfl, I0, sA⟩ ?_ ?_
    · clear I0 am ad al ah as e1 e2 e3 hS3 sA
      rintro i σ H4 hi ⟨v3, v4, v5, m, d, l, us, ys, M, fn, kvs, lt, lb, nn, hs, rfl, I4, s4⟩
      have i23 : i ≤ 23 := by omega
      show (tSeq _ (tSeq _ (tSeq _ _))) _ _ _
      refine cut4 ?_; intro u4 u3 u2
      refine ⟨_, rfl, _, rfl, a, ns, _, rfl, s4.seq hS2, by omega, by omega, fun p H5 s5 p0 lf5 => ?_⟩
      dsimp only [gName]
      show (tSeq _ u3) _ _ _
      refine seq_nx (u := u3) (fun σ' H' => ∃ m d l us ys M fn kvs lt lb nn hs, σ' = [some (.ref a), some (.ref nl), some (.ref s), some (.int (1 + i)), some (.ref p), v5, none, none, none] ∧ Iv K H' ws s h m d l us ys M fn kvs lt lb nn hs (i + 1) ∧ Same H2 H') ?_ (fun N key => ?_)
      · rintro _ H6 ⟨m, d, l, us, ys, M, fn, kvs, lt, lb, nn, hs, rfl, I6, s6⟩
        have B := I6.B
        have b3000 : Bt 3000 M := B.bM.mono (by have := B.k24; omega)
        refine ⟨_, rfl, s, _, rfl, I6.S.tub, m, us, ys, M, rfl, B.sq, B.pr, B.mx.over, B.M0, b3000, B.part, fun g t b H7 s7 sg fr => ?_⟩
        have I7 := I6.keep s7
        obtain ⟨rfl, rfl⟩ := fr.uniq B.M0 B.fr
        refine ⟨_, rfl, g, t, b, rfl, sg, fr.am, _, rfl, iteF ⟨_, rfl, _, rfl, s, _, rfl, I7.S.lies, g, l, [t, b], [t, b], rfl, rfl, sg, I7.B.sl, ?_⟩⟩
        rw [decide_eq_true rfl]
        exact ⟨_, rfl, iteF ⟨_, _, _, m, d, l, _, _, _, _, _, _, _, _, _, rfl, I7, s6.trans s7⟩⟩
      · have I5 := I4.keep s5
        have s25 := s4.trans s5
        have hs2 : ∀ {b o}, H4 b = some o → b ≠ p := fun {b o} e z => by rw [z, p0] at e; cases e
        have sp : s ≠ p := hs2 I4.S.hs
        have hp : h ≠ p := hs2 I4.hh
        have bq : Bt 9000 (5 : Int) := (bt_lt 64 (c := 1000) (by decide) (by decide)).mono (by decide)
        refine ⟨_, rfl, p, 5, rfl, lf5, by decide, bq, fun n0 H6 a0 a1 s6 l6 => ⟨_, _, rfl, rfl, _, rfl, ite2 (fun _ => ?_) (fun _ => ?_)⟩⟩
        · have s46 : Same H4 H6 := fun b o e => s6 _ _ (hs2 e) (s5 _ _ e)
          have I6 := I4.keep s46
          refine ⟨_, rfl, _, rfl, _, rfl, s, nl, p, m, d, l, h, ws, us, ys, M, fn, kvs, lt, lb, nn, i, rfl, I6.S, I6.B, I6.sd, i23, SqL.of ((s4.trans s46) _ _ hnl), hs2 (s4 _ _ hnl), ww, l6, fun m' d' l' us' ys' f' kvs' lt' lb' nn' H7 s7 S7 B7 sd7 _ => ?_⟩
          have s47 : S2 s h H4 H7 := fun b o b1 b2 e => s7 _ _ b1 (hs2 e) (s46 _ _ e)
          have t4 : Two2 H4 s h := ⟨⟨_, I4.S.hs⟩, ⟨_, I4.hh⟩⟩
          refine ⟨_, rfl, iteF (key _ _ ⟨m', d', l', us', ys', M, f', kvs', lt', lb', nn', hs, rfl, ⟨S7, B7, sd7, s7 _ _ e4 hp I6.hh, by have := I4.hl; omega, fun v hv => ?_⟩, fun b o e => s47 _ _ (fun z => by rw [z, hs0] at e; cases e) (fun z => by rw [z, h0] at e; cases e) (s4 _ _ e)⟩)⟩
          obtain ⟨g, o, e, vo, zs, ke, q1, q2, q3, q4⟩ := I4.hd v hv
          exact ⟨g, o, e, vo, zs, ke, q1, q2.keep2 s47 t4 q3 q4, q3, q4⟩
        · have s46 : Same H4 H6 := fun b o e => s6 _ _ (hs2 e) (s5 _ _ e)
          have I6 := I4.keep s46
          refine ⟨_, rfl, _, rfl, _, rfl, s, p, m, d, l, h, lt, lb, rfl, I6.S, l6, sp, I6.B.sl, I6.B.fr.am, I6.B.small.1.mono (by decide), I6.B.small.2.mono (by decide), fun ta ba q H7 am kd s7 l7 hq => ?_⟩
          have s47' : Same H4 H7 := fun b o e => s7 _ _ (hs2 e) (s46 _ _ e)
          have I7 := I4.keep s47'
          refine ⟨s, q, m, d, l, h, ws, us, ys, M, fn, kvs, lt, lb, nn, i, ta, ba, hs, rfl, I7.S, I7.B, I7.sd, i23, ww, SqT.of hq, am, kd, I7.hh, I7.hl, fun m' d' l' us' ys' M' f' kvs' lt' lb' nn' hs' H8 s8 S8 B8 sd8 hh8 cs => ?_⟩
          have s48 : S2 s h H4 H8 := fun b o b1 b2 e => s8 _ _ b1 b2 (s47' _ _ e)
          have t4 : Two2 H4 s h := ⟨⟨_, I4.S.hs⟩, ⟨_, I4.hh⟩⟩
          have old : Hl K H8 s h hs := fun v hv => by
            obtain ⟨g, o, e, vo, zs, ke, q1, q2, q3, q4⟩ := I4.hd v hv
            exact ⟨g, o, e, vo, zs, ke, q1, q2.keep2 s48 t4 q3 q4, q3, q4⟩
          have hl4 := I4.hl
          refine ⟨_, rfl, iteF (key _ _ ⟨m', d', l', us', ys', M', f', kvs', lt', lb', nn', hs', rfl, ⟨S8, B8, sd8, hh8, ?_, ?_⟩, fun b o e => s48 _ _ (fun z => by rw [z, hs0] at e; cases e) (fun z => by rw [z, h0] at e; cases e) (s4 _ _ e)⟩)⟩
          · rcases cs with rfl | ⟨g, o, e, vo, zs, ke, rfl, _⟩
            · omega
            · rw [List.length_append]
              show hs.length + 1 ≤ i + 1
              omega
          · rcases cs with rfl | ⟨g, o, e, vo, zs, ke, rfl, q2, q3, q4⟩
            · exact old
            · intro v hv
              rcases List.mem_append.mp hv with hv | hv
              · exact old v hv
              · rw [List.mem_singleton] at hv
                exact ⟨g, o, e, vo, zs, ke, hv, q2, q3, q4⟩
    · clear I0 am ad al ah as e1 e2 e3 hS3 sA
      rintro σ H4 ⟨v3, v4, v5, m, d, l, us, ys, M, fn, kvs, lt, lb, nn, hs, rfl, I4, s4⟩
      refine ⟨_, rfl, nl, rfl, ⟨_, SqL.of (s4 _ _ hnl)⟩, ?_⟩
      refine for_list (xs := ws.map V.str) (fun i σ H' => ∃ (v6 : Option V), σ = [some (.ref a), some (.ref nl), some (.ref s), v3, v4, v5, v6, none, none] ∧ Same H4 H') ⟨none, rfl, Same.refl _⟩ ?_ ?_ ?_
      · rintro i σ H' _ ⟨_, rfl, s5⟩
        exact SqL.of (s5 _ _ (s4 _ _ hnl))
      · rintro i v σ H5 hv ⟨v6, rfl, s5⟩
        rw [List.getElem?_map] at hv
        obtain ⟨y, hy, rfl⟩ := Option.map_eq_some_iff.mp hv
        have I5 := I4.keep s5
        have M0 := I5.B.M0
        refine ⟨_, rfl, s, _, rfl, I5.S.tub, _, rfl, m, us, ys, y, rfl, I5.B.sq, I5.B.pr, fun x q hx hxy sq => ?_, fun no => ?_⟩
        · refine ⟨_, rfl, s, _, rfl, I5.S.told, d, rfl, .inl ⟨_, .inl I5.B.hd⟩, _, rfl, (by show 2 ≤ sizeLine; decide), fun z hz => ?_⟩
          have w1 := Same.upd (o := .tup [.int 0, .int 1]) hz
          have G := I5.B.fd.keep w1
          obtain ⟨q2, t2, b2, g2, hq2, fr2, _, _⟩ := G.get y upd_same
          refine ⟨_, DGet.k (k := Sum.inr y) G.hd, ?_⟩
          rw [g2]
          have frx := I5.B.mx.fr x hx
          rw [hxy] at frx
          obtain ⟨r1, r2⟩ := frx.uniq M0 fr2
          refine ⟨q, q2, [x.2.1, x.2.2], [t2, b2], rfl, rfl, w1.tup sq, SqT.of hq2, ?_⟩
          rw [decide_eq_true (by rw [r1, r2])]
          exact ⟨_, rfl, iteF ⟨_, rfl, s5.trans w1⟩⟩
        · refine ⟨_, rfl, s, _, rfl, I5.S.told, d, rfl, .inl ⟨_, .inl I5.B.hd⟩, _, rfl, (by show 2 ≤ sizeLine; decide), fun z hz => ?_⟩
          have w1 := Same.upd (o := .tup [.int 0, .int 1]) hz
          have G := I5.B.fd.keep w1
          obtain ⟨q2, t2, b2, g2, hq2, fr2, _, _⟩ := G.get y upd_same
          refine ⟨_, DGet.k (k := Sum.inr y) G.hd, ?_⟩
          rw [g2]
          have f0 : fn y = 0 := Classical.byContradiction fun n => by
            obtain ⟨x, hx, e⟩ := List.mem_map.mp ((I5.B.mx.mem y).mpr n)
            exact no x hx e
          rw [f0] at fr2
          obtain ⟨r1, r2⟩ := (Fr.zero (M := M)).uniq M0 fr2
          refine ⟨aN, q2, [0, 1], [t2, b2], rfl, rfl, sN _, SqT.of hq2, ?_⟩
          rw [decide_eq_true (by rw [← r1, ← r2])]
          exact ⟨_, rfl, iteF ⟨_, rfl, s5.trans w1⟩⟩
      · rintro σ H5 ⟨v6, rfl, s5⟩
        have I5 := I4.keep s5
        refine ⟨_, rfl, s, _, rfl, I5.S.held, h, rfl, ⟨_, SqL.of I5.hh⟩, ?_⟩
        refine for_list (xs := hs) (fun i σ H' => ∃ (v7 v8 : Option V), σ = [some (.ref a), some (.ref nl), some (.ref s), v3, v4, v5, v6, v7, v8] ∧ Same H5 H') ⟨none, none, rfl, Same.refl _⟩ ?_ ?_ ?_
        · rintro i σ H' _ ⟨_, _, rfl, s6⟩
          exact SqL.of (s6 _ _ I5.hh)
        · rintro i v σ H6 hv ⟨v7, v8, rfl, s6⟩
          obtain ⟨g, o, e, vo, zs, ke, rfl, q2, _, _⟩ := (I5.keep s6).hd v (List.mem_of_getElem? hv)
          refine ⟨g, _, rfl, SqL.of q2.hg, rfl, _, _, rfl, _, _, rfl, rfl, ?_⟩
          refine ⟨_, rfl, o, vo, zs, rfl, q2.ho, q2.pr, q2.zl, q2.pw, q2.nd, q2.al, fun dd kd H7 s7 _ hdd tdd => ?_⟩
          have q7 := q2.keep s7
          exact ⟨_, rfl, dd, e, kd, ke, rfl, rfl, .inl hdd, .inl q7.he, tdd.ddeq q7.td q7.nd, _, rfl, iteF ⟨_, _, rfl, s6.trans s7⟩⟩
        · rintro σ H6 ⟨v7, v8, rfl, _⟩
          exact k _
end
end K8

namespace K8
open PySem PySem.Spec PyProof.Rows L2 GM TM
/-- a def of the top, by its name -/
structure Dn (K : PySem.W.Frag) (x : Str) (st : Stmt) (ps : List Str) : Prop where
  ex : ∃ (f : Addr) (fd : FuncData), PySem.W.nsIn K mainGlobals x = some (some (.ref f)) ∧ Fun K x x st f fd ∧ Binds K fd ps []
theorem Dn.mk' {K : PySem.W.Frag} {x : Str} {st : Stmt} {ps : List Str} {f : Addr} {oc : Value} {od an : Option Addr} {osl : Array (Option Value)} {kV doc pm cdv ct : Value} (a : PySem.W.nsIn K mainGlobals x = some (some (.ref f)))
    (l : K.lookup f = some ⟨oc, od, .func (PySem.W.fnOf x x (defArgs st) (defBody st) (defScope st) .none kV doc pm an cdv ct), osl⟩) (c : PySem.W.codeIn K cdv x = true) (k : PySem.W.keepIn K (.ref f) = true)
    (hb : ∀ (kV doc pm : Value) (an : Option Addr) (cdv ct : Value) (us : List Value), us.length = ps.length → bindArgs (PySem.W.fnOf x x (defArgs st) (defBody st) (defScope st) .none kV doc pm an cdv ct) ⟨us, []⟩ = pure (ps.zip us)) : Dn K x st ps :=
  ⟨f, _, a, fun_mk (st := st) l c k, (fun_mk (st := st) l c k).binds hb⟩
theorem Dn.cal {P : Program} {w : World} {K : PySem.W.Frag} {mg : Str → Option Value} {base h : Heap} {CX : CXT} {k : Nat} {x : Str} {st : Stmt} {ps : List Str} {sp : Sp} (D : Dn K x st ps) (X : K.In h) (G : h.Ns mainGlobals mg)
    (ok : ∀ {f : Addr} {fd : FuncData}, Fun K x x st f fd → FnOk P w K mg base CX k f fd ps sp) : Cal P w K mg base CX k x ps sp := by
  obtain ⟨f, fd, a, F, b⟩ := D.ex
  exact ⟨f, fd, PySem.W.mg_of X G a, F.kp, b, ok F⟩

structure NouK (K : PySem.W.Frag) (aN : Addr) : Prop where
  m : PySem.W.nsIn K mainGlobals "NOUGHT" = some (some (.ref aN))
  s : ∀ H : Hp, SqT K H aN [.int 0, .int 1]
theorem NouK.mk' {K : PySem.W.Frag} {aN : Addr} {od : Option Addr} {t0 t1 : Tok} {n : Nat} {sl : Array (Option Value)} (a : PySem.W.nsIn K mainGlobals "NOUGHT" = some (some (.ref aN)))
    (l : K.lookup aN = some ⟨.type "tuple", od, .seq #[.int 0 t0, .int 1 t1] n, sl⟩) : ∃ aN : Addr, NouK K aN :=
  ⟨aN, a, fun _ => .inr ⟨_, _, _, l, rfl, rfl, (by show 2 ≤ sizeLine; decide), .cons ⟨_, rfl⟩ (.cons ⟨_, rfl⟩ .nil)⟩⟩
structure OneK (K : PySem.W.Frag) (aO : Addr) : Prop where
  m : PySem.W.nsIn K mainGlobals "ONE" = some (some (.ref aO))
  s : ∀ H : Hp, SqT K H aO [.int 1, .int 1]
theorem OneK.mk' {K : PySem.W.Frag} {aO : Addr} {od : Option Addr} {t0 t1 : Tok} {n : Nat} {sl : Array (Option Value)} (a : PySem.W.nsIn K mainGlobals "ONE" = some (some (.ref aO)))
    (l : K.lookup aO = some ⟨.type "tuple", od, .seq #[.int 1 t0, .int 1 t1] n, sl⟩) : ∃ aO : Addr, OneK K aO :=
  ⟨aO, a, fun _ => .inr ⟨_, _, _, l, rfl, rfl, (by show 2 ≤ sizeLine; decide), .cons ⟨_, rfl⟩ (.cons ⟨_, rfl⟩ .nil)⟩⟩
/-- the classes of errors, as the top made them -/
structure ErNK (K : PySem.W.Frag) (cP c1 c3 fI : Addr) : Prop where
  ex : PySem.W.excIn K c1 bmV "ValueError.__new__" = true
  ef : ExF K c3 cP fI "lies"
  ct : CtK K cP
  ct3 : CtK K c3
  s3 : PySem.W.subIn K (.ref c3) (.ref c3) = some true
  s : PySem.W.subIn K (.ref c3) (.ref cP) = some true
  bi : BaseI K cP
  iP : PySem.W.kitOne K (.ref c3) (.ref cP) = some true
  iV : PySem.W.kitOne K (.ref c3) (.type "ValueError") = some true
  mP : PySem.W.nsIn K mainGlobals "PhialError" = some (some (.ref cP))
  m1 : PySem.W.nsIn K mainGlobals "Nothing" = some (some (.ref c1))
  m3 : PySem.W.nsIn K mainGlobals "Short" = some (some (.ref c3))
  fn : ∃ fd : FuncData, Fun K "__init__" "Short.__init__" sInit fI fd ∧ Binds K fd ["self", "lies"] []
theorem ErNK.er {K : PySem.W.Frag} {mg : Str → Option Value} {h : Heap} {cP c1 c3 fI : Addr} (E : ErNK K cP c1 c3 fI) (X : K.In h) (G : h.Ns mainGlobals mg) : ErN K mg cP c1 c3 fI :=
  ⟨E.ex, E.ef, E.ct, E.ct3, E.s3, E.s, E.bi, E.iP, E.iV, PySem.W.mg_of X G E.mP, PySem.W.mg_of X G E.m1, PySem.W.mg_of X G E.m3⟩
theorem fnI_mk {K : PySem.W.Frag} {f : Addr} {oc : Value} {od an : Option Addr} {osl : Array (Option Value)} {kV doc pm cdv ct : Value}
    (l : K.lookup f = some ⟨oc, od, .func (PySem.W.fnOf "__init__" "Short.__init__" (defArgs sInit) (defBody sInit) (defScope sInit) .none kV doc pm an cdv ct), osl⟩) (c : PySem.W.codeIn K cdv "Short.__init__" = true) (k : PySem.W.keepIn K (.ref f) = true) :
    ∃ fd : FuncData, Fun K "__init__" "Short.__init__" sInit f fd ∧ Binds K fd ["self", "lies"] [] :=
  ⟨_, fun_mk (st := sInit) l c k, (fun_mk (st := sInit) l c k).binds fun _ _ _ _ _ _ us hl => match us, hl with | [_, _], _ => rfl⟩
theorem err_mk {K : PySem.W.Frag} {cP c1 c3 fI : Addr} {od : Option Addr} {cd : ClassData} {sl : Array (Option Value)}
    (mP : PySem.W.nsIn K mainGlobals "PhialError" = some (some (.ref cP)))
    (m1 : PySem.W.nsIn K mainGlobals "Nothing" = some (some (.ref c1)))
    (m3 : PySem.W.nsIn K mainGlobals "Short" = some (some (.ref c3)))
    (_lk : K.lookup c3 = some ⟨.type "type", od, .cls cd, sl⟩) (_ni : PySem.W.nsIn K cd.ns "__init__" = some (some (.ref fI)))
    (ex : PySem.W.excIn K c1 bmV "ValueError.__new__" = true)
    (ef : ExF K c3 cP fI "lies")
    (ct : CtK K cP)
    (ct3 : CtK K c3)
    (s3 : PySem.W.subIn K (.ref c3) (.ref c3) = some true)
    (s : PySem.W.subIn K (.ref c3) (.ref cP) = some true)
    (bi : BaseI K cP)
    (iP : PySem.W.kitOne K (.ref c3) (.ref cP) = some true)
    (iV : PySem.W.kitOne K (.ref c3) (.type "ValueError") = some true)
    (fn : ∃ fd : FuncData, Fun K "__init__" "Short.__init__" sInit fI fd ∧ Binds K fd ["self", "lies"] []) : ∃ cP c1 c3 fI : Addr, ErNK K cP c1 c3 fI :=
  ⟨_, _, _, _, ex, ef, ct, ct3, s3, s, bi, iP, iV, mP, m1, m3, fn⟩
structure AllD (K : PySem.W.Frag) : Prop where
  dGcd : Dn K "common_divisor" sGcd ["one", "other"]
  dLow : Dn K "lowest_terms" sLow ["top", "bottom"]
  dPlus : Dn K "plus" sPlus ["one", "other"]
  dMinus : Dn K "minus" sMinus ["one", "other"]
  dTimes : Dn K "times" sTimes ["one", "other"]
  dOver : Dn K "over" sOver ["one", "other"]
  dLess : Dn K "less" sLess ["one", "other"]
  dMixture : Dn K "mixture" sMixture ["pairs"]
  dWholeM : Dn K "whole" sWholeM ["one"]
  dOfWare : Dn K "of_ware" sOfWare ["one", "ware"]
  dTogether : Dn K "together" sTogether ["one", "other"]
  dBrought : Dn K "brought" sBrought ["one", "asked"]
  dTaken : Dn K "taken" sTaken ["one", "asked"]
  dAlike : Dn K "alike" sAlike ["one", "other"]
  dCell : Dn K "_law_cell_at" sCell ["_law_script", "_law_k"]
  dLeft : Dn K "_law_left" sLeft ["_law_script", "_law_k"]
  dNext : Dn K "_law_next" sNext ["_law_left_here", "_law_many"]
  dDiv : Dn K "_law_divisor" sDiv ["_law_one", "_law_other"]
  dLlow : Dn K "_law_low" sLlow ["_law_top", "_law_bottom"]
  dWhole : Dn K "_law_whole" sWhole ["_law_found"]
  dIsAm : Dn K "_law_is_amount" sIsAm ["_law_found"]
  dNames : Dn K "_law_names" sNames ["_law_left_here", "_law_many"]
  dAsDict : Dn K "_law_as_dict" sAsDict ["_law_found"]
  dIsSum : Dn K "_law_is_sum" sIsSum ["_law_found", "_law_mine", "_law_more"]
  dSum : Dn K "_law_sum" sSum ["_law_one", "_law_other"]
  dPut : Dn K "_law_put" sPut ["_law_state", "_law_names_here", "_law_left_here"]
  dRatio : Dn K "_law_ratio" sRatio ["_law_out", "_law_asked_here", "_law_state"]
  dShort : Dn K "_law_short" sShort ["_law_state", "_law_asked_here"]
  dTake : Dn K "_law_take" sTake ["_law_state", "_law_asked_here"]
  dAsked : Dn K "_law_asked" sAsked ["_law_state", "_law_left_here"]
  z0 : PySem.W.nsIn K mainGlobals "isinstance" = some none
  z1 : PySem.W.nsIn K mainGlobals "int" = some none
  z2 : PySem.W.nsIn K mainGlobals "bool" = some none
  z3 : PySem.W.nsIn K mainGlobals "tuple" = some none
  z4 : PySem.W.nsIn K mainGlobals "len" = some none
  z5 : PySem.W.nsIn K mainGlobals "range" = some none
  z6 : PySem.W.nsIn K mainGlobals "min" = some none
  z7 : PySem.W.nsIn K mainGlobals "all" = some none
  z8 : PySem.W.nsIn K mainGlobals "str" = some none
  z9 : PySem.W.nsIn K mainGlobals "abs" = some none
  z10 : PySem.W.nsIn K mainGlobals "list" = some none
  z11 : PySem.W.nsIn K mainGlobals "sum" = some none
  z12 : PySem.W.nsIn K mainGlobals "sorted" = some none
  z13 : PySem.W.nsIn K mainGlobals "zip" = some none
  z14 : PySem.W.nsIn K mainGlobals "ValueError" = some none
  nou : ∃ aN : Addr, NouK K aN
  one : ∃ aO : Addr, OneK K aO
  err : ∃ cP c1 c3 fI : Addr, ErNK K cP c1 c3 fI
theorem AllD.txt {K : PySem.W.Frag} {mg : Str → Option Value} {h : Heap} (A : AllD K) (X : K.In h) (G : h.Ns mainGlobals mg) : Txt mg := ⟨PySem.W.mg_none_of X G A.z0, PySem.W.mg_none_of X G A.z1, PySem.W.mg_none_of X G A.z2, PySem.W.mg_none_of X G A.z3, PySem.W.mg_none_of X G A.z4, PySem.W.mg_none_of X G A.z5, PySem.W.mg_none_of X G A.z6, PySem.W.mg_none_of X G A.z7, PySem.W.mg_none_of X G A.z8, PySem.W.mg_none_of X G A.z9, PySem.W.mg_none_of X G A.z10, PySem.W.mg_none_of X G A.z11, PySem.W.mg_none_of X G A.z12, PySem.W.mg_none_of X G A.z13, PySem.W.mg_none_of X G A.z14⟩
theorem law_ok {P : Program} {w : World} {K : PySem.W.Frag} {mg : Str → Option Value} {base h : Heap} {f : Addr} {fd : FuncData} (X : K.In h) (G : h.Ns mainGlobals mg) (A : AllD K) (F : Fun K "law" "law" sLaw f fd) : FnOk P w K mg base CX0 9 f fd ["_law_script"] (spLaw K) := by
  have T : Txt mg := A.txt X G
  obtain ⟨aN, NK⟩ := A.nou
  have mN := PySem.W.mg_of X G NK.m
  obtain ⟨aO, OK⟩ := A.one
  have mO := PySem.W.mg_of X G OK.m
  obtain ⟨cP, c1, c3, fI, EK⟩ := A.err
  have R := EK.er X G
  obtain ⟨fdI, FI, bI⟩ := EK.fn
  have kI : FnOk P w K mg base CX0 1 fI fdI ["self", "lies"] (spInit c3) := ok_init FI R
  have cG : Cal P w K mg base CX0 1 "common_divisor" ["one", "other"] spGcd := A.dGcd.cal X G ok_gcd
  have cLow : Cal P w K mg base CX0 2 "lowest_terms" ["top", "bottom"] spLow := A.dLow.cal X G fun F => ok_low F cG
  have cPl : Cal P w K mg base CX0 3 "plus" ["one", "other"] (spPlus K) := A.dPlus.cal X G fun F => ok_plus F mN NK.s cLow
  have cTi : Cal P w K mg base CX0 3 "times" ["one", "other"] (spTimes K) := A.dTimes.cal X G fun F => ok_times F cLow
  have cOv : Cal P w K mg base CX0 3 "over" ["one", "other"] (spOver K) := A.dOver.cal X G fun F => ok_over F mN NK.s cLow
  have cMx : Cal P w K mg base CX0 4 "mixture" ["pairs"] (spMixture K) := A.dMixture.cal X G fun F => ok_mixture F T mN NK.s cPl
  have cWm : Cal P w K mg base CX0 4 "whole" ["one"] (spWholeM K) := A.dWholeM.cal X G fun F => ok_wholem F mN NK.s cPl
  have cC : Cal P w K mg base CX0 1 "_law_cell_at" ["_law_script", "_law_k"] (spCell K) := A.dCell.cal X G fun F => ok_cell F T
  have cL : Cal P w K mg base CX0 2 "_law_left" ["_law_script", "_law_k"] (spLeft K) := A.dLeft.cal X G fun F => ok_left F T cC
  have cN : Cal P w K mg base CX0 1 "_law_next" ["_law_left_here", "_law_many"] spNext := A.dNext.cal X G fun F => ok_next F T
  have cD : Cal P w K mg base CX0 1 "_law_divisor" ["_law_one", "_law_other"] spGcd := A.dDiv.cal X G ok_div
  have cLl : Cal P w K mg base CX0 2 "_law_low" ["_law_top", "_law_bottom"] spLow := A.dLlow.cal X G fun F => ok_llow F cD
  have cW : Cal P w K mg base CX0 1 "_law_whole" ["_law_found"] spWhole := A.dWhole.cal X G fun F => ok_whole F T
  have cA : Cal P w K mg base CX0 2 "_law_is_amount" ["_law_found"] (spIsAm K) := A.dIsAm.cal X G fun F => ok_isam F T cW cD
  have cNm : Cal P w K mg base CX0 2 "_law_names" ["_law_left_here", "_law_many"] spNames := A.dNames.cal X G fun F => ok_names F T cN
  have cLs : Cal P w K mg base CX0 1 "less" ["one", "other"] (spLess K) := A.dLess.cal X G ok_less
  have cMi : Cal P w K mg base CX0 3 "minus" ["one", "other"] (spMinus K) := A.dMinus.cal X G fun F => ok_minus F (cLs.mono (by decide)) cLow
  have cOf : Cal P w K mg base CX0 1 "of_ware" ["one", "ware"] (spOfWare K aN) := A.dOfWare.cal X G fun F => ok_ofware F mN
  have cBr : Cal P w K mg base (CXg P w) 5 "brought" ["one", "asked"] (spBr K c1) := A.dBrought.cal X G fun F => ok_brought F T mN NK.s R.m1 R.ex (cOv.mono (by decide)) cWm (cTi.mono (by decide))
  have cTk : Cal P w K mg base (CXg P w) 6 "taken" ["one", "asked"] (spTaken K c3) := A.dTaken.cal X G fun F => ok_taken F NK.s R kI bI (cWm.mono (by decide)) (cLs.mono (by decide)) cBr (cMi.mono (by decide)) (cOf.mono (by decide)) (cMx.mono (by decide))
  have cTo : Cal P w K mg base CX0 5 "together" ["one", "other"] (spTog K) := A.dTogether.cal X G fun F => ok_together F T cMx
  have cAl : Cal P w K mg base CX0 6 "alike" ["one", "other"] (spAlike K) := A.dAlike.cal X G fun F => ok_alike F mO OK.s cBr
  have cAd : Cal P w K mg base CX0 3 "_law_as_dict" ["_law_found"] (spAsDict K) := A.dAsDict.cal X G fun F => ok_asdict F T cA
  have cIs : Cal P w K mg base CX0 1 "_law_is_sum" ["_law_found", "_law_mine", "_law_more"] spIsSum := A.dIsSum.cal X G fun F => ok_issum F T
  have cSm : Cal P w K mg base CX0 3 "_law_sum" ["_law_one", "_law_other"] (spSum K) := A.dSum.cal X G fun F => ok_sum F cLl
  have cAs : Cal P w K mg base CX0 3 "_law_asked" ["_law_state", "_law_left_here"] (spAsked K) := A.dAsked.cal X G fun F => ok_asked F (cN.mono (by decide)) cLl
  have cPu : Cal P w K mg base CX0 6 "_law_put" ["_law_state", "_law_names_here", "_law_left_here"] (spPut K) := A.dPut.cal X G fun F => ok_put F T (cN.mono (by decide)) (cLl.mono (by decide)) (cSm.mono (by decide)) (cAd.mono (by decide)) (cIs.mono (by decide)) cTo (cMx.mono (by decide))
  have cRa : Cal P w K mg base CX0 1 "_law_ratio" ["_law_out", "_law_asked_here", "_law_state"] (spRatio K) := A.dRatio.cal X G fun F => ok_ratio F T
  have cSh : Cal P w K mg base CX0 7 "_law_short" ["_law_state", "_law_asked_here"] (spShort K) := A.dShort.cal X G fun F => ok_short F R cTk (cA.mono (by decide))
  have cTa : Cal P w K mg base CX0 8 "_law_take" ["_law_state", "_law_asked_here"] (spTake K) := A.dTake.cal X G fun F => ok_take F T cSh (cTk.mono (by decide)) (cAd.mono (by decide)) (cIs.mono (by decide)) (cRa.mono (by decide)) (cAl.mono (by decide)) (cLl.mono (by decide))
  exact ok_law F T NK.s (cNm.mono (by decide)) (cL.mono (by decide)) (cN.mono (by decide)) (cPu.mono (by decide)) cTa (cAs.mono (by decide)) (cWm.mono (by decide)) (cA.mono (by decide)) (cOf.mono (by decide)) (cAd.mono (by decide))
theorem all_mk {l : PySem.W.OpenLaw} {w : World} {K : PySem.W.Frag} {h : Heap} {mg : Str → Option Value} {fa f4 : Addr} (X : K.In h) (G : h.Ns mainGlobals mg) (hfa : mg "law" = some (.ref fa)) (A : AllD K)
    {od4 an4 : Option Addr} {sl4 : Array (Option Value)} {oc4 kV4 dc4 pm4 cd4 ct4 : Value}
    (a4 : PySem.W.nsIn K mainGlobals "law" = some (some (.ref f4))) (l4 : K.lookup f4 = some ⟨oc4, od4, .func (PySem.W.fnOf "law" "law" (defArgs sLaw) (defBody sLaw) (defScope sLaw) .none kV4 dc4 pm4 an4 cd4 ct4), sl4⟩) (c4 : PySem.W.codeIn K cd4 "law" = true) (k4 : PySem.W.keepIn K (.ref f4) = true) :
    ∃ fd : FuncData, (∀ (s : Shared) (v : Value), BindsTo s fd ⟨[v], []⟩ [("_law_script", v)]) ∧ ∀ base : Heap, K.In base → base.Ns mainGlobals mg → FnOk l.prog w K mg base CX0 9 fa fd ["_law_script"] (spLaw K) := by
  have e := hfa.symm.trans (PySem.W.mg_of X G a4)
  cases e
  exact ⟨PySem.W.fnOf "law" "law" (defArgs sLaw) (defBody sLaw) (defScope sLaw) .none kV4 dc4 pm4 an4 cd4 ct4, fun s v => .of_eq rfl, fun base _ _ => law_ok X G A (fun_mk (st := sLaw) l4 c4 k4)⟩
theorem walk {l : PySem.W.OpenLaw} {q : Program} {loose : List Str} {XP : (Str → Option Value) → Heap → Prop} {YP : World → Heap → Prop} {d : DefRec} {K : Params → PySem.W.Frag} (hn : l.most = some 63) (hdf : d.params.defaults = [])
    (hY : ∀ (w : World) (h : Heap), YP w h → (K w.params).In h)
    (F : ∀ (w : World) (mg : Str → Option Value) (fa : Addr) (h : Heap), (K w.params).In h → h.Ns mainGlobals mg → mg d.name = some (.ref fa) →
      ∃ fd : FuncData, (∀ (s : Shared) (u : Value), BindsTo s fd ⟨[u], []⟩ [("_law_script", u)]) ∧ ∀ base : Heap, (K w.params).In base → base.Ns mainGlobals mg → FnOk l.prog w (K w.params) mg base CX0 9 fa fd ["_law_script"] (spLaw (K w.params))) :
    PySem.W.WalkO q loose XP YP l.row.toRowW d [] (fun f vs => PySem.call f vs) :=
  L2.walk_of (n := 63) (k := 9) (x := "_law_script") (CX := fun _ => CX0) (sp := fun w => spLaw (K w.params)) hn (by decide) hdf ⟨rfl, by decide, by decide⟩ hY F (fun _ _ a ns hl _ hS => ⟨a, ns, rfl, hS, hl, fun _ => rfl⟩) fun _ _ _ _ _ z => z
end K8
open PySem PySem.W PyProof.Rows
set_option maxRecDepth 100000 in
set_option maxHeartbeats 0 in
theorem PySem.Challenge.cw_phialhouse_k08_whole_tub_holds : PySem.Challenge.rw_phialhouse_k08_whole_tub.Holds := by
  w_on; o_law; k_head; (case hw => w_witness2)
  k_fill
  refine K8.walk (l := PySem.Challenge.rw_phialhouse_k08_whole_tub) rfl rfl (fun w h Y => PySem.W.kIn_of Y) ?F
  case F =>
    intro w mg fa h KX G hmg
    have dGcd : K8.Dn (L2.KOf KX) "common_divisor" K8.sGcd ["one", "other"] := by
      dsimp only [L2.KOf]
      refine' K8.Dn.mk' ?a ?l ?c ?k ?b
      (case a => k_is); (case l => k_is); (case c => k_is); (case k => k_is)
      (case b => exact fun _ _ _ _ _ _ us hl => match us, hl with | [_, _], _ => rfl)
    have dLow : K8.Dn (L2.KOf KX) "lowest_terms" K8.sLow ["top", "bottom"] := by
      dsimp only [L2.KOf]
      refine' K8.Dn.mk' ?a ?l ?c ?k ?b
      (case a => k_is); (case l => k_is); (case c => k_is); (case k => k_is)
      (case b => exact fun _ _ _ _ _ _ us hl => match us, hl with | [_, _], _ => rfl)
    have dPlus : K8.Dn (L2.KOf KX) "plus" K8.sPlus ["one", "other"] := by
      dsimp only [L2.KOf]
      refine' K8.Dn.mk' ?a ?l ?c ?k ?b
      (case a => k_is); (case l => k_is); (case c => k_is); (case k => k_is)
      (case b => exact fun _ _ _ _ _ _ us hl => match us, hl with | [_, _], _ => rfl)
    have dMinus : K8.Dn (L2.KOf KX) "minus" K8.sMinus ["one", "other"] := by
      dsimp only [L2.KOf]
      refine' K8.Dn.mk' ?a ?l ?c ?k ?b
      (case a => k_is); (case l => k_is); (case c => k_is); (case k => k_is)
      (case b => exact fun _ _ _ _ _ _ us hl => match us, hl with | [_, _], _ => rfl)
    have dTimes : K8.Dn (L2.KOf KX) "times" K8.sTimes ["one", "other"] := by
      dsimp only [L2.KOf]
      refine' K8.Dn.mk' ?a ?l ?c ?k ?b
      (case a => k_is); (case l => k_is); (case c => k_is); (case k => k_is)
      (case b => exact fun _ _ _ _ _ _ us hl => match us, hl with | [_, _], _ => rfl)
    have dOver : K8.Dn (L2.KOf KX) "over" K8.sOver ["one", "other"] := by
      dsimp only [L2.KOf]
      refine' K8.Dn.mk' ?a ?l ?c ?k ?b
      (case a => k_is); (case l => k_is); (case c => k_is); (case k => k_is)
      (case b => exact fun _ _ _ _ _ _ us hl => match us, hl with | [_, _], _ => rfl)
    have dLess : K8.Dn (L2.KOf KX) "less" K8.sLess ["one", "other"] := by
      dsimp only [L2.KOf]
      refine' K8.Dn.mk' ?a ?l ?c ?k ?b
      (case a => k_is); (case l => k_is); (case c => k_is); (case k => k_is)
      (case b => exact fun _ _ _ _ _ _ us hl => match us, hl with | [_, _], _ => rfl)
    have dMixture : K8.Dn (L2.KOf KX) "mixture" K8.sMixture ["pairs"] := by
      dsimp only [L2.KOf]
      refine' K8.Dn.mk' ?a ?l ?c ?k ?b
      (case a => k_is); (case l => k_is); (case c => k_is); (case k => k_is)
      (case b => exact fun _ _ _ _ _ _ us hl => match us, hl with | [_], _ => rfl)
    have dWholeM : K8.Dn (L2.KOf KX) "whole" K8.sWholeM ["one"] := by
      dsimp only [L2.KOf]
      refine' K8.Dn.mk' ?a ?l ?c ?k ?b
      (case a => k_is); (case l => k_is); (case c => k_is); (case k => k_is)
      (case b => exact fun _ _ _ _ _ _ us hl => match us, hl with | [_], _ => rfl)
    have dOfWare : K8.Dn (L2.KOf KX) "of_ware" K8.sOfWare ["one", "ware"] := by
      dsimp only [L2.KOf]
      refine' K8.Dn.mk' ?a ?l ?c ?k ?b
      (case a => k_is); (case l => k_is); (case c => k_is); (case k => k_is)
      (case b => exact fun _ _ _ _ _ _ us hl => match us, hl with | [_, _], _ => rfl)
    have dTogether : K8.Dn (L2.KOf KX) "together" K8.sTogether ["one", "other"] := by
      dsimp only [L2.KOf]
      refine' K8.Dn.mk' ?a ?l ?c ?k ?b
      (case a => k_is); (case l => k_is); (case c => k_is); (case k => k_is)
      (case b => exact fun _ _ _ _ _ _ us hl => match us, hl with | [_, _], _ => rfl)
    have dBrought : K8.Dn (L2.KOf KX) "brought" K8.sBrought ["one", "asked"] := by
      dsimp only [L2.KOf]
      refine' K8.Dn.mk' ?a ?l ?c ?k ?b
      (case a => k_is); (case l => k_is); (case c => k_is); (case k => k_is)
      (case b => exact fun _ _ _ _ _ _ us hl => match us, hl with | [_, _], _ => rfl)
    have dTaken : K8.Dn (L2.KOf KX) "taken" K8.sTaken ["one", "asked"] := by
      dsimp only [L2.KOf]
      refine' K8.Dn.mk' ?a ?l ?c ?k ?b
      (case a => k_is); (case l => k_is); (case c => k_is); (case k => k_is)
      (case b => exact fun _ _ _ _ _ _ us hl => match us, hl with | [_, _], _ => rfl)
    have dAlike : K8.Dn (L2.KOf KX) "alike" K8.sAlike ["one", "other"] := by
      dsimp only [L2.KOf]
      refine' K8.Dn.mk' ?a ?l ?c ?k ?b
      (case a => k_is); (case l => k_is); (case c => k_is); (case k => k_is)
      (case b => exact fun _ _ _ _ _ _ us hl => match us, hl with | [_, _], _ => rfl)
    have dCell : K8.Dn (L2.KOf KX) "_law_cell_at" K8.sCell ["_law_script", "_law_k"] := by
      dsimp only [L2.KOf]
      refine' K8.Dn.mk' ?a ?l ?c ?k ?b
      (case a => k_is); (case l => k_is); (case c => k_is); (case k => k_is)
      (case b => exact fun _ _ _ _ _ _ us hl => match us, hl with | [_, _], _ => rfl)
    have dLeft : K8.Dn (L2.KOf KX) "_law_left" K8.sLeft ["_law_script", "_law_k"] := by
      dsimp only [L2.KOf]
      refine' K8.Dn.mk' ?a ?l ?c ?k ?b
      (case a => k_is); (case l => k_is); (case c => k_is); (case k => k_is)
      (case b => exact fun _ _ _ _ _ _ us hl => match us, hl with | [_, _], _ => rfl)
    have dNext : K8.Dn (L2.KOf KX) "_law_next" K8.sNext ["_law_left_here", "_law_many"] := by
      dsimp only [L2.KOf]
      refine' K8.Dn.mk' ?a ?l ?c ?k ?b
      (case a => k_is); (case l => k_is); (case c => k_is); (case k => k_is)
      (case b => exact fun _ _ _ _ _ _ us hl => match us, hl with | [_, _], _ => rfl)
    have dDiv : K8.Dn (L2.KOf KX) "_law_divisor" K8.sDiv ["_law_one", "_law_other"] := by
      dsimp only [L2.KOf]
      refine' K8.Dn.mk' ?a ?l ?c ?k ?b
      (case a => k_is); (case l => k_is); (case c => k_is); (case k => k_is)
      (case b => exact fun _ _ _ _ _ _ us hl => match us, hl with | [_, _], _ => rfl)
    have dLlow : K8.Dn (L2.KOf KX) "_law_low" K8.sLlow ["_law_top", "_law_bottom"] := by
      dsimp only [L2.KOf]
      refine' K8.Dn.mk' ?a ?l ?c ?k ?b
      (case a => k_is); (case l => k_is); (case c => k_is); (case k => k_is)
      (case b => exact fun _ _ _ _ _ _ us hl => match us, hl with | [_, _], _ => rfl)
    have dWhole : K8.Dn (L2.KOf KX) "_law_whole" K8.sWhole ["_law_found"] := by
      dsimp only [L2.KOf]
      refine' K8.Dn.mk' ?a ?l ?c ?k ?b
      (case a => k_is); (case l => k_is); (case c => k_is); (case k => k_is)
      (case b => exact fun _ _ _ _ _ _ us hl => match us, hl with | [_], _ => rfl)
    have dIsAm : K8.Dn (L2.KOf KX) "_law_is_amount" K8.sIsAm ["_law_found"] := by
      dsimp only [L2.KOf]
      refine' K8.Dn.mk' ?a ?l ?c ?k ?b
      (case a => k_is); (case l => k_is); (case c => k_is); (case k => k_is)
      (case b => exact fun _ _ _ _ _ _ us hl => match us, hl with | [_], _ => rfl)
    have dNames : K8.Dn (L2.KOf KX) "_law_names" K8.sNames ["_law_left_here", "_law_many"] := by
      dsimp only [L2.KOf]
      refine' K8.Dn.mk' ?a ?l ?c ?k ?b
      (case a => k_is); (case l => k_is); (case c => k_is); (case k => k_is)
      (case b => exact fun _ _ _ _ _ _ us hl => match us, hl with | [_, _], _ => rfl)
    have dAsDict : K8.Dn (L2.KOf KX) "_law_as_dict" K8.sAsDict ["_law_found"] := by
      dsimp only [L2.KOf]
      refine' K8.Dn.mk' ?a ?l ?c ?k ?b
      (case a => k_is); (case l => k_is); (case c => k_is); (case k => k_is)
      (case b => exact fun _ _ _ _ _ _ us hl => match us, hl with | [_], _ => rfl)
    have dIsSum : K8.Dn (L2.KOf KX) "_law_is_sum" K8.sIsSum ["_law_found", "_law_mine", "_law_more"] := by
      dsimp only [L2.KOf]
      refine' K8.Dn.mk' ?a ?l ?c ?k ?b
      (case a => k_is); (case l => k_is); (case c => k_is); (case k => k_is)
      (case b => exact fun _ _ _ _ _ _ us hl => match us, hl with | [_, _, _], _ => rfl)
    have dSum : K8.Dn (L2.KOf KX) "_law_sum" K8.sSum ["_law_one", "_law_other"] := by
      dsimp only [L2.KOf]
      refine' K8.Dn.mk' ?a ?l ?c ?k ?b
      (case a => k_is); (case l => k_is); (case c => k_is); (case k => k_is)
      (case b => exact fun _ _ _ _ _ _ us hl => match us, hl with | [_, _], _ => rfl)
    have dPut : K8.Dn (L2.KOf KX) "_law_put" K8.sPut ["_law_state", "_law_names_here", "_law_left_here"] := by
      dsimp only [L2.KOf]
      refine' K8.Dn.mk' ?a ?l ?c ?k ?b
      (case a => k_is); (case l => k_is); (case c => k_is); (case k => k_is)
      (case b => exact fun _ _ _ _ _ _ us hl => match us, hl with | [_, _, _], _ => rfl)
    have dRatio : K8.Dn (L2.KOf KX) "_law_ratio" K8.sRatio ["_law_out", "_law_asked_here", "_law_state"] := by
      dsimp only [L2.KOf]
      refine' K8.Dn.mk' ?a ?l ?c ?k ?b
      (case a => k_is); (case l => k_is); (case c => k_is); (case k => k_is)
      (case b => exact fun _ _ _ _ _ _ us hl => match us, hl with | [_, _, _], _ => rfl)
    have dShort : K8.Dn (L2.KOf KX) "_law_short" K8.sShort ["_law_state", "_law_asked_here"] := by
      dsimp only [L2.KOf]
      refine' K8.Dn.mk' ?a ?l ?c ?k ?b
      (case a => k_is); (case l => k_is); (case c => k_is); (case k => k_is)
      (case b => exact fun _ _ _ _ _ _ us hl => match us, hl with | [_, _], _ => rfl)
    have dTake : K8.Dn (L2.KOf KX) "_law_take" K8.sTake ["_law_state", "_law_asked_here"] := by
      dsimp only [L2.KOf]
      refine' K8.Dn.mk' ?a ?l ?c ?k ?b
      (case a => k_is); (case l => k_is); (case c => k_is); (case k => k_is)
      (case b => exact fun _ _ _ _ _ _ us hl => match us, hl with | [_, _], _ => rfl)
    have dAsked : K8.Dn (L2.KOf KX) "_law_asked" K8.sAsked ["_law_state", "_law_left_here"] := by
      dsimp only [L2.KOf]
      refine' K8.Dn.mk' ?a ?l ?c ?k ?b
      (case a => k_is); (case l => k_is); (case c => k_is); (case k => k_is)
      (case b => exact fun _ _ _ _ _ _ us hl => match us, hl with | [_, _], _ => rfl)
    have z0 : PySem.W.nsIn (L2.KOf KX) mainGlobals "isinstance" = some none := by
      dsimp only [L2.KOf]
      k_is
    have z1 : PySem.W.nsIn (L2.KOf KX) mainGlobals "int" = some none := by
      dsimp only [L2.KOf]
      k_is
    have z2 : PySem.W.nsIn (L2.KOf KX) mainGlobals "bool" = some none := by
      dsimp only [L2.KOf]
      k_is
    have z3 : PySem.W.nsIn (L2.KOf KX) mainGlobals "tuple" = some none := by
      dsimp only [L2.KOf]
      k_is
    have z4 : PySem.W.nsIn (L2.KOf KX) mainGlobals "len" = some none := by
      dsimp only [L2.KOf]
      k_is
    have z5 : PySem.W.nsIn (L2.KOf KX) mainGlobals "range" = some none := by
      dsimp only [L2.KOf]
      k_is
    have z6 : PySem.W.nsIn (L2.KOf KX) mainGlobals "min" = some none := by
      dsimp only [L2.KOf]
      k_is
    have z7 : PySem.W.nsIn (L2.KOf KX) mainGlobals "all" = some none := by
      dsimp only [L2.KOf]
      k_is
    have z8 : PySem.W.nsIn (L2.KOf KX) mainGlobals "str" = some none := by
      dsimp only [L2.KOf]
      k_is
    have z9 : PySem.W.nsIn (L2.KOf KX) mainGlobals "abs" = some none := by
      dsimp only [L2.KOf]
      k_is
    have z10 : PySem.W.nsIn (L2.KOf KX) mainGlobals "list" = some none := by
      dsimp only [L2.KOf]
      k_is
    have z11 : PySem.W.nsIn (L2.KOf KX) mainGlobals "sum" = some none := by
      dsimp only [L2.KOf]
      k_is
    have z12 : PySem.W.nsIn (L2.KOf KX) mainGlobals "sorted" = some none := by
      dsimp only [L2.KOf]
      k_is
    have z13 : PySem.W.nsIn (L2.KOf KX) mainGlobals "zip" = some none := by
      dsimp only [L2.KOf]
      k_is
    have z14 : PySem.W.nsIn (L2.KOf KX) mainGlobals "ValueError" = some none := by
      dsimp only [L2.KOf]
      k_is
    have nou : ∃ aN : Addr, K8.NouK (L2.KOf KX) aN := by
      dsimp only [L2.KOf]
      refine' K8.NouK.mk' ?a ?l
      (case a => k_is); (case l => k_is)
    have one : ∃ aO : Addr, K8.OneK (L2.KOf KX) aO := by
      dsimp only [L2.KOf]
      refine' K8.OneK.mk' ?a ?l
      (case a => k_is); (case l => k_is)
    have err : ∃ cP c1 c3 fI : Addr, K8.ErNK (L2.KOf KX) cP c1 c3 fI := by
      dsimp only [L2.KOf]
      refine' K8.err_mk ?mP ?m1 ?m3 ?lk ?ni ?ex ⟨⟨?xi, ?xf, ?xk, ⟨?x1, ?x2, ?x3, ?x4, ?x5, ?x6⟩⟩, ?sa, ?nn⟩ ⟨?y1, ?y2, ?y3⟩ ⟨?z1, ?z2, ?z3⟩ ?s3 ?s ⟨?b1, ?b2, ?b3⟩ ?iP ?iV (K8.fnI_mk ?l ?c ?k)
      (case mP => k_is); (case m1 => k_is); (case m3 => k_is)
      (case lk => k_is); (case ni => k_is); (case ex => k_exc); (case xi => first | kernel_rfl | rfl); (case xf => k_is); (case xk => k_is)
      (case x1 => k_is); (case x2 => k_is); (case x3 => k_is); (case x4 => k_is); (case x5 => k_is); (case x6 => (show PySem.W.isClsIn _ _ = true; k_is)); (case sa => k_is); (case nn => k_is)
      (case y1 => k_is); (case y2 => (show PySem.W.isClsIn _ _ = true; k_is)); (case y3 => k_is); (case z1 => k_is); (case z2 => (show PySem.W.isClsIn _ _ = true; k_is)); (case z3 => k_is); (case s3 => k_is); (case s => k_is); (case b1 => k_is); (case b2 => k_is); (case b3 => k_is); (case iP => kit_is); (case iV => kit_is)
      (case l => k_is); (case c => k_is); (case k => k_is)
    refine' K8.all_mk KX G hmg ⟨dGcd, dLow, dPlus, dMinus, dTimes, dOver, dLess, dMixture, dWholeM, dOfWare, dTogether, dBrought, dTaken, dAlike, dCell, dLeft, dNext, dDiv, dLlow, dWhole, dIsAm, dNames, dAsDict, dIsSum, dSum, dPut, dRatio, dShort, dTake, dAsked, z0, z1, z2, z3, z4, z5, z6, z7, z8, z9, z10, z11, z12, z13, z14, nou, one, err⟩ ?a4 ?l4 ?c4 ?k4
    (case a4 => k_is); (case l4 => k_is); (case c4 => k_is); (case k4 => k_is)

