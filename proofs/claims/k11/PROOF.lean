import PyProof.Rows.All
import Wide.All
import OpenK.AllK
import Wide.FinOn
import Lean
import PyProof.EqAt
import PyProof.EqKinds
import PyProof.TupleCall
import PySem.Challenge.RW_phialhouse_k11_books_written
set_option Elab.async false
set_option linter.all false
set_option maxRecDepth 100000
set_option maxHeartbeats 4000000
namespace L2
open PySem PySem.Spec PyProof.Rows
abbrev Key := Sum Int Str
def keyIs : Key -> Value -> Bool
 | .inl k,v => Value.isInt k v
 | .inr x,v => Value.isStrOf x v
def keyH (w : World) : Key -> Int
 | .inl k => hashInt k
 | .inr x => hashStr w x
theorem keyIs_shape : ∀ {k : Key} {v : Value},keyIs k v = true -> (∃ i t,k = Sum.inl i /\ v = Value.int i t) \/ (∃ x t,k = Sum.inr x /\ v = Value.str x t)
 | .inl i,v,h => by
  obtain ⟨t,e⟩ := Value.isInt_shape (k := i) (v := v) h
  exact .inl ⟨i,t,rfl,e⟩
 | .inr x,v,h => by
  obtain ⟨t,e⟩ := Value.isStrOf_shape (x := x) (v := v) h
  exact .inr ⟨x,t,rfl,e⟩
theorem key_ll (a b : Int) : decide ((Sum.inl a : Key) = Sum.inl b) = (a == b) := by
 by_cases e : a = b
 ·subst e; simp
 ·have h : ¬ (Sum.inl a : Key) = Sum.inl b := fun q => e (Sum.inl.inj q)
  rw [decide_eq_false h]
  exact (beq_eq_false_iff_ne.mpr e).symm
theorem key_rr (a b : Str) : decide ((Sum.inr a : Key) = Sum.inr b) = decide (a = b) := by
 by_cases e : a = b
 ·subst e; simp
 ·have h : ¬ (Sum.inr a : Key) = Sum.inr b := fun q => e (Sum.inr.inj q)
  rw [decide_eq_false h,decide_eq_false e]
theorem key_lr (a : Int) (b : Str) : decide ((Sum.inl a : Key) = Sum.inr b) = false := decide_eq_false (fun q => nomatch q)
theorem key_rl (a : Str) (b : Int) : decide ((Sum.inr a : Key) = Sum.inl b) = false := decide_eq_false (fun q => nomatch q)
def mixKind (prog : Program) (w : World) : PySem.KeyKind prog w Key where
 is := keyIs
 hash := keyH w
 inj := fun v a b ha hb => by
  rcases keyIs_shape ha with ⟨i,t,rfl,rfl⟩ | ⟨x,t,rfl,rfl⟩
  ·rcases keyIs_shape hb with ⟨j,u,rfl,e⟩ | ⟨y,u,rfl,e⟩
   ·injection e with e1 _; rw [e1]
   ·exact nomatch e
  ·rcases keyIs_shape hb with ⟨j,u,rfl,e⟩ | ⟨y,u,rfl,e⟩
   ·exact nomatch e
   ·injection e with e1 _; rw [e1]
 byValue := fun k v h => by
  rcases keyIs_shape h with ⟨i,t,rfl,rfl⟩ | ⟨x,t,rfl,rfl⟩ <;> rfl
 pyHash := fun hv h => by
  rcases keyIs_shape hv with ⟨i,t,rfl,rfl⟩ | ⟨x,t,rfl,rfl⟩
  ·exact wpAny_pyHash_int h
  ·exact wpAny_pyHash_str h
 eqBool := fun hu hv h => by
  rcases keyIs_shape hu with ⟨i,t,rfl,rfl⟩ | ⟨x,t,rfl,rfl⟩
  ·rcases keyIs_shape hv with ⟨j,u,rfl,rfl⟩ | ⟨y,u,rfl,rfl⟩
   ·rw [key_ll] at h; exact wpAny_eqBool_int h
   ·rw [key_lr] at h; exact SeqAt.EqAt.int_str i t y u _ _ _ _ h
  ·rcases keyIs_shape hv with ⟨j,u,rfl,rfl⟩ | ⟨y,u,rfl,rfl⟩
   ·rw [key_rl] at h; exact SeqAt.EqAt.str_int x t j u _ _ _ _ h
   ·rw [key_rr] at h; exact wpAny_eqBool_str h
 «strs» := fun k x t v h => by
  rcases keyIs_shape h with ⟨i,u,rfl,e⟩ | ⟨y,u,rfl,e⟩
  ·exact nomatch e
  ·injection e with e1 _
   subst e1
   cases v <;> rfl
end L2
namespace L2
open PySem PySem.Spec PyProof.Rows
inductive V where
 | non | bl (b : Bool) | int (i : Int) | str (x : Str) | byt (b : Array UInt8) | flt (b : UInt64) | ref (a : Addr) | ty (n : String)
 deriving DecidableEq
def RelV : V -> Value -> Prop
 | .non,u => u = Value.none
 | .bl b,u => u = Value.bool b
 | .int i,u => ∃ t,u = Value.int i t
 | .str x,u => ∃ t,u = Value.str x t
 | .byt b,u => ∃ t,u = Value.bytes b t
 | .flt b,u => ∃ t,u = Value.float b t
 | .ref a,u => u = Value.ref a
 | .ty n,u => u = Value.type n
abbrev Vals : List V -> List Value -> Prop := Paired RelV
theorem Vals.length {xs : List V} {us : List Value} (r : Vals xs us) : xs.length = us.length := Paired.length r
theorem Vals.get : ∀ {xs : List V} {us : List Value} {i : Nat} {x : V},Vals xs us -> xs[i]? = some x -> ∃ u,us[i]? = some u /\ RelV x u
 | _,_,_,_,.nil,e => by simp at e
 | _,_,0,_,.cons r _,e => by simp at e; subst e; exact ⟨_,rfl,r⟩
 | _,_,i + 1,x,.cons _ t,e => by
  obtain ⟨u,h1,h2⟩ := Vals.get (i := i) (x := x) t (by simpa using e)
  exact ⟨u,by simpa using h1,h2⟩
theorem Vals.set {x : V} {u : Value} (r : RelV x u) : ∀ {xs : List V} {us : List Value} (i : Nat),Vals xs us -> Vals (xs.set i x) (us.set i u)
 | _,_,_,.nil => .nil
 | _,_,0,.cons _ t => .cons r t
 | _,_,i + 1,.cons q t => .cons q (Vals.set r i t)
theorem Vals.append : ∀ {xs ys : List V} {us ws : List Value},Vals xs us -> Vals ys ws -> Vals (xs ++ ys) (us ++ ws)
 | _,_,_,_,.nil,s => s
 | _,_,_,_,.cons r t,s => .cons r (Vals.append t s)
theorem Vals.take : ∀ {xs : List V} {us : List Value} (n : Nat),Vals xs us -> Vals (xs.take n) (us.take n)
 | _,_,0,_ => .nil
 | _,_,_ + 1,.nil => .nil
 | _,_,n + 1,.cons r t => .cons r (Vals.take n t)
theorem Vals.drop : ∀ {xs : List V} {us : List Value} (n : Nat),Vals xs us -> Vals (xs.drop n) (us.drop n)
 | _,_,0,r => r
 | _,_,_ + 1,.nil => .nil
 | _,_,n + 1,.cons _ t => Vals.drop n t
def RelO : Option V -> Option Value -> Prop
 | some v,some u => RelV v u
 | none,none => True
 | _,_ => False
def KV {κ : Type} : List (κ × V) -> List (κ × Value) -> Prop := Paired fun (p : κ × V) (q : κ × Value) => p.1 = q.1 /\ RelV p.2 q.2
def kV : Key -> V
 | .inl i => .int i
 | .inr x => .str x
inductive HO where
 | lst (xs : List V)
 | tup (xs : List V)
 | dK (kvs : List (Key × V)) | dT (kvs : List (List Key × V))
 | set (S : Int -> Bool) (n : Nat)
 | ins (C dx : Addr) (fs : List (Str × V))
 | own (x : Addr)
 | xd (fs : List (Str × V))
 | met (f x : Addr)
 | rng (lo hi : Int)
 | frz (o : Obj) (u : HO)
 | tbl (ps : Array Value)
 | ext (φ : Heap -> Prop)
abbrev Hp := Addr -> Option HO
def upd (H : Hp) (a : Addr) (o : HO) : Hp := fun b => if b = a then some o else H b
theorem upd_same {H : Hp} {a : Addr} {o : HO} : upd H a o a = some o := by unfold upd; rw [if_pos rfl]
theorem upd_ne {H : Hp} {a b : Addr} {o : HO} (h : b ≠ a) : upd H a o b = H b := by unfold upd; rw [if_neg h]
theorem ne_of_none {H : Hp} {a b : Addr} {o : HO} (h : H a = some o) (h' : H b = none) : a ≠ b := by
 intro e; subst e; rw [h] at h'; cases h'
section
variable (P : Program) (w : World)
def ObjOk (H : Hp) (h : Heap) (a : Addr) : HO -> Prop
 | .lst xs => xs.length <= sizeLine /\ ∃ (its : List Value) (n : Nat),Vals xs its /\ h.get? a = some { cls := .type "list",data := .seq its.toArray n }
 | .tup xs => xs.length <= sizeLine /\ ∃ its : List Value,Vals xs its /\ IsTup h a its.toArray
 | .dK kvs => kvs.length <= sizeLine /\ (a == sysModules) = false /\ ∃ vs,KV kvs vs /\ h.DictOf (mixKind P w) a vs
 | .dT kvs => kvs.length <= sizeLine /\ (a == sysModules) = false /\ ∃ xs : List (List Key × Addr × Value),
   Paired (fun (p : List Key × V) (q : List Key × Addr × Value) => p.1 = q.1 /\ H q.2.1 = some (.tup (p.1.map kV)) /\ RelV p.2 q.2.2) kvs xs /\
   ∃ o es ep,h.get? a = some o /\ o.ExactDict /\ o.data = .dict es ep /\ es.toList = xs.map (entryOfKey (tupleKind (mixKind P w))) /\ (xs.map (·.1)).Nodup
 | .set S n => h.SetOf (intKind P w) a S n
 | .ins C dx fs => H dx = some (.own a) /\ fs.length <= 1000 /\ dx ≠ a /\ h.get? a = some (PySem.W.instObj C dx) /\
   ∃ mA,h.Ns1 dx mA /\ (∀ f,RelO (fs.lookup f) (mA f)) /\ PySem.Within mA (fs.map (·.1))
 | .own _ => ∃ o,h.get? a = some o
 | .xd fs => ∃ mA,h.Ns1 a mA /\ ∀ f,RelO (fs.lookup f) (mA f)
 | .rng lo hi => ∃ t u v,h.get? a = some { cls := .type "range",data := .fields #[.int lo t,.int hi u,.int 1 v] }
 | .frz o u => h.get? a = some o /\ ObjOk H h a u
 | .tbl ps => h.get? a = some { cls := .none,data := .fields ps }
 | .met f x => h.get? a = some (PySem.W.methodObj (.ref f) (.ref x))
 | .ext φ => φ h /\ (∃ o,h.get? a = some o) /\ ∀ h1 h2 : Heap,φ h1 -> (∀ o,h1.get? a = some o -> h2.get? a = some o) -> φ h2
def HOk (H : Hp) (h : Heap) : Prop := ∀ a o,H a = some o -> ObjOk P w H h a o
end
section
variable {P : Program} {w : World} {H H' : Hp} {h h' : Heap} {a : Addr} {o : HO}
theorem ObjOk.lt (x : ObjOk P w H h a o) : a < h.objs.size := by
 cases o with
 | lst xs => obtain ⟨_,_,_,_,e⟩ := x; exact Heap.lt_size e
 | tup xs => obtain ⟨_,_,_,p⟩ := x; exact p.lt
 | dK kvs => obtain ⟨_,_,_,_,o,_,_,e,_⟩ := x; exact Heap.lt_size e
 | dT kvs => obtain ⟨_,_,_,_,o,_,_,e,_⟩ := x; exact Heap.lt_size e
 | set S n => obtain ⟨o,_,_,_,e,_⟩ := x; exact Heap.lt_size e
 | ins C dx fs => obtain ⟨_,_,_,e,_⟩ := x; exact Heap.lt_size e
 | own y => obtain ⟨_,e⟩ := x; exact Heap.lt_size e
 | xd fs => obtain ⟨_,⟨_,_,_,e,_⟩,_⟩ := x; exact Heap.lt_size e
 | rng lo hi => obtain ⟨_,_,_,e⟩ := x; exact Heap.lt_size e
 | frz ob u => obtain ⟨e,_⟩ := x; exact Heap.lt_size e
 | tbl ps => exact Heap.lt_size (show h.get? a = some _ from x)
 | met f y => exact Heap.lt_size (show h.get? a = some _ from x)
 | ext φ => obtain ⟨_,⟨_,e⟩,_⟩ := x; exact Heap.lt_size e
theorem Paired.mapP {α β : Type} {F G : α -> β -> Prop} : ∀ {l₁ : List α} {l₂ : List β},Paired F l₁ l₂ -> (∀ a b,F a b -> G a b) -> Paired G l₁ l₂
 | _,_,.nil,_ => .nil
 | _,_,.cons r t,f => .cons (f _ _ r) (Paired.mapP t f)
theorem ObjOk.stay (x : ObjOk P w H h a o) (k : ∀ b u,(b = a \/ H b = some (.own a)) -> h.get? b = some u -> h'.get? b = some u)
  (ho : ∀ b,H b = some (.own a) -> H' b = some (.own a)) (ht : ∀ b xs,H b = some (.tup xs) -> H' b = some (.tup xs)) : ObjOk P w H' h' a o := by
 induction o with
 | lst xs => obtain ⟨z,its,n,r,e⟩ := x; exact ⟨z,its,n,r,k _ _ (.inl rfl) e⟩
 | tup xs => obtain ⟨z,its,r,ob,e,c⟩ := x; exact ⟨z,its,r,ob,k _ _ (.inl rfl) e,c⟩
 | dK kvs => obtain ⟨z,y,vs,r,ob,es,ep,e,c⟩ := x; exact ⟨z,y,vs,r,ob,es,ep,k _ _ (.inl rfl) e,c⟩
 | dT kvs =>
  obtain ⟨z,y,xs,r,ob,es,ep,e,c⟩ := x
  exact ⟨z,y,xs,Paired.mapP r fun p q z => ⟨z.1,ht _ _ z.2.1,z.2.2⟩,ob,es,ep,k _ _ (.inl rfl) e,c⟩
 | set S n => obtain ⟨ob,es,ep,t,e,c⟩ := x; exact ⟨ob,es,ep,t,k _ _ (.inl rfl) e,c⟩
 | ins C dx fs =>
  obtain ⟨d,z,ne,e,mA,⟨od,es,ep,e2,c⟩,r⟩ := x
  exact ⟨ho _ d,z,ne,k _ _ (.inl rfl) e,mA,⟨od,es,ep,k _ _ (.inr d) e2,c⟩,r⟩
 | own y => obtain ⟨ob,e⟩ := x; exact ⟨ob,k _ _ (.inl rfl) e⟩
 | xd fs => obtain ⟨mA,⟨od,es,ep,e,c⟩,r⟩ := x; exact ⟨mA,⟨od,es,ep,k _ _ (.inl rfl) e,c⟩,r⟩
 | rng lo hi => obtain ⟨t,u,v,e⟩ := x; exact ⟨t,u,v,k _ _ (.inl rfl) e⟩
 | frz ob u ih => obtain ⟨e,q⟩ := x; exact ⟨k _ _ (.inl rfl) e,ih q⟩
 | tbl ps =>
  have e : h.get? a = some { cls := .none,data := .fields ps } := x
  show h'.get? a = some { cls := .none,data := .fields ps }
  exact k a _ (.inl rfl) e
 | met f y =>
  have e : h.get? a = some (PySem.W.methodObj (.ref f) (.ref y)) := x
  show h'.get? a = some (PySem.W.methodObj (.ref f) (.ref y))
  exact k a _ (.inl rfl) e
 | ext φ => obtain ⟨p,⟨o,e⟩,st⟩ := x; exact ⟨st _ _ p fun o q => k _ _ (.inl rfl) q,⟨o,k _ _ (.inl rfl) e⟩,st⟩
theorem HOk.lt (x : HOk P w H h) (e : H a = some o) : a < h.objs.size := (x a o e).lt
theorem HOk.fresh (x : HOk P w H h) (e : h.objs.size <= a) : H a = none := by
 cases q : H a with
 | none => rfl
 | some u => exact absurd (Nat.lt_of_lt_of_le (x.lt q) e) (Nat.lt_irrefl _)
theorem HOk.kept (x : HOk P w H h) (k : ∀ b u,h.get? b = some u -> h'.get? b = some u) : HOk P w H h' := fun a o e =>
 (x a o e).stay (fun b u _ q => k b u q) (fun _ q => q) fun _ _ q => q
theorem HOk.laid (x : HOk P w H h) (k : ∀ b u,h.get? b = some u -> h'.get? b = some u) (hp : h.objs.size <= a) (new : ObjOk P w (upd H a o) h' a o) : HOk P w (upd H a o) h' := fun b u e => by
 have hn := x.fresh hp
 by_cases hb : b = a
 ·subst hb; rw [upd_same] at e; cases e; exact new
 ·rw [upd_ne hb] at e
  exact (x b u e).stay (fun c v _ q => k c v q) (fun c q => by rw [upd_ne (ne_of_none q hn)]; exact q) fun c xs q => by rw [upd_ne (ne_of_none q hn)]; exact q
end
def Rd (H : Hp) (a : Addr) (u : HO) : Prop := H a = some u \/ ∃ o,H a = some (.frz o u)
theorem Rd.ok {P : Program} {w : World} {H : Hp} {h : Heap} {a : Addr} {u : HO} (r : Rd H a u) (x : HOk P w H h) : ObjOk P w H h a u := by
 rcases r with r | ⟨o,r⟩
 ·exact x a u r
 ·obtain ⟨_,q⟩ := x a _ r
  exact q
def Mut : Option HO -> Prop
 | some (.lst _) => True
 | some (.dK _) => True
 | some (.dT _) => True
 | some (.set _ _) => True
 | some (.ins _ _ _) => True
 | some (.ext _) => True
 | _ => False
section
variable {P : Program} {w : World} {H : Hp} {h h' : Heap} {x e : Addr} {o' : HO}
theorem HOk.write (ok : HOk P w H h) (mu : Mut (H x)) (he : e = x \/ H e = some (.own x)) (k : ∀ b u,b ≠ e -> h.get? b = some u -> h'.get? b = some u) (heo : ∃ u,h'.get? e = some u)
  (new : ObjOk P w (upd H x o') h' x o') : HOk P w (upd H x o') h' := fun b u q => by
 have nown : ∀ c y,H c = some (.own y) -> c ≠ x := fun c y r z => by subst z; rw [r] at mu; exact mu
 have ntup : ∀ c xs,H c = some (.tup xs) -> c ≠ x := fun c xs r z => by subst z; rw [r] at mu; exact mu
 by_cases hb : b = x
 ·subst hb; rw [upd_same] at q; cases q; exact new
 ·rw [upd_ne hb] at q
  by_cases hbe : b = e
  ·have q' : H b = some (.own x) := by
    rcases he with z | z
    ·exact absurd (hbe.trans z) hb
    ·rw [hbe]; exact z
   rw [q] at q'; cases q'
   obtain ⟨v,hv⟩ := heo
   exact ⟨v,by rw [hbe]; exact hv⟩
  ·refine (ok b u q).stay (fun c v hc r => k c v ?_ r) (fun c r => by rw [upd_ne (nown c b r)]; exact r) fun c xs r => by rw [upd_ne (ntup c xs r)]; exact r
   rcases hc with rfl | hc
   ·exact hbe
   ·rintro rfl
    rcases he with z | z
    ·exact nown c b hc z
    ·rw [hc] at z; cases z; exact hb rfl
end
structure Un (fs ex : List Addr) (H H' : Hp) (h h' : Heap) : Prop where
 keep : ∀ b o,h.get? b = some o -> H b = none -> b ∉ fs -> b ∉ ex -> h'.get? b = some o
 slot : ∀ b o,h.get? b = some o -> H b = none -> b ∈ fs -> b ∉ ex -> ∃ sl,h'.get? b = some { o with slots := sl }
 free : ∀ b o,h.get? b = some o -> H b = none -> b ∉ ex -> H' b = none
 there : ∀ b o,h.get? b = some o -> b ∉ ex -> ∃ o',h'.get? b = some o'
 tups : ∀ b xs,H b = some (.tup xs) -> H' b = some (.tup xs)
 frzs : ∀ b o u,H b = some (.frz o u) -> H' b = some (.frz o u)
 tbls : ∀ b ps,H b = some (.tbl ps) -> ∃ more,H' b = some (.tbl (ps ++ more))
section
variable {fs fs' ex ex' : List Addr} {H H1 H2 : Hp} {h h1 h2 h' : Heap} {a x e : Addr} {o : HO}
theorem Un.any (u : Un fs ex H H1 h h1) {b : Addr} {ob : Obj} (q : h.get? b = some ob) (n : H b = none) (hx : b ∉ ex) : ∃ sl,h1.get? b = some { ob with slots := sl } := by
 by_cases hb : b ∈ fs
 ·exact u.slot b ob q n hb hx
 ·exact ⟨ob.slots,u.keep b ob q n hb hx⟩
theorem Un.kept (k : ∀ b u,h.get? b = some u -> h'.get? b = some u) : Un fs ex H H h h' :=
 ⟨fun b ob q _ _ _ => k b ob q,fun b ob q _ _ _ => ⟨ob.slots,k b ob q⟩,fun _ _ _ n _ => n,fun b ob q _ => ⟨ob,k b ob q⟩,fun _ _ q => q,fun _ _ _ q => q,fun _ ps q => ⟨#[],by rw [q]; simp⟩⟩
theorem Un.refl : Un fs ex H H h h := Un.kept fun _ _ q => q
theorem Un.laid (k : ∀ b u,h.get? b = some u -> h'.get? b = some u) (hp : h.objs.size <= a) (hn : H a = none) : Un fs ex H (upd H a o) h h' where
 keep := fun b u q _ _ _ => k b u q
 slot := fun b u q _ _ _ => ⟨u.slots,k b u q⟩
 free := fun b u q n _ => by rw [upd_ne (Nat.ne_of_lt (Nat.lt_of_lt_of_le (Heap.lt_size q) hp))]; exact n
 there := fun b u q _ => ⟨u,k b u q⟩
 tups := fun b xs q => by rw [upd_ne (ne_of_none q hn)]; exact q
 frzs := fun b u xs q => by rw [upd_ne (ne_of_none q hn)]; exact q
 tbls := fun b ps q => ⟨#[],by rw [upd_ne (ne_of_none q hn),q]; simp⟩
theorem Un.write (mu : Mut (H x)) (he : e = x \/ H e = some (.own x)) (k : ∀ b u,b ≠ e -> h.get? b = some u -> h'.get? b = some u) (heo : ∃ u,h'.get? e = some u) : Un fs ex H (upd H x o) h h' := by
 have hx : ∀ b,H b = none -> b ≠ x := fun b n z => by subst z; rw [n] at mu; exact mu
 have hb : ∀ b,H b = none -> b ≠ e := fun b n z => by
  subst z
  rcases he with r | r
  ·exact hx b n r
  ·rw [n] at r; cases r
 have hm : ∀ b u,H b = some u -> ¬ Mut (some u) -> b ≠ x := fun b u q nm z => by subst z; rw [q] at mu; exact nm mu
 refine ⟨fun b u q n _ _ => k b u (hb b n) q,fun b u q n _ _ => ⟨u.slots,k b u (hb b n) q⟩,fun b u q n _ => by rw [upd_ne (hx b n)]; exact n,fun b u q _ => ?_,
  fun b xs q => by rw [upd_ne (hm b _ q fun z => z)]; exact q,fun b u xs q => by rw [upd_ne (hm b _ q fun z => z)]; exact q,fun b ps q => ⟨#[],by rw [upd_ne (hm b _ q fun z => z),q]; simp⟩⟩
 by_cases hbe : b = e
 ·subst hbe; exact heo
 ·exact ⟨u,k b u hbe q⟩
end
def trk (h : Heap) (H : Hp) : List Addr := (List.range h.objs.size).filter fun a => (H a).isSome
def hidT (h : Heap) (H : Hp) : Heap := PySem.W.hideAll h (trk h H)
theorem hidT_size (h : Heap) (H : Hp) : (hidT h H).objs.size = h.objs.size := PySem.W.hideAll_size _ _
theorem hidT_get {h : Heap} {H : Hp} {b : Addr} {o : Obj} (e : h.get? b = some o) (n : H b = none) : (hidT h H).get? b = some o :=
 PySem.W.hideAll_get _ e fun hm => by
  have q : (H b).isSome = true := (List.mem_filter.mp hm).2
  rw [n] at q; simp at q
theorem of_hidT {h : Heap} {H : Hp} {b : Addr} {o : Obj} (e : (hidT h H).get? b = some o) : h.get? b = some o /\ H b = none := by
 have e' : h.get? b = some o := PySem.W.of_hideAll (trk h H) e
 refine ⟨e',?_⟩
 cases q : H b with
 | none => rfl
 | some x =>
  have hm : b ∈ trk h H := List.mem_filter.mpr ⟨List.mem_range.mpr (Heap.lt_size e'),by simp [q]⟩
  have z : (hidT h H).get? b = none := PySem.W.hideAll_none (trk h H) hm
  rw [z] at e; cases e
def allNews (g h : Heap) (L : Addr) : List (Addr × Obj) := (List.range h.objs.size).filterMap fun a => if a = L \/ (g.get? a).isSome = true then none else (h.get? a).map fun o => (a,o)
def rest (g h : Heap) (L d : Addr) : List (Addr × Obj) := (allNews g h L).filter fun p => decide (p.1 ≠ d)
end L2
namespace L2
open PySem PySem.Spec PyProof.Rows
structure Mod (K : PySem.W.Frag) (mg : Str -> Option Value) (base : Heap) : Prop where
 kin : K.In base
 glob : base.Ns mainGlobals mg
 blt : ∃ mb,base.Ns builtinsNs mb /\ ∀ x : Str,x ≠ "__name__" -> mb x = bootBuiltins x
 nolimit : base.NoLimit
structure Cx where
 prog : Program
 w : World
 K : PySem.W.Frag
 mg : Str -> Option Value
 base : Heap
 A : Around
 N : List Str
 s₀ : Shared
 H₀ : Hp
 env : Env
 outer : List Env
 stack : List Env
 ex : List Addr
 fn : Str -> Bool
 calm : Bool
 pn : List (Addr × Obj)
 xe : Value -> Shared -> Prop
def frs (l : List Env) : List Addr := l.filterMap (·.frame)
abbrev Cx.fs (X : Cx) : List Addr := frs X.outer
def Vis (sc : Scope) (x : Str) : Prop := sc.names.lookup x = some .local \/ sc.names.lookup x = some .cell \/ sc.names.lookup x = some .free
def Loc (sc : Scope) (x : Str) : Prop := sc.names.lookup x = some .local \/ sc.names.lookup x = some .cell
def Look (env : Env) (h : Heap) (m : Str -> Option Value) (x : Str) (u : Value) : Prop :=
 (env.kindOf x = some .local /\ m x = some u) \/ ((env.kindOf x = some .cell \/ env.kindOf x = some .free) /\ ∃ c,env.cells.lookup x = some c /\ h.IsCell c (some u))
structure Cx.Ok (X : Cx) : Prop where
 mod : Mod X.K X.mg X.base
 kind : X.env.scope.kind = .function
 glob : X.env.globals = mainGlobals
 blt : X.env.builtins = builtinsNs
 above : X.s₀.heap.objs.size <= X.env.locals
 inj : ∀ x y c,X.env.cells.lookup x = some c -> X.env.cells.lookup y = some c -> x = y
 has : ∀ x,(X.env.kindOf x = some .cell \/ X.env.kindOf x = some .free) -> ∃ c,X.env.cells.lookup x = some c
 cab : ∀ x c,X.fn x = true -> X.env.cells.lookup x = some c -> X.s₀.heap.objs.size <= c
 hd : X.calm = true -> X.A.handled = none
 frames : X.A.frames = some X.stack
 stk : X.stack = X.outer \/ (X.stack = X.env :: X.outer /\ X.env.frame = some X.env.locals)
 exf : ∀ b ∈ X.ex,b ≠ X.env.locals /\ ∀ x c,X.env.cells.lookup x = some c -> c ≠ b
 bs : ∀ b o,X.base.get? b = some o -> X.s₀.heap.get? b = some o /\ X.H₀ b = none
 bsz : X.base.objs.size <= X.s₀.heap.objs.size
 noex : ∀ b o,X.base.get? b = some o -> b ∉ X.ex
 exfs : ∀ b ∈ X.ex,b ∉ X.fs
 funs : X.s₀.heap.FunFrames X.base X.outer
 frf : ∀ b ∈ X.fs,X.H₀ b = none
structure Inv (X : Cx) (pins : List (Addr × Obj)) (σ : List (Option V)) (H : Hp) (s : Shared) : Prop where
 ok : X.Ok
 os : s.os = X.s₀.os
 bare : AllBare s.gens
 base : Un X.fs X.ex X.H₀ H X.s₀.heap s.heap
 loc : ∃ m,s.heap.Ns X.env.locals m /\ ∀ (i : Nat) (x : Str) (v : V),X.N[i]? = some x -> σ[i]? = some (some v) -> Vis X.env.scope x -> ∃ u,RelV v u /\ Look X.env s.heap m x u
 cell : ∀ x c,X.env.cells.lookup x = some c -> ∃ v,s.heap.IsCell c v
 free : H X.env.locals = none
 freeC : ∀ x c,X.env.cells.lookup x = some c -> H c = none
 pin : ∀ p ∈ X.pn ++ pins,s.heap.get? p.1 = some p.2 /\ H p.1 = none /\ p.1 ≠ X.env.locals /\ p.1 ∉ X.fs /\ ∀ v,p.2.data ≠ .cell v
 hok : HOk X.prog X.w H s.heap
 len : σ.length = X.N.length
section
variable {X : Cx} {pins : List (Addr × Obj)} {σ : List (Option V)} {H H' : Hp} {s : Shared} {h' : Heap}
theorem Cx.Ok.nofr (ok : X.Ok) {b : Addr} {o : Obj} (e : X.base.get? b = some o) : b ∉ X.fs := fun hb => by
 have := (ok.funs.mem hb).1
 rw [e] at this; cases this
theorem Inv.bs (I : Inv X pins σ H s) : ∀ b o,X.base.get? b = some o -> s.heap.get? b = some o /\ H b = none := fun b o e =>
 ⟨I.base.keep b o (I.ok.bs b o e).1 (I.ok.bs b o e).2 (I.ok.nofr e) (I.ok.noex b o e),I.base.free b o (I.ok.bs b o e).1 (I.ok.bs b o e).2 (I.ok.noex b o e)⟩
theorem Inv.bk (I : Inv X pins σ H s) : ∀ b o,X.base.get? b = some o -> s.heap.get? b = some o := fun b o e => (I.bs b o e).1
theorem Inv.mod (I : Inv X pins σ H s) : Mod X.K X.mg X.base := I.ok.mod
theorem Inv.kIn (I : Inv X pins σ H s) : X.K.In s.heap := I.ok.mod.kin.keeps I.bk
theorem Inv.fr (I : Inv X pins σ H s) : ∃ m,Fr X.base X.env.locals s.heap m :=
 let ⟨m,hn,_⟩ := I.loc
 ⟨m,hn,I.bk,Nat.le_trans I.ok.bsz I.ok.above⟩
theorem Inv.lt (I : Inv X pins σ H s) : X.env.locals < s.heap.objs.size := let ⟨_,hn,_⟩ := I.loc; hn.lt
theorem Inv.sz (I : Inv X pins σ H s) : X.s₀.heap.objs.size <= s.heap.objs.size := Nat.le_trans I.ok.above (Nat.le_of_lt I.lt)
theorem Inv.nofs (I : Inv X pins σ H s) {a : Addr} (h : s.heap.objs.size <= a) : a ∉ X.fs := fun hb => by
 obtain ⟨_,o,ho,_⟩ := I.ok.funs.mem hb
 exact absurd (Nat.lt_of_lt_of_le (Heap.lt_size ho) (Nat.le_trans I.sz h)) (Nat.lt_irrefl _)
theorem Inv.cne (I : Inv X pins σ H s) : ∀ x c,X.env.cells.lookup x = some c -> c ≠ X.env.locals := fun x c e z => by
 obtain ⟨v,o,ho,hd⟩ := I.cell x c e
 obtain ⟨m,⟨o',es,ep,ho',hd',_⟩,_⟩ := I.loc
 rw [z,ho'] at ho; cases ho; rw [hd'] at hd; cases hd
theorem Inv.funs (I : Inv X pins σ H s) : s.heap.FunFrames X.base X.outer := by
 have all : ∀ (l : List Env),(∀ b ∈ frs l,b ∈ X.fs) -> X.s₀.heap.FunFrames X.base l -> s.heap.FunFrames X.base l := by
  intro l
  induction l with
  | nil => intro _ _; trivial
  | cons env r ih =>
   intro hs hl
   obtain ⟨hk,⟨L,o,hf,hn,ho,hd⟩,hr⟩ := hl
   have hL : L ∈ X.fs := hs L (by unfold frs; rw [List.filterMap_cons,hf]; exact List.mem_cons_self)
   obtain ⟨sl,e⟩ := I.base.slot L o ho (I.ok.frf L hL) hL fun z => I.ok.exfs L z hL
   exact ⟨hk,⟨L,_,hf,hn,e,hd⟩,ih (fun b hb => hs b (by unfold frs; rw [List.filterMap_cons,hf]; exact List.mem_cons_of_mem _ hb)) hr⟩
 exact all X.outer (fun _ hb => hb) I.ok.funs
theorem Inv.stack (I : Inv X pins σ H s) : s.heap.FunFrames X.base X.stack := by
 rcases I.ok.stk with e | ⟨e,hf⟩
 ·rw [e]; exact I.funs
 ·rw [e]
  obtain ⟨m,hn,_⟩ := I.loc
  refine .cons (by rw [I.ok.kind]; decide) hf hn ?_ I.funs
  exact Heap.get?_none_of_le (Nat.le_trans I.ok.bsz I.ok.above)
theorem Inv.stkSub (I : Inv X pins σ H s) : ∀ b ∈ frs X.stack,b ∈ X.env.locals :: X.fs := fun b hb => by
 rcases I.ok.stk with e | ⟨e,hf⟩
 ·rw [e] at hb; exact List.mem_cons_of_mem _ hb
 ·rw [e] at hb
  unfold frs at hb
  rw [List.filterMap_cons,hf] at hb
  exact hb
theorem Inv.stkFree (I : Inv X pins σ H s) : ∀ b ∈ frs X.stack,H b = none := fun b hb => by
 rcases List.mem_cons.mp (I.stkSub b hb) with e | hb
 ·rw [e]; exact I.free
 ·obtain ⟨_,o,ho,_⟩ := I.ok.funs.mem hb
  exact I.base.free b o ho (I.ok.frf b hb) fun z => I.ok.exfs b z hb
theorem Inv.step {g' : Array GenState} {t' : Nat} {d' : Drawn} {ch : List Addr} (I : Inv X pins σ H s)
  (hch : ∀ b ∈ ch,(b ∈ X.ex \/ X.s₀.heap.objs.size <= b) /\ b ≠ X.env.locals /\ (∀ x c,X.env.cells.lookup x = some c -> c ≠ b) /\ ∀ p ∈ X.pn ++ pins,p.1 ≠ b)
  (keep : ∀ b o,b ≠ X.env.locals -> b ∉ X.fs -> b ∉ ch -> s.heap.get? b = some o -> H b = none -> h'.get? b = some o)
  (slot : ∀ b o,b ≠ X.env.locals -> b ∈ X.fs -> b ∉ ch -> s.heap.get? b = some o -> H b = none -> ∃ sl,h'.get? b = some { o with slots := sl }) (free : ∀ b o,b ∉ ch -> s.heap.get? b = some o -> H b = none -> H' b = none)
  (there : ∀ b o,b ∉ ch -> s.heap.get? b = some o -> ∃ o',h'.get? b = some o')
  (tups : ∀ b xs,H b = some (.tup xs) -> H' b = some (.tup xs)) (frzs : ∀ b o u,H b = some (.frz o u) -> H' b = some (.frz o u)) (tbls : ∀ b ps,H b = some (.tbl ps) -> ∃ more,H' b = some (.tbl (ps ++ more)))
  (ns : ∀ m,s.heap.Ns X.env.locals m -> h'.Ns X.env.locals m) (hok : HOk X.prog X.w H' h') (hg : AllBare g') :
  Inv X pins σ H' { s with heap := h',gens := g',drawn := d',toks := t' } := by
 have neL : ∀ b o,X.s₀.heap.get? b = some o -> b ≠ X.env.locals := fun b o e => Nat.ne_of_lt (Nat.lt_of_lt_of_le (Heap.lt_size e) I.ok.above)
 have neC : ∀ b o,X.s₀.heap.get? b = some o -> b ∉ X.ex -> b ∉ ch := fun b o e hx hb => by
  rcases (hch b hb).1 with z | z
  ·exact hx z
  ·exact absurd (Nat.lt_of_lt_of_le (Heap.lt_size e) z) (Nat.lt_irrefl _)
 have cellK : ∀ x c,X.env.cells.lookup x = some c -> ∀ v,s.heap.IsCell c v -> h'.IsCell c v := fun x c e v ⟨o,ho,hd⟩ => by
  have nch : c ∉ ch := fun z => (hch c z).2.2.1 x c e rfl
  by_cases hc : c ∈ X.fs
  ·obtain ⟨sl,q⟩ := slot c o (I.cne x c e) hc nch ho (I.freeC x c e)
   exact ⟨_,q,hd⟩
  ·exact ⟨o,keep c o (I.cne x c e) hc nch ho (I.freeC x c e),hd⟩
 refine ⟨I.ok,I.os,hg,⟨fun b o e n hb hx => ?_,fun b o e n hb hx => ?_,fun b o e n hx => ?_,fun b o e hx => ?_,fun b xs e => tups b xs (I.base.tups b xs e),fun b o xs e => frzs b o xs (I.base.frzs b o xs e),fun b ps e => ?_⟩,?_,fun x c e => ?_,?_,fun x c e => ?_,fun p hp => ?_,hok,I.len⟩
 ·exact keep b o (neL b o e) hb (neC b o e hx) (I.base.keep b o e n hb hx) (I.base.free b o e n hx)
 ·obtain ⟨sl,e1⟩ := I.base.slot b o e n hb hx
  obtain ⟨sl',e2⟩ := slot b _ (neL b o e) hb (neC b o e hx) e1 (I.base.free b o e n hx)
  exact ⟨sl',e2⟩
 ·obtain ⟨o',e1⟩ := I.base.there b o e hx
  exact free b o' (neC b o e hx) e1 (I.base.free b o e n hx)
 ·obtain ⟨o',e1⟩ := I.base.there b o e hx
  exact there b o' (neC b o e hx) e1
 ·obtain ⟨m1,e1⟩ := I.base.tbls b ps e
  obtain ⟨m2,e2⟩ := tbls b _ e1
  exact ⟨m1 ++ m2,by rw [e2,Array.append_assoc]⟩
 ·obtain ⟨m,hn,hl⟩ := I.loc
  refine ⟨m,ns m hn,fun i x v e1 e2 e3 => ?_⟩
  obtain ⟨u,r,l⟩ := hl i x v e1 e2 e3
  refine ⟨u,r,?_⟩
  rcases l with l | ⟨k,c,e,z⟩
  ·exact .inl l
  ·exact .inr ⟨k,c,e,cellK x c e _ z⟩
 ·obtain ⟨v,z⟩ := I.cell x c e
  exact ⟨v,cellK x c e v z⟩
 ·obtain ⟨m,⟨o,_,_,ho,_⟩,_⟩ := I.loc
  exact free _ o (fun z => (hch _ z).2.1 rfl) ho I.free
 ·obtain ⟨v,o,ho,hd⟩ := I.cell x c e
  exact free c o (fun z => (hch c z).2.2.1 x c e rfl) ho (I.freeC x c e)
 ·obtain ⟨e,n,ne,nf,d⟩ := I.pin p hp
  have nch : p.1 ∉ ch := fun z => (hch p.1 z).2.2.2 p hp rfl
  exact ⟨keep p.1 p.2 ne nf nch e n,free p.1 p.2 nch e n,ne,nf,d⟩
theorem Inv.un {t' : Nat} (I : Inv X pins σ H s) (u : Un X.fs [] H H' s.heap h') (hok : HOk X.prog X.w H' h') : Inv X pins σ H' { s with heap := h',toks := t' } := by
 obtain ⟨m,⟨o,es,ep,ho,r⟩,_⟩ := id I.loc
 obtain ⟨sl,hL⟩ := u.any ho I.free (by simp)
 exact I.step (g' := s.gens) (d' := s.drawn) (ch := []) (fun _ z => nomatch z) (fun b o _ hb _ e n => u.keep b o e n hb (by simp)) (fun b o _ hb _ e n => u.slot b o e n hb (by simp)) (fun b o _ e n => u.free b o e n (by simp)) (fun b o _ e => u.there b o e (by simp)) u.tups u.frzs u.tbls (fun m' hm => by
  obtain ⟨o',es',ep',ho',r'⟩ := hm
  rw [ho] at ho'; cases ho'
  exact ⟨_,es',ep',hL,r'⟩) hok I.bare
theorem Inv.call {g' : Array GenState} {t' : Nat} {d' : Drawn} {ch : List Addr} (I : Inv X pins σ H s) (u : Un (frs X.stack) ch H H' s.heap h') (hok : HOk X.prog X.w H' h') (hg : AllBare g')
  (hch : ∀ b ∈ ch,(b ∈ X.ex \/ X.s₀.heap.objs.size <= b) /\ b ≠ X.env.locals /\ (∀ x c,X.env.cells.lookup x = some c -> c ≠ b) /\ ∀ p ∈ X.pn ++ pins,p.1 ≠ b) :
  Inv X pins σ H' { s with heap := h',gens := g',drawn := d',toks := t' } := by
 obtain ⟨m,⟨o,es,ep,ho,r⟩,_⟩ := id I.loc
 obtain ⟨sl,hL⟩ := u.any ho I.free fun z => (hch _ z).2.1 rfl
 exact I.step (ch := ch) hch (fun b o hL hb hc e n => u.keep b o e n (fun z => (List.mem_cons.mp (I.stkSub b z)).elim hL hb) hc) (fun b o _ _ hc e n => u.any e n hc) (fun b o hc e n => u.free b o e n hc) (fun b o hc e => u.there b o e hc) u.tups u.frzs u.tbls (fun m' hm => by
  obtain ⟨o',es',ep',ho',r'⟩ := hm
  rw [ho] at ho'; cases ho'
  exact ⟨_,es',ep',hL,r'⟩) hok hg
theorem Inv.turned {t' : Nat} {it : Addr} (I : Inv X pins σ H s) (k : ∀ b o,b ≠ it -> s.heap.get? b = some o -> h'.get? b = some o) (hn : H it = none) (hL : it ≠ X.env.locals)
  (h1 : it ∈ X.ex \/ X.s₀.heap.objs.size <= it) (h2 : ∀ x c,X.env.cells.lookup x = some c -> c ≠ it) (h3 : ∀ p ∈ X.pn ++ pins,p.1 ≠ it) : Inv X pins σ H { s with heap := h',toks := t' } := by
 have nit : ∀ b u,H b = some u -> b ≠ it := fun b u e z => by rw [z,hn] at e; cases e
 refine I.step (g' := s.gens) (d' := s.drawn) (ch := [it]) (fun b hb => ?_) (fun b o _ _ hc e _ => k b o (fun z => hc (by simp [z])) e) (fun b o _ _ hc e _ => ⟨o.slots,k b o (fun z => hc (by simp [z])) e⟩) (fun _ _ _ _ n => n)
  (fun b o hc e => ⟨o,k b o (fun z => hc (by simp [z])) e⟩) (fun _ _ e => e) (fun _ _ _ e => e) (fun b ps e => ⟨#[],by rw [e]; simp⟩) (fun m hm => ?_) (fun b u e => ?_) I.bare
 ·have e : b = it := by simpa using hb
  subst e
  exact ⟨h1,hL,h2,h3⟩
 ·obtain ⟨o,es,ep,ho,r⟩ := hm
  exact ⟨o,es,ep,k _ o (Ne.symm hL) ho,r⟩
 ·refine (I.hok b u e).stay (fun c v hc q => k c v ?_ q) (fun _ q => q) fun _ _ q => q
  rcases hc with z | z
  ·rw [z]; exact nit b u e
  ·exact nit c _ z
theorem Inv.tok (I : Inv X pins σ H s) (t : Nat) : Inv X pins σ H { s with toks := t } := I.un (h' := s.heap) (t' := t) Un.refl I.hok
theorem Inv.kept {t' : Nat} (I : Inv X pins σ H s) (k : ∀ b u,s.heap.get? b = some u -> h'.get? b = some u) : Inv X pins σ H { s with heap := h',toks := t' } := I.un (Un.kept k) (I.hok.kept k)
theorem Inv.laid {a : Addr} {o : HO} {t' : Nat} (I : Inv X pins σ H s) (k : ∀ b u,s.heap.get? b = some u -> h'.get? b = some u) (hp : s.heap.objs.size <= a) (new : ObjOk X.prog X.w (upd H a o) h' a o) :
  Inv X pins σ (upd H a o) { s with heap := h',toks := t' } := I.un (Un.laid k hp (I.hok.fresh hp)) (I.hok.laid k hp new)
theorem Inv.write {x e : Addr} {o : HO} {t' : Nat} (I : Inv X pins σ H s) (mu : Mut (H x)) (he : e = x \/ H e = some (.own x)) (k : ∀ b u,b ≠ e -> s.heap.get? b = some u -> h'.get? b = some u) (heo : ∃ u,h'.get? e = some u)
  (new : ObjOk X.prog X.w (upd H x o) h' x o) : Inv X pins σ (upd H x o) { s with heap := h',toks := t' } := I.un (Un.write mu he k heo) (I.hok.write mu he k heo new)
theorem Inv.weak {σ' : List (Option V)} (I : Inv X pins σ H s) (hl : σ'.length = σ.length) (w : ∀ (i : Nat) v,σ'[i]? = some (some v) -> σ[i]? = some (some v)) : Inv X pins σ' H s :=
 ⟨I.ok,I.os,I.bare,I.base,let ⟨m,hn,hl'⟩ := I.loc; ⟨m,hn,fun i x v e1 e2 e3 => hl' i x v e1 (w i v e2) e3⟩,I.cell,I.free,I.freeC,I.pin,I.hok,hl.trans I.len⟩
theorem Inv.pins_of {pins' : List (Addr × Obj)} (I : Inv X pins σ H s) (h : ∀ p ∈ pins',s.heap.get? p.1 = some p.2 /\ H p.1 = none /\ p.1 ≠ X.env.locals /\ p.1 ∉ X.fs /\ ∀ v,p.2.data ≠ .cell v) : Inv X pins' σ H s :=
 ⟨I.ok,I.os,I.bare,I.base,I.loc,I.cell,I.free,I.freeC,fun p hp => (List.mem_append.mp hp).elim (fun z => I.pin p (List.mem_append_left _ z)) (h p),I.hok,I.len⟩
theorem nodup_ix {N : List Str} (hN : N.Nodup) {i j : Nat} {x : Str} (a : N[i]? = some x) (b : N[j]? = some x) : i = j := by
 obtain ⟨h1,e1⟩ := List.getElem?_eq_some_iff.mp a
 obtain ⟨h2,e2⟩ := List.getElem?_eq_some_iff.mp b
 exact (List.getElem_inj hN).mp (e1.trans e2.symm)
theorem store_ok2 {M : Model} {A : Around} {E : Value -> Shared -> Prop} {i : Nat} {x : Str} {v : V} {u : Value} {Q : Unit -> Shared -> Prop} (I : Inv X pins σ H s) (hN : X.N.Nodup) (hi : X.N[i]? = some x) (hx : Loc X.env.scope x) (r : RelV v u)
  (h : ∀ s',Inv X pins (σ.set i (some v)) H s' -> (∃ a,Heap.SameBut a s.heap s'.heap /\ (a = X.env.locals \/ X.env.cells.lookup x = some a)) -> Q () s') (hf : X.fn x = true \/ X.env.scope.names.lookup x = some .local := by first | exact .inl rfl | exact .inr rfl | assumption) : wpAny M A (storeName X.env x u) Q E s := by
 obtain ⟨m,hn,hl⟩ := id I.loc
 have hcls : (X.env.scope.kind == .class || (X.env.scope.kind == .module && X.env.locals != X.env.globals)) = false := by rw [I.ok.kind]; rfl
 have hiσ : i < σ.length := by rw [I.len]; exact (List.getElem?_eq_some_iff.mp hi).1
 have cne := I.cne
 have tracked : ∀ {a : Addr} {h' : Heap},(∃ o,s.heap.get? a = some o /\ H a = none) -> Heap.SameBut a s.heap h' -> HOk X.prog X.w H h' := fun {a h'} ha hs b ob e => by
  obtain ⟨_,_,hfree⟩ := ha
  refine (I.hok b ob e).stay (fun c w' hc q => (hs.2 c ?_).trans q) (fun _ q => q) fun _ _ q => q
  rintro rfl
  rcases hc with rfl | hc
  ·rw [hfree] at e; cases e
  ·rw [hfree] at hc; cases hc
 rcases hx with hk | hk
 ·refine wpAny_storeName_local hk hn (fun h' hn' hs => ?_) hcls
  obtain ⟨oL,_,_,hoL,_⟩ := id hn
  refine h _ ⟨I.ok,I.os,I.bare,⟨fun b o e n hb hx => ?_,fun b o e n hb hx => ?_,I.base.free,fun b o e hx => ?_,I.base.tups,I.base.frzs,I.base.tbls⟩,⟨_,hn',fun j y v' e1 e2 e3 => ?_⟩,fun y c e => ?_,I.free,I.freeC,fun p hp => ?_,tracked ⟨oL,hoL,I.free⟩ hs,by simpa using I.len⟩ ⟨_,hs,.inl rfl⟩
  ·exact (hs.2 b (Nat.ne_of_lt (Nat.lt_of_lt_of_le (Heap.lt_size e) I.ok.above))).trans (I.base.keep b o e n hb hx)
  ·obtain ⟨sl,e1⟩ := I.base.slot b o e n hb hx
   exact ⟨sl,(hs.2 b (Nat.ne_of_lt (Nat.lt_of_lt_of_le (Heap.lt_size e) I.ok.above))).trans e1⟩
  ·obtain ⟨o',e1⟩ := I.base.there b o e hx
   exact ⟨o',(hs.2 b (Nat.ne_of_lt (Nat.lt_of_lt_of_le (Heap.lt_size e) I.ok.above))).trans e1⟩
  ·by_cases hj : j = i
   ·subst hj
    rw [hi] at e1; cases e1
    rw [List.getElem?_set_self hiσ] at e2
    cases e2
    exact ⟨u,r,.inl ⟨hk,by simp⟩⟩
   ·rw [List.getElem?_set_ne (Ne.symm hj)] at e2
    obtain ⟨u',r',q⟩ := hl j y v' e1 e2 e3
    refine ⟨u',r',?_⟩
    rcases q with ⟨k,e⟩ | ⟨k,c,e,z⟩
    ·refine .inl ⟨k,?_⟩
     have : y ≠ x := fun e => hj (nodup_ix hN e1 (e ▸ hi))
     simp [this,e]
    ·exact .inr ⟨k,c,e,z.sameBut hs (cne y c e)⟩
  ·obtain ⟨w',z⟩ := I.cell y c e
   exact ⟨w',z.sameBut hs (cne y c e)⟩
  ·obtain ⟨e,n,ne,nf,d⟩ := I.pin p hp
   exact ⟨(hs.2 p.1 ne).trans e,n,ne,nf,d⟩
 ·have hfn : X.fn x = true := by
   rcases hf with z | z
   ·exact z
   ·rw [z] at hk; cases hk
  obtain ⟨c,hc⟩ := I.ok.has x (.inl hk)
  obtain ⟨w',z⟩ := I.cell x c hc
  refine wpAny_storeName_cell I.ok.kind hk hc z (fun h' hc' hs => ?_)
  obtain ⟨oc,hoc,hocd⟩ := id z
  refine h { s with heap := h' } ⟨I.ok,I.os,I.bare,⟨fun b o e n hb hx => ?_,fun b o e n hb hx => ?_,I.base.free,fun b o e hx => ?_,I.base.tups,I.base.frzs,I.base.tbls⟩,⟨m,hn.sameBut hs (Ne.symm (cne x c hc)),fun j y v' e1 e2 e3 => ?_⟩,fun y c' e => ?_,I.free,I.freeC,fun p hp => ?_,tracked ⟨oc,hoc,I.freeC x c hc⟩ hs,by simpa using I.len⟩ ⟨c,hs,.inr hc⟩
  ·exact (hs.2 b (Nat.ne_of_lt (Nat.lt_of_lt_of_le (Heap.lt_size e) (I.ok.cab x c hfn hc)))).trans (I.base.keep b o e n hb hx)
  ·obtain ⟨sl,e1⟩ := I.base.slot b o e n hb hx
   exact ⟨sl,(hs.2 b (Nat.ne_of_lt (Nat.lt_of_lt_of_le (Heap.lt_size e) (I.ok.cab x c hfn hc)))).trans e1⟩
  ·obtain ⟨o',e1⟩ := I.base.there b o e hx
   exact ⟨o',(hs.2 b (Nat.ne_of_lt (Nat.lt_of_lt_of_le (Heap.lt_size e) (I.ok.cab x c hfn hc)))).trans e1⟩
  ·by_cases hj : j = i
   ·subst hj
    rw [hi] at e1; cases e1
    rw [List.getElem?_set_self hiσ] at e2
    cases e2
    exact ⟨u,r,.inr ⟨.inl hk,c,hc,hc'⟩⟩
   ·rw [List.getElem?_set_ne (Ne.symm hj)] at e2
    obtain ⟨u',r',q⟩ := hl j y v' e1 e2 e3
    refine ⟨u',r',?_⟩
    rcases q with q | ⟨k,c',e,z'⟩
    ·exact .inl q
    ·refine .inr ⟨k,c',e,z'.sameBut hs ?_⟩
     rintro rfl
     exact hj (nodup_ix hN e1 (I.ok.inj _ _ _ e hc ▸ hi))
  ·by_cases hcc : c' = c
   ·subst hcc; exact ⟨_,hc'⟩
   ·obtain ⟨w2,z2⟩ := I.cell y c' e
    exact ⟨w2,z2.sameBut hs hcc⟩
  ·obtain ⟨e,n,ne,nf,d⟩ := I.pin p hp
   refine ⟨(hs.2 p.1 ?_).trans e,n,ne,nf,d⟩
   intro q
   rw [q,hoc] at e
   have q' : oc = p.2 := Option.some.inj e
   exact d w' (by rw [<- q']; exact hocd)
theorem store_ok {M : Model} {A : Around} {E : Value -> Shared -> Prop} {i : Nat} {x : Str} {v : V} {u : Value} {Q : Unit -> Shared -> Prop} (I : Inv X pins σ H s) (hN : X.N.Nodup) (hi : X.N[i]? = some x) (hx : Loc X.env.scope x) (r : RelV v u)
  (h : ∀ s',Inv X pins (σ.set i (some v)) H s' -> Q () s') (hf : X.fn x = true \/ X.env.scope.names.lookup x = some .local := by first | exact .inl rfl | exact .inr rfl | assumption) : wpAny M A (storeName X.env x u) Q E s :=
 store_ok2 I hN hi hx r (fun s' I' _ => h s' I') hf
theorem Inv.call' {s' : Shared} {ch : List Addr} (I : Inv X pins σ H s) (ho : s'.os = s.os) (u : Un (frs X.stack) ch H H' s.heap s'.heap) (hok : HOk X.prog X.w H' s'.heap) (hg : AllBare s'.gens)
  (hch : ∀ b ∈ ch,(b ∈ X.ex \/ X.s₀.heap.objs.size <= b) /\ b ≠ X.env.locals /\ (∀ x c,X.env.cells.lookup x = some c -> c ≠ b) /\ ∀ p ∈ X.pn ++ pins,p.1 ≠ b) : Inv X pins σ H' s' := by
 obtain ⟨h',g',d',t',o'⟩ := s'
 have e : o' = s.os := ho
 subst e
 exact I.call (g' := g') (t' := t') (d' := d') u hok hg hch
end
abbrev XK := Value -> Option Addr -> Hp -> Prop
abbrev St := List (Option V)
abbrev VK := V -> Hp -> Prop
abbrev TE := St -> Hp -> VK -> Prop
abbrev TT := St -> Hp -> (Bool -> Hp -> Prop) -> Prop
abbrev TA := St -> Hp -> (List V -> Hp -> Prop) -> Prop
structure Ends where
 nx : St -> Hp -> Prop
 rt : VK
 bk : St -> Hp -> Prop := fun _ _ => False
 ct : St -> Hp -> Prop := fun _ _ => False
abbrev TS := Ends -> St -> Hp -> Prop
def EP (X : Cx) (pins : List (Addr × Obj)) (σ : St) (Q : VK) (u : Value) (s' : Shared) : Prop := ∃ v H',Inv X pins σ H' s' /\ RelV v u /\ Q v H'
def TP (X : Cx) (pins : List (Addr × Obj)) (σ : St) (Q : Bool -> Hp -> Prop) (b : Bool) (s' : Shared) : Prop := ∃ H',Inv X pins σ H' s' /\ Q b H'
def AP (X : Cx) (pins : List (Addr × Obj)) (σ : St) (Q : List V -> Hp -> Prop) (us : List Value) (s' : Shared) : Prop := ∃ vs H',Inv X pins σ H' s' /\ Vals vs us /\ Q vs H'
def SP (X : Cx) (pins : List (Addr × Obj)) (D : Ends) (f : Flow) (s' : Shared) : Prop :=
 match f with
 | .next => ∃ σ' H',Inv X pins σ' H' s' /\ D.nx σ' H'
 | .brk => ∃ σ' H',Inv X pins σ' H' s' /\ D.bk σ' H'
 | .cont => ∃ σ' H',Inv X pins σ' H' s' /\ D.ct σ' H'
 | .ret u => ∃ v σ' H',Inv X pins σ' H' s' /\ RelV v u /\ D.rt v H'
def PE (X : Cx) (e : Expr) (t : TE) : Prop :=
 ∀ (pins : List (Addr × Obj)) (s : Shared) (σ : St) (H : Hp) (Q : VK),Inv X pins σ H s -> t σ H Q -> wpAny (model X.prog X.w) X.A (eval e X.env) (EP X pins σ Q) X.xe s
def PT (X : Cx) (e : Expr) (t : TT) : Prop :=
 ∀ (pins : List (Addr × Obj)) (s : Shared) (σ : St) (H : Hp) (Q : Bool -> Hp -> Prop),Inv X pins σ H s -> t σ H Q -> wpAny (model X.prog X.w) X.A (isTrue e X.env (eval e X.env)) (TP X pins σ Q) X.xe s
def PW (X : Cx) (e : Expr) (t : TT) : Prop :=
 ∀ (whole : Sem Value) (pins : List (Addr × Obj)) (s : Shared) (σ : St) (H : Hp) (Q : Bool -> Hp -> Prop),Inv X pins σ H s -> t σ H Q -> wpAny (model X.prog X.w) X.A (isTrue e X.env whole) (TP X pins σ Q) X.xe s
theorem PW.pt {X : Cx} {e : Expr} {t : TT} (h : PW X e t) : PT X e t := h _
def PA (X : Cx) (es : List Expr) (t : TA) : Prop :=
 ∀ (pos : Pos) (pins : List (Addr × Obj)) (s : Shared) (σ : St) (H : Hp) (Q : List V -> Hp -> Prop),Inv X pins σ H s -> t σ H Q -> wpAny (model X.prog X.w) X.A (spliced (backTo pos (starEach es X.env))) (AP X pins σ Q) X.xe s
def PS (X : Cx) (st : Stmt) (t : TS) : Prop :=
 ∀ (pins : List (Addr × Obj)) (s : Shared) (σ : St) (H : Hp) (D : Ends),Inv X pins σ H s -> t D σ H -> wpAny (model X.prog X.w) X.A (exec st X.env) (SP X pins D) X.xe s
def PSs (X : Cx) (st : List Stmt) (t : TS) : Prop :=
 ∀ (pins : List (Addr × Obj)) (s : Shared) (σ : St) (H : Hp) (D : Ends),Inv X pins σ H s -> t D σ H -> wpAny (model X.prog X.w) X.A (execs st X.env) (SP X pins D) X.xe s
theorem thn {α : Type} {t : Sem α} {Q Q' : α -> Shared -> Prop} {M : Model} {A : Around} {E : Value -> Shared -> Prop} {s : Shared} (h : wpAny M A t Q E s) (hQ : ∀ a s,Q a s -> Q' a s) : wpAny M A t Q' E s := wpAny_mono h hQ fun _ _ x => x
end L2
namespace L2
open PySem PySem.Spec PyProof.Rows
section
variable {X : Cx}
theorem bin {a b : Expr} {ta tb : TE} (ha : PE X a ta) (hb : PE X b tb) {pins : List (Addr × Obj)} {s : Shared} {σ : St} {H : Hp} {R : V -> V -> Hp -> Prop} (I : Inv X pins σ H s) (h : ta σ H fun x H1 => tb σ H1 fun y H2 => R x y H2)
  {α : Type} {Q : α -> Shared -> Prop} {f : Value -> Value -> Sem α}
  (hf : ∀ v u s2 x y H2,Inv X pins σ H2 s2 -> RelV x v -> RelV y u -> R x y H2 -> wpAny (model X.prog X.w) X.A (f v u) Q X.xe s2) :
  wpAny (model X.prog X.w) X.A (eval a X.env) (fun v s₁ => wpAny (model X.prog X.w) X.A (eval b X.env) (fun u s₂ => wpAny (model X.prog X.w) X.A (f v u) Q X.xe s₂) X.xe s₁) X.xe s := by
 refine thn (ha pins s σ H _ I h) fun v s1 ⟨x,H1,I1,r1,q1⟩ => ?_
 refine thn (hb pins s1 σ H1 _ I1 q1) fun u s2 ⟨y,H2,I2,r2,q2⟩ => ?_
 exact hf v u s2 x y H2 I2 r1 r2 q2
def tVar (i : Nat) : TE := fun σ H Q => ∃ v,σ[i]? = some (some v) /\ Q v H
def tC (v : V) : TE := fun _ H Q => Q v H
theorem pe_var {i : Nat} {x : Str} {pos : Pos} (hN : X.N[i]? = some x) (hv : Vis X.env.scope x) (hd : (x == ("__debug__" : Str)) = false := by decide) (hcd : (x == ("__classdict__" : Str)) = false := by decide) : PE X (.Name x pos) (tVar i) := by
 intro pins s σ H Q I h
 obtain ⟨v,e,h⟩ := h
 obtain ⟨m,hn,hl⟩ := I.loc
 obtain ⟨u,r,l⟩ := hl i x v hN e hv
 have fin : EP X pins σ Q u s := ⟨v,H,I,r,h⟩
 rcases l with ⟨hk,hm⟩ | ⟨hk,c,hc,hcell⟩
 ·exact wpAny_Name (wpAny_loadName_local I.ok.kind hk hn hm fin) hd
 ·rcases hk with hk | hk
  ·exact wpAny_Name (wpAny_loadName_cell I.ok.kind hk hc hcell fin) hd
  ·exact wpAny_Name (wpAny_loadName_free I.ok.kind hk hc hcell fin hcd) hd
theorem pe_int {i j pos} : PE X (.Constant (.int i) j pos) (tC (.int i)) := fun _ _ _ H _ I h => wpAny_Constant_int ⟨.int i,H,I.tok _,⟨_,rfl⟩,h⟩
theorem pe_bl {b j pos} : PE X (.Constant (.bool b) j pos) (tC (.bl b)) := fun _ _ _ H _ I h => Constant_bool ⟨.bl b,H,I,rfl,h⟩
theorem pe_non {j pos} : PE X (.Constant .none j pos) (tC .non) := fun _ _ _ H _ I h => Constant_none ⟨.non,H,I,rfl,h⟩
theorem pe_str {x j pos} : PE X (.Constant (.str x) j pos) (tC (.str x)) := fun _ _ _ H _ I h => Calls.Constant_str ⟨.str x,H,I.tok _,⟨_,rfl⟩,h⟩
def Gl (X : Cx) (x : Str) : Prop := X.env.kindOf x = some .globalImplicit
theorem ld_glob {E : Value -> Shared -> Prop} {pins : List (Addr × Obj)} {s : Shared} {σ : St} {H : Hp} {x : Str} {u : Value} {pos : Pos} {Q : Value -> Shared -> Prop} (I : Inv X pins σ H s) (hg : Gl X x) (hm : X.mg x = some u) (h : Q u s)
  (hd : (x == ("__debug__" : Str)) = false := by decide) : wpAny (model X.prog X.w) X.A (eval (.Name x pos) X.env) Q E s :=
 Calls.Name_function_global I.ok.kind hg (Calls.loadGlobal_global (by rw [I.ok.glob]; exact I.mod.glob.keeps I.bk) hm h) hd
theorem ld_blt {E : Value -> Shared -> Prop} {pins : List (Addr × Obj)} {s : Shared} {σ : St} {H : Hp} {x : Str} {u : Value} {pos : Pos} {Q : Value -> Shared -> Prop} (I : Inv X pins σ H s) (hg : Gl X x) (hm : X.mg x = none) (hv : bootBuiltins x = some u) (h : Q u s)
  (hn : x ≠ "__name__" := by decide) (hd : (x == ("__debug__" : Str)) = false := by decide) : wpAny (model X.prog X.w) X.A (eval (.Name x pos) X.env) Q E s := by
 obtain ⟨mb,h1,h2⟩ := I.mod.blt
 exact Calls.Name_function_global I.ok.kind hg (Calls.loadGlobal_builtin (by rw [I.ok.glob]; exact I.mod.glob.keeps I.bk) hm (by rw [I.ok.blt]; exact h1.keeps I.bk) ((h2 x hn).trans hv) h) hd
theorem pe_glob {x : Str} {v : V} {u : Value} {pos : Pos} (hg : Gl X x) (hm : X.mg x = some u) (r : RelV v u) (hd : (x == ("__debug__" : Str)) = false := by decide) : PE X (.Name x pos) (tC v) :=
 fun _ _ _ H _ I h => ld_glob I hg hm ⟨v,H,I,r,h⟩ hd
theorem pe_bltn {x : Str} {v : V} {u : Value} {pos : Pos} (hg : Gl X x) (hm : X.mg x = none) (hv : bootBuiltins x = some u) (r : RelV v u) (hn : x ≠ "__name__" := by decide) (hd : (x == ("__debug__" : Str)) = false := by decide) : PE X (.Name x pos) (tC v) :=
 fun _ _ _ H _ I h => ld_blt I hg hm hv ⟨v,H,I,r,h⟩ hn hd
def t2I (ta tb : TE) (k : Int -> Int -> Hp -> Prop) : St -> Hp -> Prop := fun σ H => ta σ H fun x H1 => tb σ H1 fun y H2 => ∃ i j,x = .int i /\ y = .int j /\ k i j H2
def tAdd (ta tb : TE) : TE := fun σ H Q => t2I ta tb (fun i j H2 => Q (.int (i + j)) H2) σ H
def tSub (ta tb : TE) : TE := fun σ H Q => t2I ta tb (fun i j H2 => Q (.int (i - j)) H2) σ H
def tMul (ta tb : TE) : TE := fun σ H Q => t2I ta tb (fun i j H2 => (-(2 ^ 64) < i /\ i < 2 ^ 64) /\ Q (.int (i * j)) H2) σ H
variable {a b : Expr} {ta tb : TE} {pos : Pos}
def PC (X : Cx) (op : CmpOp) (a b : Expr) (t : TE) : Prop :=
 ∀ (pins : List (Addr × Obj)) (s : Shared) (σ : St) (H : Hp) (Q : VK),Inv X pins σ H s -> t σ H Q ->
  wpAny (model X.prog X.w) X.A (eval a X.env) (fun v s₁ => wpAny (model X.prog X.w) X.A (eval b X.env) (fun u s₂ => wpAny (model X.prog X.w) X.A (compareOp op v u) (EP X pins σ Q) X.xe s₂) X.xe s₁) X.xe s
def tCmp (p : Int -> Int -> Bool) (ta tb : TE) : TE := fun σ H Q => t2I ta tb (fun i j H2 => Q (.bl (p i j)) H2) σ H
abbrev tLt : TE -> TE -> TE := tCmp fun i j => decide (i < j)
abbrev tLe : TE -> TE -> TE := tCmp fun i j => decide (i <= j)
abbrev tGt : TE -> TE -> TE := tCmp fun i j => decide (j < i)
abbrev tGe : TE -> TE -> TE := tCmp fun i j => decide (j <= i)
abbrev tEqI : TE -> TE -> TE := tCmp fun i j => decide (i = j)
abbrev tNeI : TE -> TE -> TE := tCmp fun i j => !decide (i = j)
def tIsN (ta : TE) : TE := fun σ H Q => ta σ H fun x H1 => Q (.bl (decide (x = .non))) H1
def tNotN (ta : TE) : TE := fun σ H Q => ta σ H fun x H1 => Q (.bl (!decide (x = .non))) H1
def tB (t : TE) : TT := fun σ H Q => t σ H fun x H1 => ∃ c,x = .bl c /\ Q c H1
theorem pt_cmp {op : CmpOp} {t : TE} (h : PC X op a b t) (h1 : behindInMarks op b = false := by first | exact nobehind _ (by decide) (by decide) | rfl) : PT X (.Compare a [op] [b] pos) (tB t) := by
 intro pins s σ H Q I hw
 refine wpAny_isTrue_Compare1 (thn (h pins s σ H _ I hw) fun v s1 h1 => thn h1 fun u s2 h2 => thn h2 fun c s3 ⟨x,H1,I1,r1,q1⟩ => ?_) h1
 obtain ⟨d,rfl,q⟩ := q1
 cases r1
 exact wpAny_truthy_bool ⟨H1,I1,q⟩
theorem pt_val {e : Expr} {t : TE} (h : PE X e t) (he : ∀ whole,isTrue e X.env whole = (do let v <- whole; standAt e.pos; holding [v] (truthy v)) := by intro _; rfl) : PT X e (tB t) := by
 intro pins s σ H Q I hw
 refine isTrue_plain (thn (h pins s σ H _ I hw) fun v s1 ⟨x,H1,I1,r1,q1⟩ => ?_) (he _)
 obtain ⟨d,rfl,q⟩ := q1
 cases r1
 exact wpAny_truthy_bool ⟨H1,I1,q⟩
variable {tA tB' : TT} {rest : List Expr}
def tAnd (t u : TT) : TT := fun σ H Q => t σ H fun c H1 => if c = true then u σ H1 Q else Q false H1
def tOr (t u : TT) : TT := fun σ H Q => t σ H fun c H1 => if c = true then Q true H1 else u σ H1 Q
def tNot (t : TT) : TT := fun σ H Q => t σ H fun c H1 => Q (!c) H1
theorem pw_and1 (ha : PT X a tA) : PW X (.BoolOp .And [a] pos) tA := by
 intro wh pins s σ H Q I h
 refine isTrue_and (thn (ha pins s σ H Q I h) fun c s1 e => ?_)
 cases c with
 | true => exact isTrue_and_nil e
 | false => exact e
theorem pw_or1 (ha : PT X a tA) : PW X (.BoolOp .Or [a] pos) tA := by
 intro wh pins s σ H Q I h
 refine isTrue_or (thn (ha pins s σ H Q I h) fun c s1 e => ?_)
 cases c with
 | false => exact isTrue_or_nil e
 | true => exact e
theorem pw_and (ha : PT X a tA) (hb : PW X (.BoolOp .And (b :: rest) pos) tB') : PW X (.BoolOp .And (a :: b :: rest) pos) (tAnd tA tB') := by
 intro wh pins s σ H Q I h
 refine isTrue_and (thn (ha pins s σ H _ I h) fun c s1 ⟨H1,I1,q1⟩ => ?_)
 cases c with
 | true => exact hb wh pins s1 σ H1 Q I1 q1
 | false => exact ⟨H1,I1,q1⟩
theorem pw_or (ha : PT X a tA) (hb : PW X (.BoolOp .Or (b :: rest) pos) tB') : PW X (.BoolOp .Or (a :: b :: rest) pos) (tOr tA tB') := by
 intro wh pins s σ H Q I h
 refine isTrue_or (thn (ha pins s σ H _ I h) fun c s1 ⟨H1,I1,q1⟩ => ?_)
 cases c with
 | true => exact ⟨H1,I1,q1⟩
 | false => exact hb wh pins s1 σ H1 Q I1 q1
theorem pt_not (ha : PT X a tA) : PT X (.UnaryOp .Not a pos) (tNot tA) := by
 intro pins s σ H Q I h
 exact isTrue_not (ha pins s σ H (fun c H1 => Q (!c) H1) I h)
def tAndV (ta tb : TE) : TE := fun σ H Q => ta σ H fun x H1 => ∃ c,x = .bl c /\ if c = true then tb σ H1 Q else Q (.bl false) H1
def tOrV (ta tb : TE) : TE := fun σ H Q => ta σ H fun x H1 => ∃ c,x = .bl c /\ if c = true then Q (.bl true) H1 else tb σ H1 Q
def tNotV (ta : TE) : TE := fun σ H Q => ta σ H fun x H1 => ∃ c,x = .bl c /\ Q (.bl (!c)) H1
theorem pe_one {op} {t : TE} (h : PE X a t) : PE X (.BoolOp op [a] pos) t := fun pins s σ H Q I hw => BoolOp_one (h pins s σ H Q I hw)
theorem pe_and (ha : PE X a ta) (hb : PE X (.BoolOp .And (b :: rest) pos) tb) : PE X (.BoolOp .And (a :: b :: rest) pos) (tAndV ta tb) := by
 intro pins s σ H Q I h
 refine BoolOp_and (thn (ha pins s σ H _ I h) fun v s1 ⟨x,H1,I1,r1,q1⟩ => ?_)
 obtain ⟨c,rfl,q1⟩ := q1
 cases r1
 refine wpAny_truthy_bool ?_
 cases c with
 | true => exact hb pins s1 σ H1 Q I1 q1
 | false => exact ⟨.bl false,H1,I1,rfl,q1⟩
theorem pe_not (ha : PE X a ta) : PE X (.UnaryOp .Not a pos) (tNotV ta) := by
 intro pins s σ H Q I h
 refine UnaryOp_ (thn (ha pins s σ H _ I h) fun v s1 ⟨x,H1,I1,r1,q1⟩ => ?_)
 obtain ⟨c,rfl,q1⟩ := q1
 cases r1
 exact not_of (wpAny_truthy_bool ⟨.bl (!c),H1,I1,rfl,q1⟩)
def tIf (t : TT) (ta tb : TE) : TE := fun σ H Q => t σ H fun c H1 => if c = true then ta σ H1 Q else tb σ H1 Q
theorem pe_ifExp {c : Expr} (hc : PT X c tA) (ha : PE X a ta) (hb : PE X b tb) : PE X (.IfExp c a b pos) (tIf tA ta tb) := by
 intro pins s σ H Q I h
 refine wpAny_IfExp (thn (hc pins s σ H _ I h) fun d s1 ⟨H1,I1,q1⟩ => ?_)
 cases d with
 | true => exact ha pins s1 σ H1 Q I1 q1
 | false => exact hb pins s1 σ H1 Q I1 q1
end
end L2
namespace L2
open PySem PySem.Spec PyProof.Rows
def SqL (K : PySem.W.Frag) (H : Hp) (a : Addr) (xs : List V) : Prop :=
 Rd H a (.lst xs) \/
  ∃ (o : Obj) (its : Array Value) (n : Nat),K.lookup a = some o /\ o.cls = .type "list" /\ o.dict = none /\ o.data = .seq its n /\ its.size <= sizeLine /\ Vals xs its.toList
def SqT (K : PySem.W.Frag) (H : Hp) (a : Addr) (xs : List V) : Prop :=
 Rd H a (.tup xs) \/
  ∃ (o : Obj) (its : Array Value) (n : Nat),K.lookup a = some o /\ o.cls = .type "tuple" /\ o.data = .seq its n /\ its.size <= sizeLine /\ Vals xs its.toList
def absV : Value -> Option V
 | .none => some .non
 | .bool b => some (.bl b)
 | .int i _ => some (.int i)
 | .str x _ => some (.str x)
 | .bytes b _ => some (.byt b)
 | .float b _ => some (.flt b)
 | .ref a => some (.ref a)
 | .type n => some (.ty n)
 | _ => none
theorem RelV.abs {x : V} {u : Value} (r : RelV x u) : absV u = some x := by
 cases x with
 | non => cases r; rfl
 | bl _ => cases r; rfl
 | int _ => obtain ⟨t,rfl⟩ := r; rfl
 | str _ => obtain ⟨t,rfl⟩ := r; rfl
 | byt _ => obtain ⟨t,rfl⟩ := r; rfl
 | flt _ => obtain ⟨t,rfl⟩ := r; rfl
 | ref _ => cases r; rfl
 | ty _ => cases r; rfl
theorem RelV.inj {x y : V} {u : Value} (r : RelV x u) (q : RelV y u) : x = y := Option.some.inj (r.abs.symm.trans q.abs)
theorem Vals.inj : ∀ {xs ys : List V} {us : List Value},Vals xs us -> Vals ys us -> xs = ys
 | _,_,_,.nil,.nil => rfl
 | _,_,_,.cons r t,.cons r' t' => by rw [r.inj r',Vals.inj t t']
section
variable {X : Cx} {pins : List (Addr × Obj)} {σ : St} {H : Hp} {s : Shared} {a : Addr} {xs ys : List V}
theorem SqL.of {K : PySem.W.Frag} (h : H a = some (.lst xs)) : SqL K H a xs := .inl (.inl h)
theorem SqT.of {K : PySem.W.Frag} (h : H a = some (.tup xs)) : SqT K H a xs := .inl (.inl h)
theorem Inv.list (I : Inv X pins σ H s) (h : SqL X.K H a xs) : ∃ its : List Value,Vals xs its /\ PlainL s.heap a its.toArray /\ xs.length <= sizeLine := by
 rcases h with h | ⟨o,its,n,hk,hc,hd,hs,hz,r⟩
 ·obtain ⟨z,its,n,r,e⟩ := h.ok I.hok
  exact ⟨its,r,⟨_,n,e,rfl,rfl,rfl⟩,z⟩
 ·refine ⟨its.toList,r,⟨o,n,I.kIn a o hk,hc,hd,by simpa using hs⟩,?_⟩
  have e := r.length
  simp only [Array.length_toList] at e
  omega
theorem Inv.tuple (I : Inv X pins σ H s) (h : SqT X.K H a xs) : ∃ its : List Value,Vals xs its /\ IsTup s.heap a its.toArray /\ xs.length <= sizeLine := by
 rcases h with h | ⟨o,its,n,hk,hc,hs,hz,r⟩
 ·obtain ⟨z,its,r,p⟩ := h.ok I.hok
  exact ⟨its,r,p,z⟩
 ·refine ⟨its.toList,r,⟨o,I.kIn a o hk,hc,n,by simpa using hs⟩,?_⟩
  have e := r.length
  simp only [Array.length_toList] at e
  omega
theorem Inv.list_inj (I : Inv X pins σ H s) (h : SqL X.K H a xs) (h' : SqL X.K H a ys) : xs = ys := by
 obtain ⟨its,r,⟨o,n,e,_,_,d⟩,_⟩ := I.list h
 obtain ⟨its',r',⟨o',n',e',_,_,d'⟩,_⟩ := I.list h'
 rw [e] at e'; cases e'
 rw [d] at d'
 injection d' with d1 _
 have : its = its' := by simpa using congrArg Array.toList d1
 subst this
 exact r.inj r'
theorem Inv.tuple_inj (I : Inv X pins σ H s) (h : SqT X.K H a xs) (h' : SqT X.K H a ys) : xs = ys := by
 obtain ⟨its,r,⟨o,e,_,n,d⟩,_⟩ := I.tuple h
 obtain ⟨its',r',⟨o',e',_,n',d'⟩,_⟩ := I.tuple h'
 rw [e] at e'; cases e'
 rw [d] at d'
 injection d' with d1 _
 have : its = its' := by simpa using congrArg Array.toList d1
 subst this
 exact r.inj r'
end
abbrev Cx.wish (X : Cx) (E : Value -> Shared -> Prop) : Cx := { X with xe := E }
abbrev Cx.nox (X : Cx) : Cx := X.wish fun _ _ => False
theorem Cx.Ok.wish {X : Cx} (ok : X.Ok) (E : Value -> Shared -> Prop) : (X.wish E).Ok :=
 ⟨ok.mod,ok.kind,ok.glob,ok.blt,ok.above,ok.inj,ok.has,ok.cab,ok.hd,ok.frames,ok.stk,ok.exf,ok.bs,ok.bsz,ok.noex,ok.exfs,ok.funs,ok.frf⟩
theorem Cx.Ok.unwish {X : Cx} {E : Value -> Shared -> Prop} (ok : (X.wish E).Ok) : X.Ok :=
 ⟨ok.mod,ok.kind,ok.glob,ok.blt,ok.above,ok.inj,ok.has,ok.cab,ok.hd,ok.frames,ok.stk,ok.exf,ok.bs,ok.bsz,ok.noex,ok.exfs,ok.funs,ok.frf⟩
section
variable {X : Cx} {pins : List (Addr × Obj)} {σ : St} {H : Hp} {s : Shared} {E : Value -> Shared -> Prop}
theorem Inv.wish (I : Inv X pins σ H s) (E : Value -> Shared -> Prop) : Inv (X.wish E) pins σ H s := ⟨I.ok.wish E,I.os,I.bare,I.base,I.loc,I.cell,I.free,I.freeC,I.pin,I.hok,I.len⟩
theorem Inv.unwish (I : Inv (X.wish E) pins σ H s) : Inv X pins σ H s := ⟨I.ok.unwish,I.os,I.bare,I.base,I.loc,I.cell,I.free,I.freeC,I.pin,I.hok,I.len⟩
theorem SP.unwish {D : Ends} {f : Flow} {s' : Shared} (h : SP (X.wish E) pins D f s') : SP X pins D f s' := by
 cases f with
 | next => obtain ⟨σ',H',I,q⟩ := h; exact ⟨σ',H',I.unwish,q⟩
 | brk => obtain ⟨σ',H',I,q⟩ := h; exact ⟨σ',H',I.unwish,q⟩
 | cont => obtain ⟨σ',H',I,q⟩ := h; exact ⟨σ',H',I.unwish,q⟩
 | ret u => obtain ⟨v,σ',H',I,r,q⟩ := h; exact ⟨v,σ',H',I.unwish,r,q⟩
theorem PSs.nox {st : List Stmt} {t : TS} (h : PSs X.nox st t) : PSs X st t := fun pins s σ H D I hw =>
 wpAny_mono (h pins s σ H D (I.wish _) hw) (fun _ _ q => q.unwish) fun _ _ z => False.elim z
end
section
variable {X : Cx} {st : Stmt} {rest : List Stmt} {t u : TS} {e : Expr} {te : TE} {pos : Pos}
def tNext : TS := fun D σ H => D.nx σ H
def tSeq (t u : TS) : TS := fun D σ H => t { D with nx := u D } σ H
theorem pss_nil : PSs X [] tNext := fun _ _ σ H _ I h => wpAny_execs_nil ⟨σ,H,I,h⟩
theorem pss_cons (h1 : PS X st t) (h2 : PSs X rest u) : PSs X (st :: rest) (tSeq t u) := by
 intro pins s σ H D I h
 refine wpAny_execs_cons (thn (h1 pins s σ H { D with nx := u D } I h) fun f s1 q => ?_)
 cases f with
 | next =>
  obtain ⟨σ',H',I',q⟩ := q
  exact h2 pins s1 σ' H' D I' q
 | ret v => exact q
 | brk => exact q
 | cont => exact q
theorem pss_one (h1 : PS X st t) : PSs X [st] t := by
 intro pins s σ H D I h
 refine wpAny_execs_cons (thn (h1 pins s σ H D I h) fun f s1 q => ?_)
 cases f with
 | next => exact wpAny_execs_nil q
 | ret v => exact q
 | brk => exact q
 | cont => exact q
def tBreak : TS := fun D σ H => D.bk σ H
def tCont : TS := fun D σ H => D.ct σ H
theorem Inv.quiet {pins : List (Addr × Obj)} {σ : St} {H : Hp} {s : Shared} (I : Inv X pins σ H s) : interactive X.env = false := by simp [interactive,I.ok.kind]
def tDrop (te : TE) : TS := fun D σ H => te σ H fun _ H1 => D.nx σ H1
theorem ps_expr (he : PE X e te) (hs : swapsWith e none pos.line X.env = pure false := by rfl) : PS X (.Expr e pos) (tDrop te) := by
 intro pins s σ H D I h
 exact wpAny_Expr_any (thn (he pins s σ H _ I h) fun v s1 ⟨x,H1,I1,r1,q1⟩ => ⟨σ,H1,I1,q1⟩) I.quiet hs
def tRet (te : TE) : TS := fun D σ H => te σ H D.rt
theorem ps_ret (he : PE X e te) : PS X (.Return (some e) pos) (tRet te) := by
 intro pins s σ H D I h
 exact wpAny_Return_some (thn (he pins s σ H _ I h) fun v s1 ⟨x,H1,I1,r1,q1⟩ => ⟨x,σ,H1,I1,r1,q1⟩)
def tRetN : TS := fun D _ H => D.rt .non H
def tIfS (c : TT) (t u : TS) : TS := fun D σ H => c σ H fun b H1 => if b = true then t D σ H1 else u D σ H1
theorem ps_if {c : Expr} {a b : List Stmt} {tc : TT} (hc : PT X c tc) (ha : PSs X a t) (hb : PSs X b u) : PS X (.If c a b pos) (tIfS tc t u) := by
 intro pins s σ H D I h
 refine wpAny_If (thn (hc pins s σ H _ I h) fun d s1 ⟨H1,I1,q1⟩ => ?_)
 cases d with
 | true => exact ha pins s1 σ H1 D I1 q1
 | false => exact hb pins s1 σ H1 D I1 q1
def tNever : TS := fun _ _ _ => False
end
abbrev TG := V -> St -> Hp -> (St -> Hp -> Prop) -> Prop
abbrev TGs := List V -> St -> Hp -> (St -> Hp -> Prop) -> Prop
def PG (X : Cx) (target : Expr) (t : TG) : Prop :=
 ∀ (pins : List (Addr × Obj)) (s : Shared) (σ : St) (H : Hp) (v : V) (u : Value) (Q : St -> Hp -> Prop),Inv X pins σ H s -> RelV v u -> t v σ H Q ->
  wpAny (model X.prog X.w) X.A (assign target X.env u) (fun _ s' => ∃ σ' H',Inv X pins σ' H' s' /\ Q σ' H') X.xe s
def PGs (X : Cx) (ts : List Expr) (t : TGs) : Prop :=
 ∀ (pins : List (Addr × Obj)) (s : Shared) (σ : St) (H : Hp) (vs : List V) (us : List Value) (Q : St -> Hp -> Prop),Inv X pins σ H s -> Vals vs us -> t vs σ H Q ->
  wpAny (model X.prog X.w) X.A (assignInOrder ((assignEach ts X.env).map (·.2)) us) (fun _ s' => ∃ σ' H',Inv X pins σ' H' s' /\ Q σ' H') X.xe s
abbrev TSet := V -> V -> V -> Hp -> (Hp -> Prop) -> Prop
def PSet (X : Cx) (t : TSet) : Prop :=
 ∀ (pins : List (Addr × Obj)) (s : Shared) (σ : St) (H : Hp) (o i v : V) (ov iv u : Value) (Q : Hp -> Prop),Inv X pins σ H s -> RelV o ov -> RelV i iv -> RelV v u -> t o i v H Q ->
  wpAny (model X.prog X.w) X.A (setItem ov iv u) (fun _ s' => ∃ H',Inv X pins σ H' s' /\ Q H') X.xe s
abbrev TIp := V -> V -> Hp -> VK -> Prop
def PIp (X : Cx) (op : Operator) (t : TIp) : Prop :=
 ∀ (pins : List (Addr × Obj)) (s : Shared) (σ : St) (H : Hp) (x y : V) (v u : Value) (Q : VK),Inv X pins σ H s -> RelV x v -> RelV y u -> t x y H Q ->
  wpAny (model X.prog X.w) X.A (inplaceOp op v u) (EP X pins σ Q) X.xe s
section
variable {X : Cx} {pos : Pos}
def gName (i : Nat) : TG := fun v σ H Q => Q (σ.set i (some v)) H
theorem pg_name {i : Nat} {x : Str} (hN : X.N.Nodup) (hi : X.N[i]? = some x) (hx : Loc X.env.scope x) (hf : X.fn x = true \/ X.env.scope.names.lookup x = some .local := by first | exact .inl rfl | exact .inr rfl | assumption) : PG X (.Name x pos) (gName i) := by
 intro pins s σ H v u Q I r h
 exact wpAny_assign_Name (store_ok I hN hi hx r (fun s' I' => ⟨_,H,I',h⟩) hf)
def gNil : TGs := fun vs σ H Q => vs = [] /\ Q σ H
def gCons (t : TG) (u : TGs) : TGs := fun vs σ H Q => ∃ v r,vs = v :: r /\ t v σ H fun σ' H' => u r σ' H' Q
theorem pgs_nil : PGs X [] gNil := by
 intro pins s σ H vs us Q I r h
 obtain ⟨e,h⟩ := h
 subst e
 cases r
 exact assignInOrder_nil ⟨σ,H,I,h⟩
theorem pgs_cons {e : Expr} {es : List Expr} {t : TG} {u : TGs} (h1 : PG X e t) (h2 : PGs X es u)
  (hs : (assignEach (e :: es) X.env).map (·.2) = assign e X.env :: (assignEach es X.env).map (·.2) := by rfl) : PGs X (e :: es) (gCons t u) := by
 intro pins s σ H vs us Q I r h
 obtain ⟨v,vr,e1,h⟩ := h
 subst e1
 cases r with
 | cons r rr =>
  rw [hs]
  refine assignInOrder_cons (thn (h1 pins s σ H _ _ _ I r h) fun _ s1 ⟨σ1,H1,I1,q1⟩ => ?_)
  exact h2 pins s1 σ1 H1 _ _ Q I1 rr q1
def gTup (K : PySem.W.Frag) (n : Nat) (t : TGs) : TG := fun v σ H Q => ∃ a xs,v = .ref a /\ SqT K H a xs /\ xs.length = n /\ t xs σ H Q
theorem pg_tup {es : List Expr} {k : Nat} {t : TGs} {n : Nat} (hc : X.calm = true) (h : PGs X es t)
  (hn : (assignEach es X.env).length = n := by rfl) (hst : (assignEach es X.env).findIdx? (·.1) = none := by rfl) : PG X (.Tuple es k pos) (gTup X.K n t) := by
 intro pins s σ H v u Q I r hw
 obtain ⟨a,xs,e1,hq,hl,hw⟩ := hw
 subst e1
 cases r
 obtain ⟨its,rv,ht,hz⟩ := I.tuple hq
 refine assign_Tuple_tuple (I.ok.hd hc) ht (by simp [hn,<- hl,rv.length]) hst fun h' hx => ?_
 have I1 : Inv X pins σ H { s with heap := h' } := I.kept (t' := s.toks) fun b o e => hx b o (Nat.ne_of_lt (Heap.lt_size e)) e
 exact h pins _ σ H xs _ Q I1 (by simpa using rv) hw
def gSub (to ti : TE) (t : TSet) : TG := fun v σ H Q => to σ H fun o H1 => ti σ H1 fun i H2 => t o i v H2 fun H3 => Q σ H3
theorem pg_sub {o i : Expr} {to ti : TE} {t : TSet} (ho : PE X o to) (hi : PE X i ti) (hs : PSet X t)
  (ha : ∀ v,assign (.Subscript o i pos) X.env v = (do
   let ov <- holding [v] (eval o X.env)
   let iv <- holding [v,ov] (eval i X.env)
   standAt pos
   holding [v,ov,iv] (setItem ov iv v)
   release [v,ov,iv] []) := by intro _; rfl) : PG X (.Subscript o i pos) (gSub to ti t) := by
 intro pins s σ H v u Q I r h
 rw [ha]
 refine wpAny_bind (wpAny_holding (thn (ho pins s σ H _ I h) fun ov s1 ⟨x,H1,I1,r1,q1⟩ => ?_))
 refine wpAny_bind (wpAny_holding (thn (hi pins s1 σ H1 _ I1 q1) fun iv s2 ⟨y,H2,I2,r2,q2⟩ => ?_))
 refine wpAny_bind (wpAny_standAt (wpAny_bind (wpAny_holding (thn (hs pins s2 σ H2 x y v ov iv u _ I2 r1 r2 r q2) fun _ s3 ⟨H3,I3,q3⟩ => ?_))))
 exact wpAny_release ⟨σ,H3,I3,q3⟩
def tAsg (te : TE) (g : TG) : TS := fun D σ H => te σ H fun x H1 => g x σ H1 D.nx
theorem ps_asg {tg e : Expr} {te : TE} {g : TG} (he : PE X e te) (hg : PG X tg g) (hs : swapsWithSole [tg] e pos.line X.env = pure false := by rfl) (hw : swappedStores [tg] e X.env = pure none := by rfl)
  (h1 : (assignEach [tg] X.env).map (·.2) = [assign tg X.env] := by rfl) : PS X (.Assign [tg] e pos) (tAsg te g) := by
 intro pins s σ H D I h
 refine wpAny_Assign_stores (thn (he pins s σ H _ I h) fun v s1 ⟨x,H1,I1,r1,q1⟩ => ?_) hs hw
 rw [h1]
 exact thn (hg pins s1 σ H1 x v _ I1 r1 q1) fun _ s2 q => q
theorem ps_set {i : Nat} {x : Str} {e : Expr} {te : TE} {pos' : Pos} (hN : X.N.Nodup) (hi : X.N[i]? = some x) (hx : Loc X.env.scope x) (he : PE X e te) (hs : swapsWith e (some (.Name x pos')) pos.line X.env = pure false := by rfl) (hf : X.fn x = true \/ X.env.scope.names.lookup x = some .local := by first | exact .inl rfl | exact .inr rfl | assumption) :
  PS X (.Assign [.Name x pos'] e pos) (tAsg te (gName i)) := by
 intro pins s σ H D I h
 refine wpAny_Assign_Name (thn (he pins s σ H _ I h) fun v s1 ⟨y,H1,I1,r1,q1⟩ => ?_) hs
 exact store_ok I1 hN hi hx r1 (fun s2 I2 => ⟨_,H1,I2,q1⟩) hf
def tPar (i j : Nat) (ta : TA) : TS := fun D σ H => ta σ H fun vs H1 => ∃ v w,vs = [v,w] /\ D.nx ((σ.set i (some v)).set j (some w)) H1
theorem ps_par {i j : Nat} {x y : Str} {a b : Expr} {ta : TA} {px py pt : Pos} {kt k2 pt2} (hc : X.calm = true) (hN : X.N.Nodup) (hi : X.N[i]? = some x) (hj : X.N[j]? = some y) (hij : i ≠ j)
  (hx : X.env.scope.names.lookup x = some .local) (hy : X.env.scope.names.lookup y = some .local) (ha : PA X [a,b] ta)
  (hw : swappedStores [.Tuple [.Name x px,.Name y py] kt pt] (.Tuple [a,b] k2 pt2) X.env = pure (some [x,y]))
  (hs : swapsWithSole [.Tuple [.Name x px,.Name y py] kt pt] (.Tuple [a,b] k2 pt2) pos.line X.env = pure false := by rfl) :
  PS X (.Assign [.Tuple [.Name x px,.Name y py] kt pt] (.Tuple [a,b] k2 pt2) pos) (tPar i j ta) := by
 intro pins s σ H D I h
 rw [exec_Assign_arm]
 refine wpAny_bind (wpAny_standAt ?_)
 rw [hs]
 refine wpAny_bind (wpAny_pure ?_)
 rw [if_neg (by decide)]
 refine wpAny_bind (Tuple_ (thn (ha _ pins s σ H _ I h) fun us s1 ⟨vs,H1,I1,r1,q1⟩ => ?_))
 obtain ⟨v,w,e1,q1⟩ := q1
 subst e1
 obtain ⟨u1,u2,rfl,rv,rw'⟩ : ∃ u1 u2,us = [u1,u2] /\ RelV v u1 /\ RelV w u2 := by
  cases r1 with
  | cons p q =>
   cases q with
   | cons p' q' =>
    cases q'
    exact ⟨_,_,rfl,p,p'⟩
 refine wpAny_newObj_type ?_ (by show 2 <= sizeLine; decide)
 have I2 : Inv X pins σ H1 { s1 with heap := s1.heap.push { cls := .type "tuple",data := .seq [u1,u2].toArray } } := I1.kept (t' := s1.toks) fun b o e => Heap.get?_push_of_some _ e
 rw [hw]
 refine wpAny_bind (wpAny_pure ?_)
 show wpAny (model X.prog X.w) X.A (do rule "assign.swapped-stores"; let items <- unpackItems (.ref s1.heap.objs.size) 2 none; assignInOrder [fun v => bindName X.env y v,fun v => bindName X.env x v] items.reverse; pure Flow.next) _ _ _
 refine wpAny_bind (wpAny_rule (wpAny_bind (unpackItems_tuple (items := #[u1,u2]) (I.ok.hd hc) (IsTup.new s1.heap _) fun h' hx' => ?_)))
 have I3 := I2.kept (h' := h') (t' := s1.toks) fun b o e => hx' b o (Nat.ne_of_lt (Heap.lt_size e)) e
 show wpAny _ _ (assignInOrder [fun v => bindName X.env y v,fun v => bindName X.env x v] [u2,u1] >>= fun _ => pure Flow.next) _ _ _
 refine wpAny_bind (assignInOrder_cons (wpAny_bindName (store_ok I3 hN hj (.inl hy) rw' (fun s2 I4 => ?_) (.inr hy))))
 refine assignInOrder_cons (wpAny_bindName (store_ok I4 hN hi (.inl hx) rv (fun s3 I5 => assignInOrder_nil (wpAny_pure ?_)) (.inr hx)))
 rw [List.set_comm _ _ (Ne.symm hij)] at I5
 exact ⟨_,H1,I5,q1⟩
def tAug (i : Nat) (te : TE) (ti : TIp) : TS := fun D σ H => ∃ x,σ[i]? = some (some x) /\ te σ H fun y H1 => ti x y H1 fun z H2 => D.nx (σ.set i (some z)) H2
def tAugS (to ti te : TE) (tget : V -> V -> Hp -> VK -> Prop) (tip : TIp) (tset : TSet) : TS := fun D σ H => to σ H fun o H1 => ti σ H1 fun i H2 => tget o i H2 fun x H3 => te σ H3 fun y H4 => tip x y H4 fun z H5 => tset o i z H5 fun H6 => D.nx σ H6
def PGet (X : Cx) (t : V -> V -> Hp -> VK -> Prop) : Prop :=
 ∀ (pins : List (Addr × Obj)) (s : Shared) (σ : St) (H : Hp) (o i : V) (ov iv : Value) (Q : VK),Inv X pins σ H s -> RelV o ov -> RelV i iv -> t o i H Q ->
  wpAny (model X.prog X.w) X.A (getItem ov iv) (EP X pins σ Q) X.xe s
def ipI (f : Int -> Int -> Int) : TIp := fun x y H Q => ∃ i j,x = .int i /\ y = .int j /\ Q (.int (f i j)) H
end
section
variable {X : Cx} {pos : Pos}
def tWhile (c : TT) (tb : TS) : TS := fun D σ H => ∃ W : Nat -> St -> Hp -> Prop,(∃ m,W m σ H) /\ ∀ m σ H,W m σ H ->
 c σ H fun b H1 => if b = true then ∃ N : St -> Hp -> Prop,(∀ σ' H',N σ' H' -> ∃ m',m' < m /\ W m' σ' H') /\ tb { D with nx := N,ct := N,bk := D.nx } σ H1 else D.nx σ H1
theorem ps_while {c : Expr} {body : List Stmt} {tc : TT} {tb : TS} (hp : PassesOwn (model X.prog X.w) X.A X.env X.xe) (hc : PT X c tc) (hb : PSs X body tb) : PS X (.While c body [] pos) (tWhile tc tb) := by
 intro pins s σ H D I h
 obtain ⟨W,⟨m0,w0⟩,turn⟩ := h
 refine wpAny_While (codeAny_whileLoop (fun n s' => ∃ σ' H',Inv X pins σ' H' s' /\ W n σ' H') ?_ m0 ⟨σ,H,I,w0⟩)
 rintro n s1 ⟨σ1,H1,I1,w1⟩
 refine wpAny_passesOwn hp (thn (hc pins s1 σ1 H1 _ I1 (turn n σ1 H1 w1)) fun b s2 ⟨H2,I2,q2⟩ => ?_)
 cases b with
 | true =>
  obtain ⟨N,hN,q2⟩ := q2
  rw [if_pos rfl]
  refine wpAny_passesOwn hp (thn (hb pins s2 σ1 H2 _ I2 q2) fun f s3 q3 => ?_)
  cases f with
  | next =>
   obtain ⟨σ3,H3,I3,n3⟩ := q3
   obtain ⟨m',hm,w3⟩ := hN σ3 H3 n3
   exact ⟨m',hm,σ3,H3,I3,w3⟩
  | cont =>
   obtain ⟨σ3,H3,I3,n3⟩ := q3
   obtain ⟨m',hm,w3⟩ := hN σ3 H3 n3
   exact ⟨m',hm,σ3,H3,I3,w3⟩
  | brk => exact q3
  | ret v => exact q3
 | false =>
  rw [if_neg Bool.false_ne_true]
  exact wpAny_execs_nil ⟨σ1,H2,I2,q2⟩
end
structure It where
 go : Nat -> Hp -> Prop
 yld : Nat -> Hp -> V -> Hp -> Prop
 stop : Nat -> Hp -> Prop
def FpOk (X : Cx) (pins : List (Addr × Obj)) (H : Hp) (b : Addr) : Prop :=
 H b = none /\ b ≠ X.env.locals /\ b ∉ X.fs /\ (b ∈ X.ex \/ X.s₀.heap.objs.size <= b) /\ (∀ x c,X.env.cells.lookup x = some c -> c ≠ b) /\ ∀ p ∈ X.pn ++ pins,p.1 ≠ b
theorem Inv.fpOk {X : Cx} {pins : List (Addr × Obj)} {σ : St} {H H' : Hp} {s : Shared} {b : Addr} (I : Inv X pins σ H s) (hb : s.heap.objs.size <= b) (hn : H' b = none) : FpOk X pins H' b := by
 refine ⟨hn,Nat.ne_of_gt (Nat.lt_of_lt_of_le I.lt hb),I.nofs hb,.inr (Nat.le_trans I.sz hb),fun x c e z => ?_,fun p hp z => ?_⟩
 ·obtain ⟨v,q⟩ := I.cell x c e
  exact absurd (Nat.lt_of_lt_of_le q.lt (by rw [z]; exact hb)) (Nat.lt_irrefl _)
 ·exact absurd (Nat.lt_of_lt_of_le (Heap.lt_size (I.pin p hp).1) (by rw [z]; exact hb)) (Nat.lt_irrefl _)
structure Turn (P : Program) (w : World) (K : PySem.W.Frag) (tg : Expr) (J : It) (fp : List Addr) (it : Addr) (tn : Nat -> Heap -> Prop) : Prop where
 mem : it ∈ fp
 obj : ∀ i h,tn i h -> ∀ b ∈ fp,∃ o,h.get? b = some o /\ ∀ v,o.data ≠ .cell v
 keep : ∀ i h h',tn i h -> (∀ b ∈ fp,∀ o,h.get? b = some o -> h'.get? b = some o) -> tn i h'
 item : ∀ (X : Cx),X.prog = P -> X.w = w -> X.K = K -> X.calm = true -> ∀ (i : Nat) (pins : List (Addr × Obj)) (s : Shared) (σ : St) (H : Hp) (E : Value -> Shared -> Prop),Inv X pins σ H s -> (∀ b ∈ fp,FpOk X pins H b) -> tn i s.heap -> J.go i H ->
  wpAny (model P w) X.A (pyNext (.ref it)) (fun r s1 => ∃ u,r = some u /\
   wpAny (model P w) X.A (letOwnedTupleGo tg (.ref it) u) (fun _ s2 => ∃ x H',Inv X pins σ H' s2 /\ RelV x u /\ J.yld i H x H' /\ tn (i + 1) s2.heap /\ ∀ b ∈ fp,H' b = none) E s1) E s
 done : ∀ (X : Cx),X.prog = P -> X.w = w -> X.K = K -> X.calm = true -> ∀ (i : Nat) (pins : List (Addr × Obj)) (s : Shared) (σ : St) (H : Hp) (E : Value -> Shared -> Prop),Inv X pins σ H s -> (∀ b ∈ fp,FpOk X pins H b) -> tn i s.heap -> J.stop i H ->
  wpAny (model P w) X.A (pyNext (.ref it)) (fun r s1 => r = none /\ Inv X pins σ H s1) E s
 self : ∀ (A : Around) (i : Nat) (s : Shared) (Q : Value -> Shared -> Prop) (E : Value -> Shared -> Prop),tn i s.heap -> Q (.ref it) s -> wpAny (model P w) A (pyIter (.ref it)) Q E s
abbrev TI := St -> Hp -> (It -> Hp -> Prop) -> Prop
def PIE (X : Cx) (pins : List (Addr × Obj)) (σ : St) (tg : Expr) (R : It -> Hp -> Prop) (itv : Value) (s2 : Shared) : Prop :=
 ∃ (it : Addr) (fp : List Addr) (tn : Nat -> Heap -> Prop) (J : It) (H' : Hp),itv = .ref it /\ Inv X pins σ H' s2 /\ Turn X.prog X.w X.K tg J fp it tn /\ tn 0 s2.heap /\ (∀ b ∈ fp,FpOk X pins H' b) /\ R J H'
def PI (X : Cx) (tg iter : Expr) (wi : TI) : Prop :=
 ∀ (pins : List (Addr × Obj)) (s : Shared) (σ : St) (H : Hp) (R : It -> Hp -> Prop),Inv X pins σ H s -> wi σ H R ->
  wpAny (model X.prog X.w) X.A (eval iter X.env) (fun v s1 => wpAny (model X.prog X.w) X.A (pyIter v) (PIE X pins σ tg R) X.xe s1) X.xe s
theorem go_of {M : Model} {A : Around} {E : Value -> Shared -> Prop} {s : Shared} {tg : Expr} {it : Addr} {u : Value} {o : Obj} {n : String} {vs : Array Value} {Q : Unit -> Shared -> Prop} (ho : s.heap.get? it = some o) (hc : o.cls = .type n) (hd : o.data = .fields vs)
    (hn : ["enumerate","zip","dict_itemiterator","dict_reverseitemiterator","odict_iterator","itertools.zip_longest","itertools.pairwise"].contains n = false) (hQ : Q () s) : wpAny M A (letOwnedTupleGo tg (.ref it) u) Q E s := by
  unfold letOwnedTupleGo
  cases tg <;> first
    | exact wpAny_pure hQ
    | (cases u <;> first
        | exact wpAny_pure hQ
        | (refine wpAny_bind (wpAny_load ho ?_)
           rw [hc,hd]
           show wpAny M A (if (["enumerate","zip","dict_itemiterator","dict_reverseitemiterator","odict_iterator","itertools.zip_longest","itertools.pairwise"].contains n && vs[0]? == some (rawInt _)) = true then _ else _) Q E s
           rw [if_neg (by intro h; rw [hn,Bool.false_and] at h; cases h)]
           exact wpAny_pure hQ))
def Itl (K : PySem.W.Frag) (a : Addr) : It :=
 ⟨fun i H => ∃ xs x,SqL K H a xs /\ xs[i]? = some x,fun i H x H' => H' = H /\ ∀ xs,SqL K H a xs -> xs[i]? = some x,fun i H => ∃ xs,SqL K H a xs /\ xs.length <= i⟩
def Itt (K : PySem.W.Frag) (a : Addr) : It :=
 ⟨fun i H => ∃ xs x,SqT K H a xs /\ xs[i]? = some x,fun i H x H' => H' = H /\ ∀ xs,SqT K H a xs -> xs[i]? = some x,fun i H => ∃ xs,SqT K H a xs /\ xs.length <= i⟩
def Itr (lo : Int) (n : Nat) : It := ⟨fun i _ => i < n,fun i H x H' => H' = H /\ x = .int (lo + i),fun i _ => n <= i⟩
theorem turn_list {P : Program} {w : World} {K : PySem.W.Frag} {tg : Expr} (a it : Addr) : Turn P w K tg (Itl K a) [it] it (fun i h => h.IsListIter it a i) where
 mem := by simp
 obj := fun i h st b hb => by
  have e : b = it := by simpa using hb
  subst e
  obtain ⟨o,e,c,d⟩ := st
  exact ⟨o,e,fun v z => by rw [d] at z; cases z⟩
 keep := fun i h h' st k => st.at fun o e => k it (by simp) o e
 item := by
  intro X hP hw hK hc i pins s σ H E I hf st hg
  subst hP hw hK
  obtain ⟨xs,x,hq,hx⟩ := hg
  obtain ⟨its,rv,p,hz⟩ := I.list hq
  obtain ⟨u,hu,ru⟩ := rv.get hx
  obtain ⟨f0,f1,f2,f3,f4,f5⟩ := hf it (by simp)
  refine wpAny_pyNext_list_item st p.isList (x := u) (by simpa using hu) fun h' st' sb => ?_
  have I1 : Inv X pins σ H { s with heap := h' } := I.turned (t' := s.toks) (fun b o hb e => (sb.2 b hb).trans e) f0 f1 f3 f4 f5
  obtain ⟨o,e,c,d⟩ := id st'
  exact ⟨u,rfl,go_of (s := { s with heap := h' }) e c d (by decide) ⟨x,H,I1,ru,⟨rfl,fun ys hy => by rw [I.list_inj hy hq]; exact hx⟩,st',fun b hb => (hf b hb).1⟩⟩
 done := by
  intro X hP hw hK hc i pins s σ H E I hf st hg
  subst hP hw hK
  obtain ⟨xs,hq,hx⟩ := hg
  obtain ⟨its,rv,p,hz⟩ := I.list hq
  obtain ⟨f0,f1,f2,f3,f4,f5⟩ := hf it (by simp)
  have hl := rv.length
  exact wpAny_pyNext_list_end (I.ok.hd hc) st p.isList (by simp; omega) fun h' eb => ⟨rfl,I.turned (t' := s.toks) (fun b o hb e => eb b o hb e) f0 f1 f3 f4 f5⟩
 self := fun _ _ _ _ _ st h => wpAny_pyIter_listiter st h
theorem turn_tuple {P : Program} {w : World} {K : PySem.W.Frag} {tg : Expr} (a it : Addr) : Turn P w K tg (Itt K a) [it] it (fun i h => h.IsTupleIter it a i) where
 mem := by simp
 obj := fun i h st b hb => by
  have e : b = it := by simpa using hb
  subst e
  obtain ⟨o,e,c,d⟩ := st
  exact ⟨o,e,fun v z => by rw [d] at z; cases z⟩
 keep := fun i h h' st k => st.at fun o e => k it (by simp) o e
 item := by
  intro X hP hw hK hc i pins s σ H E I hf st hg
  subst hP hw hK
  obtain ⟨xs,x,hq,hx⟩ := hg
  obtain ⟨its,rv,p,hz⟩ := I.tuple hq
  obtain ⟨u,hu,ru⟩ := rv.get hx
  obtain ⟨f0,f1,f2,f3,f4,f5⟩ := hf it (by simp)
  refine wpAny_pyNext_tuple_item st (show s.heap.IsTuple a its.toArray from p) (x := u) (by simpa using hu) fun h' st' sb => ?_
  have I1 : Inv X pins σ H { s with heap := h' } := I.turned (t' := s.toks) (fun b o hb e => (sb.2 b hb).trans e) f0 f1 f3 f4 f5
  obtain ⟨o,e,c,d⟩ := id st'
  exact ⟨u,rfl,go_of (s := { s with heap := h' }) e c d (by decide) ⟨x,H,I1,ru,⟨rfl,fun ys hy => by rw [I.tuple_inj hy hq]; exact hx⟩,st',fun b hb => (hf b hb).1⟩⟩
 done := by
  intro X hP hw hK hc i pins s σ H E I hf st hg
  subst hP hw hK
  obtain ⟨xs,hq,hx⟩ := hg
  obtain ⟨its,rv,p,hz⟩ := I.tuple hq
  obtain ⟨f0,f1,f2,f3,f4,f5⟩ := hf it (by simp)
  have hl := rv.length
  exact wpAny_pyNext_tuple_end (I.ok.hd hc) st (show s.heap.IsTuple a its.toArray from p) (by simp; omega) fun h' eb => ⟨rfl,I.turned (t' := s.toks) (fun b o hb e => eb b o hb e) f0 f1 f3 f4 f5⟩
 self := fun _ _ _ _ _ st h => wpAny_pyIter_tupleiter st h
theorem turn_range {P : Program} {w : World} {K : PySem.W.Frag} {tg : Expr} (it : Addr) (lo : Int) (n : Nat) : Turn P w K tg (Itr lo n) [it] it (fun i h => IsRangeIter h it (lo + (i : Nat) * 1) ((n : Int) - (i : Nat)) 1) where
 mem := by simp
 obj := fun i h st b hb => by
  have e : b = it := by simpa using hb
  subst e
  exact ⟨_,st,fun v z => by
   have z' : Data.fields _ = Data.cell v := z
   cases z'⟩
 keep := fun i h h' st k => k it (by simp) _ st
 item := by
  intro X hP hw hK hc i pins s σ H E I hf st hg
  subst hP hw hK
  obtain ⟨f0,f1,f2,f3,f4,f5⟩ := hf it (by simp)
  have W := Walks.range (prog := X.prog) (w := X.w) (I.ok.hd hc) it lo 1 n
  refine W.item i s _ _ hg st fun v h' tk hv st' kk => ?_
  obtain ⟨t,rfl⟩ := hv
  have I1 : Inv X pins σ H { s with heap := h',toks := tk } := I.turned (fun b o hb e => kk b o (by simpa using hb) e) f0 f1 f3 f4 f5
  refine ⟨_,rfl,go_of (s := { s with heap := h',toks := tk }) (n := "range_iterator") st' rfl rfl (by decide) ⟨.int (lo + i),H,I1,⟨t,?_⟩,⟨rfl,rfl⟩,st',fun b hb => (hf b hb).1⟩⟩
  rw [Int.mul_one]
 done := by
  intro X hP hw hK hc i pins s σ H E I hf st hg
  subst hP hw hK
  obtain ⟨f0,f1,f2,f3,f4,f5⟩ := hf it (by simp)
  exact wpAny_pyNext_range_end (I.ok.hd hc) st (by have : n <= i := hg; omega) fun h' eb => ⟨rfl,I.turned (t' := s.toks) (fun b o hb e => eb b o hb e) f0 f1 f3 f4 f5⟩
 self := fun _ _ _ _ _ st h => wpAny_pyIter_rangeiter st h
end L2
namespace L2
open PySem PySem.Spec PyProof.Rows
section
variable {X : Cx} {tg : Expr}
def iList (K : PySem.W.Frag) (tl : TE) : TI := fun σ H R => tl σ H fun x H1 => ∃ a,x = .ref a /\ (∃ xs,SqL K H1 a xs) /\ R (Itl K a) H1
def iTup (K : PySem.W.Frag) (tl : TE) : TI := fun σ H R => tl σ H fun x H1 => ∃ a,x = .ref a /\ (∃ xs,SqT K H1 a xs) /\ R (Itt K a) H1
theorem pi_list {l : Expr} {tl : TE} (hl : PE X l tl) : PI X tg l (iList X.K tl) := by
 intro pins s σ H R I h
 refine thn (hl pins s σ H _ I h) fun v s1 ⟨x,H1,I1,r1,q1⟩ => ?_
 obtain ⟨a,e,⟨xs,hq⟩,q⟩ := q1
 subst e
 cases r1
 obtain ⟨its,rv,p,hz⟩ := I1.list hq
 refine wpAny_pyIter_list p.isList ?_
 refine ⟨s1.heap.objs.size,[s1.heap.objs.size],_,_,H1,rfl,I1.kept (t' := s1.toks) fun b o e => Heap.get?_push_of_some _ e,turn_list a _,⟨_,Heap.get?_push_size _ rfl,rfl,rfl⟩,fun b hb => ?_,q⟩
 have e : b = s1.heap.objs.size := by simpa using hb
 subst e
 exact I1.fpOk (Nat.le_refl _) (I1.hok.fresh (Nat.le_refl _))
theorem pi_tup {l : Expr} {tl : TE} (hl : PE X l tl) : PI X tg l (iTup X.K tl) := by
 intro pins s σ H R I h
 refine thn (hl pins s σ H _ I h) fun v s1 ⟨x,H1,I1,r1,q1⟩ => ?_
 obtain ⟨a,e,⟨xs,hq⟩,q⟩ := q1
 subst e
 cases r1
 obtain ⟨its,rv,p,hz⟩ := I1.tuple hq
 refine wpAny_pyIter_tuple (show s1.heap.IsTuple a its.toArray from p) ?_
 refine ⟨s1.heap.objs.size,[s1.heap.objs.size],_,_,H1,rfl,I1.kept (t' := s1.toks) fun b o e => Heap.get?_push_of_some _ e,turn_tuple a _,⟨_,Heap.get?_push_size _ rfl,rfl,rfl⟩,fun b hb => ?_,q⟩
 have e : b = s1.heap.objs.size := by simpa using hb
 subst e
 exact I1.fpOk (Nat.le_refl _) (I1.hok.fresh (Nat.le_refl _))
theorem range_it {pins : List (Addr × Obj)} {σ : St} {H : Hp} {s : Shared} {R : It -> Hp -> Prop} {E : Value -> Shared -> Prop} {lo hi : Int} {t u v : Tok} {tk : Nat} (I : Inv X pins σ H s) (h1 : -(2 ^ 62) <= lo) (h2 : lo < 2 ^ 62) (h3 : -(2 ^ 62) <= hi) (h4 : hi < 2 ^ 62)
  (q : R (Itr lo (hi - lo).toNat) H) : wpAny (model X.prog X.w) X.A (pyIter (.ref s.heap.objs.size)) (PIE X pins σ tg R) E { s with heap := s.heap.push { cls := .type "range",data := .fields #[.int lo t,.int hi u,.int 1 v] },toks := tk } := by
 refine wpAny_pyIter_range (IsRange.new ..) (small_one h1 h2 h3 h4) ?_
 have I1 : Inv X pins σ H { s with heap := s.heap.push { cls := .type "range",data := .fields #[.int lo t,.int hi u,.int 1 v] },toks := tk } := I.kept fun b o e => Heap.get?_push_of_some _ e
 refine ⟨(s.heap.push { cls := .type "range",data := .fields #[.int lo t,.int hi u,.int 1 v] }).objs.size,[(s.heap.push { cls := .type "range",data := .fields #[.int lo t,.int hi u,.int 1 v] }).objs.size],_,_,H,rfl,
  I1.kept (t' := tk) fun b o e => Heap.get?_push_of_some _ e,turn_range _ lo (hi - lo).toNat,?_,fun b hb => ?_,q⟩
 ·have e1 : lo + ((0 : Nat) : Int) * 1 = lo := by simp
  have e2 : (((hi - lo).toNat : Nat) : Int) - ((0 : Nat) : Int) = Builtin.Range.rangeSize lo hi 1 := by rw [rangeSize_one]; split <;> omega
  show IsRangeIter _ _ (lo + ((0 : Nat) : Int) * 1) ((((hi - lo).toNat : Nat) : Int) - ((0 : Nat) : Int)) 1
  rw [e1,e2]
  exact Heap.get?_push_size _ rfl
 ·have e : b = (s.heap.push { cls := .type "range",data := .fields #[.int lo t,.int hi u,.int 1 v] }).objs.size := by simpa using hb
  subst e
  exact I1.fpOk (Nat.le_refl _) (I1.hok.fresh (Nat.le_refl _))
def iRng1 (ta : TA) : TI := fun σ H R => ta σ H fun vs H1 => ∃ j : Int,vs = [.int j] /\ -(2 ^ 62) <= j /\ j < 2 ^ 62 /\ R (Itr 0 j.toNat) H1
def iRng2 (ta : TA) : TI := fun σ H R => ta σ H fun vs H1 => ∃ i j : Int,vs = [.int i,.int j] /\ (-(2 ^ 62) <= i /\ i < 2 ^ 62 /\ -(2 ^ 62) <= j /\ j < 2 ^ 62) /\ R (Itr i (j - i).toNat) H1
theorem pi_range1 {a : Expr} {ta : TA} {p pos : Pos} (hg : Gl X "range") (hm : X.mg "range" = none) (ha : PA X [a] ta) (hs : starEach [a] X.env = [(false,eval a X.env)] := by rfl) : PI X tg (.Call (.Name "range" p) [a] [] pos) (iRng1 ta) := by
 intro pins s σ H R I h
 refine Call_ (ld_blt I hg hm boot_range (PyProof.Rows.callWith_type1 (thn (ha pos pins s σ H _ I h) fun us s1 ⟨vs,H1,I1,r1,q1⟩ => ?_) hs rfl))
 obtain ⟨j,e,q1,q2,q⟩ := q1
 subst e
 cases r1 with
 | cons r rr =>
  cases rr
  obtain ⟨t,rfl⟩ := r
  exact call_range_1 (range_it I1 (by omega) (by omega) q1 q2 (by simpa using q))
def tFor (wi : TI) (g : TG) (tb : TS) : TS := fun D σ H => wi σ H fun J H1 => ∃ W : Nat -> Nat -> St -> Hp -> Prop,(∃ m,W 0 m σ H1) /\ ∀ i m σ H,W i m σ H ->
 (J.stop i H /\ D.nx σ H) \/ (J.go i H /\ ∃ N : St -> Hp -> Prop,(∀ σ' H',N σ' H' -> ∃ m',m' < m /\ W (i + 1) m' σ' H') /\ ∀ x H',J.yld i H x H' -> g x σ H' fun σ2 H2 => tb { D with nx := N,ct := N,bk := D.nx } σ2 H2)
def pinsAt (fp : List Addr) (h : Heap) : List (Addr × Obj) := fp.filterMap fun b => (h.get? b).map fun o => (b,o)
theorem mem_pinsAt {fp : List Addr} {h : Heap} {b : Addr} {o : Obj} (hb : b ∈ fp) (e : h.get? b = some o) : (b,o) ∈ pinsAt fp h := List.mem_filterMap.mpr ⟨b,hb,by rw [e]; rfl⟩
theorem of_pinsAt {fp : List Addr} {h : Heap} {p : Addr × Obj} (hp : p ∈ pinsAt fp h) : p.1 ∈ fp /\ h.get? p.1 = some p.2 := by
 obtain ⟨b,hb,e⟩ := List.mem_filterMap.mp hp
 cases q : h.get? b with
 | none => rw [q] at e; cases e
 | some o =>
  rw [q] at e
  have e' : (b,o) = p := Option.some.inj e
  subst e'
  exact ⟨hb,q⟩
theorem Inv.pinned {pins : List (Addr × Obj)} {σ : St} {H : Hp} {s : Shared} {fp : List Addr} (I : Inv X pins σ H s) (hf : ∀ b ∈ fp,FpOk X pins H b) (ho : ∀ b ∈ fp,∃ o,s.heap.get? b = some o /\ ∀ v,o.data ≠ .cell v) : Inv X (pins ++ pinsAt fp s.heap) σ H s :=
 I.pins_of fun p hp => (List.mem_append.mp hp).elim (fun z => I.pin p (List.mem_append_right _ z)) fun z => by
  obtain ⟨hb,e⟩ := of_pinsAt z
  obtain ⟨f0,f1,f2,_⟩ := hf p.1 hb
  obtain ⟨o,e',d⟩ := ho p.1 hb
  rw [e] at e'; cases e'
  exact ⟨e,f0,f1,f2,d⟩
theorem Inv.unpinned {pins pl : List (Addr × Obj)} {σ : St} {H : Hp} {s : Shared} (I : Inv X (pins ++ pl) σ H s) : Inv X pins σ H s := I.pins_of fun p hp => I.pin p (List.mem_append_right _ (List.mem_append_left _ hp))
theorem ps_for {iter : Expr} {body : List Stmt} {wi : TI} {g : TG} {tb : TS} {pos : Pos} (hp : PassesOwn (model X.prog X.w) X.A X.env X.xe) (hc : X.calm = true) (hi : PI X tg iter wi) (hg : PG X tg g) (hb : PSs X body tb)
  (hs : ∀ x,foldedSetIterable iter X.env x = pure x := by intro _; rfl) : PS X (.For tg iter body [] pos) (tFor wi g tb) := by
 intro pins s σ H D I h
 refine wpAny_For (thn (hi pins s σ H _ I h) fun v s1 h1 => thn h1 fun itv s2 h2 => ?_) hs
 obtain ⟨it,fp,tn,J,H2,e,I2,T,st2,f2,W,⟨m0,w0⟩,turn⟩ := h2
 subst e
 have stat : ∀ {H' : Hp},(∀ b ∈ fp,H' b = none) -> ∀ b ∈ fp,FpOk X pins H' b := fun hn b hb => ⟨hn b hb,(f2 b hb).2⟩
 refine codeAny_forLoop_any (fun n s' => ∃ i σ' H',Inv X pins σ' H' s' /\ tn i s'.heap /\ (∀ b ∈ fp,H' b = none) /\ W i n σ' H') ?_ m0 ⟨0,σ,H2,I2,st2,fun b hb => (f2 b hb).1,w0⟩
 rintro n s3 ⟨i,σ3,H3,I3,st3,fr3,w3⟩
 rcases turn i n σ3 H3 w3 with ⟨stop,qn⟩ | ⟨go,N,hN,step⟩
 ·refine wpAny_passesOwn hp (thn (T.done X rfl rfl rfl hc i pins s3 σ3 H3 X.xe I3 (stat fr3) st3 stop) fun r s4 ⟨hr,I4⟩ => ?_)
  subst hr
  exact wpAny_execs_nil ⟨σ3,H3,I4,qn⟩
 ·refine wpAny_passesOwn hp (thn (T.item X rfl rfl rfl hc i pins s3 σ3 H3 X.xe I3 (stat fr3) st3 go) fun r s4 ⟨u,hr,h4⟩ => ?_)
  subst hr
  refine wpAny_passesOwn hp (thn h4 fun _ s5 ⟨x,H5,I5,r5,y5,st5,fr5⟩ => ?_)
  have I5' := I5.pinned (stat fr5) (T.obj _ _ st5)
  refine wpAny_passesOwn hp (thn (hg _ s5 σ3 H5 x u _ I5' r5 (step x H5 y5)) fun _ s6 ⟨σ6,H6,I6,q6⟩ => ?_)
  refine wpAny_passesOwn hp (thn (hb _ s6 σ6 H6 _ I6 q6) fun f s7 q7 => ?_)
  have again : ∀ {σ7 : St} {H7 : Hp},Inv X (pins ++ pinsAt fp s5.heap) σ7 H7 s7 -> N σ7 H7 -> ∃ m,m < n /\ ∃ i σ' H',Inv X pins σ' H' s7 /\ tn i s7.heap /\ (∀ b ∈ fp,H' b = none) /\ W i m σ' H' := fun {σ7 H7} I7 n7 => by
   obtain ⟨m',hm,w7⟩ := hN σ7 H7 n7
   refine ⟨m',hm,i + 1,σ7,H7,I7.unpinned,T.keep _ _ _ st5 fun b hb o e => (I7.pin (b,o) (List.mem_append_right _ (List.mem_append_right _ (mem_pinsAt hb e)))).1,fun b hb => ?_,w7⟩
   obtain ⟨o,e,d⟩ := T.obj _ _ st5 b hb
   exact (I7.pin (b,o) (List.mem_append_right _ (List.mem_append_right _ (mem_pinsAt hb e)))).2.1
  cases f with
  | next => obtain ⟨σ7,H7,I7,n7⟩ := q7; exact again I7 n7
  | cont => obtain ⟨σ7,H7,I7,n7⟩ := q7; exact again I7 n7
  | brk => obtain ⟨σ7,H7,I7,q7⟩ := q7; exact ⟨σ7,H7,I7.unpinned,q7⟩
  | ret v => obtain ⟨x7,σ7,H7,I7,r7,q7⟩ := q7; exact ⟨x7,σ7,H7,I7.unpinned,r7,q7⟩
end
theorem for_list {K : PySem.W.Frag} {a : Addr} {xs : List V} {g : TG} {tb : TS} {D : Ends} {σ : St} {H : Hp} (Pv : Nat -> St -> Hp -> Prop) (h0 : Pv 0 σ H) (hl : ∀ i σ H,i <= xs.length -> Pv i σ H -> SqL K H a xs)
  (hs : ∀ i x σ H,xs[i]? = some x -> Pv i σ H -> g x σ H fun σ2 H2 => tb { D with nx := Pv (i + 1),ct := Pv (i + 1),bk := D.nx } σ2 H2) (hd : ∀ σ H,Pv xs.length σ H -> D.nx σ H) :
  ∃ W : Nat -> Nat -> St -> Hp -> Prop,(∃ m,W 0 m σ H) /\ ∀ i m σ H,W i m σ H ->
   ((Itl K a).stop i H /\ D.nx σ H) \/ ((Itl K a).go i H /\ ∃ N : St -> Hp -> Prop,(∀ σ' H',N σ' H' -> ∃ m',m' < m /\ W (i + 1) m' σ' H') /\ ∀ x H',(Itl K a).yld i H x H' -> g x σ H' fun σ2 H2 => tb { D with nx := N,ct := N,bk := D.nx } σ2 H2) := by
 refine ⟨fun i m σ H => m = xs.length - i /\ i <= xs.length /\ Pv i σ H,⟨xs.length,by simp,Nat.zero_le _,h0⟩,?_⟩
 rintro i m σ H ⟨rfl,hi,p⟩
 have q := hl i σ H hi p
 by_cases hlt : i < xs.length
 ·refine .inr ⟨⟨xs,xs[i],q,by simp [hlt]⟩,Pv (i + 1),fun σ' H' p' => ⟨xs.length - (i + 1),by omega,rfl,hlt,p'⟩,fun x H' y => ?_⟩
  obtain ⟨e,y⟩ := y
  subst e
  exact hs i x σ _ (y xs q) p
 ·have e : i = xs.length := by omega
  subst e
  exact .inl ⟨⟨xs,q,Nat.le_refl _⟩,hd σ H p⟩
theorem for_tup {K : PySem.W.Frag} {a : Addr} {xs : List V} {g : TG} {tb : TS} {D : Ends} {σ : St} {H : Hp} (Pv : Nat -> St -> Hp -> Prop) (h0 : Pv 0 σ H) (hl : ∀ i σ H,i <= xs.length -> Pv i σ H -> SqT K H a xs)
  (hs : ∀ i x σ H,xs[i]? = some x -> Pv i σ H -> g x σ H fun σ2 H2 => tb { D with nx := Pv (i + 1),ct := Pv (i + 1),bk := D.nx } σ2 H2) (hd : ∀ σ H,Pv xs.length σ H -> D.nx σ H) :
  ∃ W : Nat -> Nat -> St -> Hp -> Prop,(∃ m,W 0 m σ H) /\ ∀ i m σ H,W i m σ H ->
   ((Itt K a).stop i H /\ D.nx σ H) \/ ((Itt K a).go i H /\ ∃ N : St -> Hp -> Prop,(∀ σ' H',N σ' H' -> ∃ m',m' < m /\ W (i + 1) m' σ' H') /\ ∀ x H',(Itt K a).yld i H x H' -> g x σ H' fun σ2 H2 => tb { D with nx := N,ct := N,bk := D.nx } σ2 H2) := by
 refine ⟨fun i m σ H => m = xs.length - i /\ i <= xs.length /\ Pv i σ H,⟨xs.length,by simp,Nat.zero_le _,h0⟩,?_⟩
 rintro i m σ H ⟨rfl,hi,p⟩
 have q := hl i σ H hi p
 by_cases hlt : i < xs.length
 ·refine .inr ⟨⟨xs,xs[i],q,by simp [hlt]⟩,Pv (i + 1),fun σ' H' p' => ⟨xs.length - (i + 1),by omega,rfl,hlt,p'⟩,fun x H' y => ?_⟩
  obtain ⟨e,y⟩ := y
  subst e
  exact hs i x σ _ (y xs q) p
 ·have e : i = xs.length := by omega
  subst e
  exact .inl ⟨⟨xs,q,Nat.le_refl _⟩,hd σ H p⟩
theorem for_range {lo : Int} {n : Nat} {g : TG} {tb : TS} {D : Ends} {σ : St} {H : Hp} (Pv : Nat -> St -> Hp -> Prop) (h0 : Pv 0 σ H)
  (hs : ∀ i σ H,i < n -> Pv i σ H -> g (.int (lo + i)) σ H fun σ2 H2 => tb { D with nx := Pv (i + 1),ct := Pv (i + 1),bk := D.nx } σ2 H2) (hd : ∀ σ H,Pv n σ H -> D.nx σ H) :
  ∃ W : Nat -> Nat -> St -> Hp -> Prop,(∃ m,W 0 m σ H) /\ ∀ i m σ H,W i m σ H ->
   ((Itr lo n).stop i H /\ D.nx σ H) \/ ((Itr lo n).go i H /\ ∃ N : St -> Hp -> Prop,(∀ σ' H',N σ' H' -> ∃ m',m' < m /\ W (i + 1) m' σ' H') /\ ∀ x H',(Itr lo n).yld i H x H' -> g x σ H' fun σ2 H2 => tb { D with nx := N,ct := N,bk := D.nx } σ2 H2) := by
 refine ⟨fun i m σ H => m = n - i /\ i <= n /\ Pv i σ H,⟨n,by simp,Nat.zero_le _,h0⟩,?_⟩
 rintro i m σ H ⟨rfl,hi,p⟩
 by_cases hlt : i < n
 ·refine .inr ⟨hlt,Pv (i + 1),fun σ' H' p' => ⟨n - (i + 1),by omega,rfl,hlt,p'⟩,fun x H' y => ?_⟩
  obtain ⟨e,y⟩ := y
  subst e y
  exact hs i σ _ hlt p
 ·have e : i = n := by omega
  subst e
  exact .inl ⟨Nat.le_refl _,hd σ H p⟩
theorem while_by {c : TT} {tb : TS} {D : Ends} {σ : St} {H : Hp} (Pv : St -> Hp -> Prop) (μ : St -> Hp -> Nat) (h0 : Pv σ H)
  (hs : ∀ σ H,Pv σ H -> c σ H fun b H1 => if b = true then tb { D with nx := fun σ' H' => Pv σ' H' /\ μ σ' H' < μ σ H,ct := fun σ' H' => Pv σ' H' /\ μ σ' H' < μ σ H,bk := D.nx } σ H1 else D.nx σ H1)
  (mono : ∀ σ H Q Q',(∀ b H1,Q b H1 -> Q' b H1) -> c σ H Q -> c σ H Q') : tWhile c tb D σ H := by
 refine ⟨fun m σ H => m = μ σ H /\ Pv σ H,⟨_,rfl,h0⟩,?_⟩
 rintro m σ H ⟨rfl,p⟩
 refine mono σ H _ _ (fun b H1 q => ?_) (hs σ H p)
 cases b with
 | true => exact ⟨_,fun σ' H' ⟨p',l⟩ => ⟨_,l,rfl,p'⟩,q⟩
 | false => exact q
end L2
namespace L2
open PySem PySem.Spec PyProof.Rows
abbrev R2 := V -> V -> Hp -> VK -> Prop
def OpR (X : Cx) (f : Value -> Value -> Sem Value) (r : R2) : Prop :=
 ∀ (pins : List (Addr × Obj)) (s : Shared) (σ : St) (H : Hp) (x y : V) (v u : Value) (Q : VK),Inv X pins σ H s -> RelV x v -> RelV y u -> r x y H Q ->
  wpAny (model X.prog X.w) X.A (f v u) (EP X pins σ Q) X.xe s
def UnR (X : Cx) (f : Value -> Sem Value) (r : V -> Hp -> VK -> Prop) : Prop :=
 ∀ (pins : List (Addr × Obj)) (s : Shared) (σ : St) (H : Hp) (x : V) (v : Value) (Q : VK),Inv X pins σ H s -> RelV x v -> r x H Q ->
  wpAny (model X.prog X.w) X.A (f v) (EP X pins σ Q) X.xe s
def CallR (X : Cx) (f : Value) (r : List V -> Hp -> VK -> Prop) : Prop :=
 ∀ (pins : List (Addr × Obj)) (s : Shared) (σ : St) (H : Hp) (xs : List V) (us : List Value) (Q : VK),Inv X pins σ H s -> Vals xs us -> r xs H Q ->
  wpAny (model X.prog X.w) X.A (call f us) (EP X pins σ Q) X.xe s
def TruR (X : Cx) (r : V -> Hp -> (Bool -> Hp -> Prop) -> Prop) : Prop :=
 ∀ (pins : List (Addr × Obj)) (s : Shared) (σ : St) (H : Hp) (x : V) (v : Value) (Q : Bool -> Hp -> Prop),Inv X pins σ H s -> RelV x v -> r x H Q ->
  wpAny (model X.prog X.w) X.A (truthy v) (TP X pins σ Q) X.xe s
def tOp (r : R2) (ta tb : TE) : TE := fun σ H Q => ta σ H fun x H1 => tb σ H1 fun y H2 => r x y H2 Q
def tUn (r : V -> Hp -> VK -> Prop) (ta : TE) : TE := fun σ H Q => ta σ H fun x H1 => r x H1 Q
def rI (C : Int -> Int -> Prop) (g : Int -> Int -> V) : R2 := fun x y H Q => ∃ i j,x = .int i /\ y = .int j /\ C i j /\ Q (g i j) H
def rI0 (g : Int -> Int -> V) : R2 := fun x y H Q => ∃ i j,x = .int i /\ y = .int j /\ Q (g i j) H
def rU (g : Int -> V) : V -> Hp -> VK -> Prop := fun x H Q => ∃ i,x = .int i /\ Q (g i) H
section
variable {X : Cx} {a b c : Expr} {ta tb tc : TE} {pos : Pos}
theorem binT (ha : PE X a ta) (hb : PE X b tb) {pins : List (Addr × Obj)} {s : Shared} {σ : St} {H : Hp} {R : V -> V -> Hp -> Prop} (I : Inv X pins σ H s)
  (h : ta σ H fun x H1 => tb σ H1 fun y H2 => R x y H2) {Q : Value -> Shared -> Prop} {f : Value -> Value -> Sem Value}
  (hf : ∀ v u s2 x y H2,Inv X pins σ H2 s2 -> RelV x v -> RelV y u -> R x y H2 -> wpAny (model X.prog X.w) X.A (f v u) Q X.xe s2) :
  wpAny (model X.prog X.w) X.A (eval a X.env) (fun v s₁ => wpAny (model X.prog X.w) X.A (eval b X.env) (fun u s₂ => wpAny (model X.prog X.w) X.A (f v u) Q X.xe s₂) X.xe s₁) X.xe s := by
 refine thn (ha pins s σ H _ I h) fun v s1 ⟨x,H1,I1,r1,q1⟩ => ?_
 refine thn (hb pins s1 σ H1 _ I1 q1) fun u s2 ⟨y,H2,I2,r2,q2⟩ => ?_
 exact hf v u s2 x y H2 I2 r1 r2 q2
theorem pe_op {op : Operator} {r : R2} (ho : OpR X (binaryOp op) r) (ha : PE X a ta) (hb : PE X b tb) : PE X (.BinOp a op b pos) (tOp r ta tb) := by
 intro pins s σ H Q I h
 exact wpAny_BinOp (binT ha hb I h fun v u s2 x y H2 I2 rx ry q => ho pins s2 σ H2 x y v u Q I2 rx ry q)
theorem opI {f : Value -> Value -> Sem Value} {C : Int -> Int -> Prop} {g : Int -> Int -> Int}
  (rule : ∀ (i j : Int) (t u : Tok) (s : Shared) (Q : Value -> Shared -> Prop) (E : Value -> Shared -> Prop),C i j -> Q (.int (g i j) s.toks) { s with toks := s.toks + 1 } -> wpAny (model X.prog X.w) X.A (f (.int i t) (.int j u)) Q E s) :
  OpR X f (rI C fun i j => .int (g i j)) := by
 intro pins s σ H x y v u Q I rx ry h
 obtain ⟨i,j,rfl,rfl,hc,q⟩ := h
 obtain ⟨t,rfl⟩ := rx
 obtain ⟨t',rfl⟩ := ry
 exact rule i j t t' s _ _ hc ⟨.int (g i j),H,I.tok _,⟨_,rfl⟩,q⟩
theorem opI0 {f : Value -> Value -> Sem Value} {g : Int -> Int -> Int}
  (rule : ∀ (i j : Int) (t u : Tok) (s : Shared) (Q : Value -> Shared -> Prop) (E : Value -> Shared -> Prop),Q (.int (g i j) s.toks) { s with toks := s.toks + 1 } -> wpAny (model X.prog X.w) X.A (f (.int i t) (.int j u)) Q E s) :
  OpR X f (rI0 fun i j => .int (g i j)) := by
 intro pins s σ H x y v u Q I rx ry h
 obtain ⟨i,j,rfl,rfl,q⟩ := h
 obtain ⟨t,rfl⟩ := rx
 obtain ⟨t',rfl⟩ := ry
 exact rule i j t t' s _ _ ⟨.int (g i j),H,I.tok _,⟨_,rfl⟩,q⟩
theorem opB0 {f : Value -> Value -> Sem Value} {g : Int -> Int -> Bool}
  (rule : ∀ (i j : Int) (t u : Tok) (s : Shared) (Q : Value -> Shared -> Prop) (E : Value -> Shared -> Prop),Q (.bool (g i j)) s -> wpAny (model X.prog X.w) X.A (f (.int i t) (.int j u)) Q E s) :
  OpR X f (rI0 fun i j => .bl (g i j)) := by
 intro pins s σ H x y v u Q I rx ry h
 obtain ⟨i,j,rfl,rfl,q⟩ := h
 obtain ⟨t,rfl⟩ := rx
 obtain ⟨t',rfl⟩ := ry
 exact rule i j t t' s _ _ ⟨.bl (g i j),H,I,rfl,q⟩
def CDiv (i j : Int) : Prop := 0 < j /\ j < 1073741824
def CDivN (i j : Int) : Prop := j ≠ 0 /\ j.natAbs < 1073741824
def CPow (i j : Int) : Prop := 0 <= j /\ j <= 1000000 /\ i.natAbs < 2 ^ 64
def CMul (i j : Int) : Prop := (-(2 ^ 64) < i /\ i < 2 ^ 64) \/ (-(2 ^ 64) < j /\ j < 2 ^ 64)
theorem CMul.ok {i j : Int} (h : CMul i j) : IntMulOk i j := by
 rcases h with ⟨h1,h2⟩ | ⟨h1,h2⟩
 ·exact .of_left (intBits_le_64 h1 h2)
 ·exact .of_right (intBits_le_64 h1 h2)
theorem op_add : OpR X (binaryOp .Add) (rI0 fun i j => .int (i + j)) := opI0 fun _ _ _ _ _ _ _ q => add_int q
theorem op_sub : OpR X (binaryOp .Sub) (rI0 fun i j => .int (i - j)) := opI0 fun _ _ _ _ _ _ _ q => sub_int q
theorem op_mul : OpR X (binaryOp .Mult) (rI CMul fun i j => .int (i * j)) := opI fun _ _ _ _ _ _ _ hc q => mul_int q hc.ok
theorem op_mod : OpR X (binaryOp .Mod) (rI (fun _ j => 0 < j) fun i j => .int (i % j)) := opI fun i j _ _ _ _ _ hc q => by
 have h1 : (0 : Int) < j := hc
 exact mod_int' (by omega) (by rw [Int.fmod_eq_emod_of_nonneg i (by omega)]; exact q)
end
def scal : V -> V -> Bool
 | .non,.non => true | .non,.int _ => true | .int _,.non => true | .non,.bl _ => true | .bl _,.non => true | .non,.str _ => true | .str _,.non => true
 | .int _,.int _ => true | .bl _,.bl _ => true | .str _,.str _ => true | .byt _,.byt _ => true
 | .int _,.str _ => true | .str _,.int _ => true | .bl _,.str _ => true | .str _,.bl _ => true
 | _,_ => false
def rEq : R2 := fun x y H Q => scal x y = true /\ Q (.bl (decide (x = y))) H
def rNe : R2 := fun x y H Q => scal x y = true /\ Q (.bl (!decide (x = y))) H
theorem dec_int {i j : Int} : decide (V.int i = V.int j) = (i == j) := by
 rw [Bool.eq_iff_iff]
 simp
theorem dec_bl {i j : Bool} : decide (V.bl i = V.bl j) = (i == j) := by
 rw [Bool.eq_iff_iff]
 simp
theorem dec_str {i j : Str} : decide (V.str i = V.str j) = (i == j) := by
 rw [Bool.eq_iff_iff]
 simp
theorem dec_byt {i j : Array UInt8} : decide (V.byt i = V.byt j) = (i.toList == j.toList) := by
 rw [Bool.eq_iff_iff]
 cases i
 cases j
 simp
section
variable {X : Cx} {a b c : Expr} {ta tb tc : TE} {pos : Pos}
theorem fin_bl {pins : List (Addr × Obj)} {σ : St} {H : Hp} {s : Shared} {Q : VK} {k k' : Bool} (I : Inv X pins σ H s) (q : Q (.bl k) H) (e : k = k') : EP X pins σ Q (.bool k') s := by
 subst e
 exact ⟨.bl k,H,I,rfl,q⟩
theorem op_eq : OpR X (compareOp .Eq) rEq := by
 intro pins s σ H x y v u Q I rx ry h
 obtain ⟨hs,q⟩ := h
 cases x with
 | non =>
  cases rx
  cases y with
  | non => cases ry; exact PySem.EqNone.eq_none_none (fin_bl I q (by simp))
  | bl j => cases ry; exact PySem.EqNone.eq_none_bool (fin_bl I q (by simp))
  | int j => obtain ⟨t',rfl⟩ := ry; exact PySem.EqNone.eq_none_int (fin_bl I q (by simp))
  | str j => obtain ⟨t',rfl⟩ := ry; exact PySem.EqNone.eq_none_str (fin_bl I q (by simp))
  | _ => exact absurd (show false = true from hs) Bool.false_ne_true
 | bl i =>
  cases rx
  cases y with
  | non => cases ry; exact PySem.EqNone.eq_bool_none (fin_bl I q (by simp))
  | bl j => cases ry; exact eq_bool (fin_bl I q dec_bl)
  | str j => obtain ⟨t',rfl⟩ := ry; exact PySem.EqMixed.eq_bool_str (fin_bl I q (by simp))
  | _ => exact absurd (show false = true from hs) Bool.false_ne_true
 | int i =>
  obtain ⟨t,rfl⟩ := rx
  cases y with
  | non => cases ry; exact PySem.EqNone.eq_int_none (fin_bl I q (by simp))
  | int j => obtain ⟨t',rfl⟩ := ry; exact eq_int (fin_bl I q dec_int)
  | str j => obtain ⟨t',rfl⟩ := ry; exact PySem.EqMixed.eq_int_str (fin_bl I q (by simp))
  | _ => exact absurd (show false = true from hs) Bool.false_ne_true
 | str i =>
  obtain ⟨t,rfl⟩ := rx
  cases y with
  | non => cases ry; exact PySem.EqNone.eq_str_none (fin_bl I q (by simp))
  | bl j => cases ry; exact PySem.EqMixed.eq_str_bool (fin_bl I q (by simp))
  | int j => obtain ⟨t',rfl⟩ := ry; exact PySem.EqMixed.eq_str_int (fin_bl I q (by simp))
  | str j => obtain ⟨t',rfl⟩ := ry; exact eq_str (fin_bl I q dec_str)
  | _ => exact absurd (show false = true from hs) Bool.false_ne_true
 | byt i =>
  obtain ⟨t,rfl⟩ := rx
  cases y with
  | byt j => obtain ⟨t',rfl⟩ := ry; exact PySem.W.eq_bytes (fin_bl I q dec_byt)
  | _ => exact absurd (show false = true from hs) Bool.false_ne_true
 | _ => cases y <;> exact absurd (show false = true from hs) Bool.false_ne_true
theorem op_ne : OpR X (compareOp .NotEq) rNe := by
 intro pins s σ H x y v u Q I rx ry h
 obtain ⟨hs,q⟩ := h
 cases x with
 | non =>
  cases rx
  cases y with
  | non => cases ry; exact PySem.EqNone.ne_none_none (fin_bl I q (by simp))
  | bl j => cases ry; exact PySem.EqNone.ne_none_bool (fin_bl I q (by simp))
  | int j => obtain ⟨t',rfl⟩ := ry; exact PySem.EqNone.ne_none_int (fin_bl I q (by simp))
  | str j => obtain ⟨t',rfl⟩ := ry; exact PySem.EqNone.ne_none_str (fin_bl I q (by simp))
  | _ => exact absurd (show false = true from hs) Bool.false_ne_true
 | bl i =>
  cases rx
  cases y with
  | non => cases ry; exact PySem.EqNone.ne_bool_none (fin_bl I q (by simp))
  | bl j => cases ry; exact ne_bool (fin_bl I q (congrArg not dec_bl))
  | str j => obtain ⟨t',rfl⟩ := ry; exact PySem.EqMixed.ne_bool_str (fin_bl I q (by simp))
  | _ => exact absurd (show false = true from hs) Bool.false_ne_true
 | int i =>
  obtain ⟨t,rfl⟩ := rx
  cases y with
  | non => cases ry; exact PySem.EqNone.ne_int_none (fin_bl I q (by simp))
  | int j => obtain ⟨t',rfl⟩ := ry; exact ne_int (fin_bl I q (congrArg not dec_int))
  | str j => obtain ⟨t',rfl⟩ := ry; exact PySem.EqMixed.ne_int_str (fin_bl I q (by simp))
  | _ => exact absurd (show false = true from hs) Bool.false_ne_true
 | str i =>
  obtain ⟨t,rfl⟩ := rx
  cases y with
  | non => cases ry; exact PySem.EqNone.ne_str_none (fin_bl I q (by simp))
  | bl j => cases ry; exact PySem.EqMixed.ne_str_bool (fin_bl I q (by simp))
  | int j => obtain ⟨t',rfl⟩ := ry; exact PySem.EqMixed.ne_str_int (fin_bl I q (by simp))
  | str j => obtain ⟨t',rfl⟩ := ry; exact ne_str (fin_bl I q (congrArg not dec_str))
  | _ => exact absurd (show false = true from hs) Bool.false_ne_true
 | byt i =>
  obtain ⟨t,rfl⟩ := rx
  cases y with
  | byt j => obtain ⟨t',rfl⟩ := ry; exact PySem.W.ne_bytes (fin_bl I q (congrArg not dec_byt))
  | _ => exact absurd (show false = true from hs) Bool.false_ne_true
 | _ => cases y <;> exact absurd (show false = true from hs) Bool.false_ne_true
theorem op_lt : OpR X (compareOp .Lt) (rI0 fun i j => .bl (decide (i < j))) := opB0 fun _ _ _ _ _ _ _ q => lt_int q
theorem op_le : OpR X (compareOp .LtE) (rI0 fun i j => .bl (decide (i <= j))) := opB0 fun _ _ _ _ _ _ _ q => le_int q
theorem op_gt : OpR X (compareOp .Gt) (rI0 fun i j => .bl (decide (j < i))) := opB0 fun _ _ _ _ _ _ _ q => gt_int q
theorem op_in_str : OpR X (compareOp .In) (fun x y H Q => ∃ i j,x = .str i /\ y = .str j /\ Q (.bl (!(Builtin.Str.occurrences j i 0 j.length 1).isEmpty)) H) := by
 intro pins s σ H x y v u Q I rx ry h
 obtain ⟨i,j,rfl,rfl,q⟩ := h
 obtain ⟨t,rfl⟩ := rx
 obtain ⟨t',rfl⟩ := ry
 exact in_str (fin_bl I q rfl)
theorem op_isN : OpR X (compareOp .Is) (fun x y H Q => y = .non /\ Q (.bl (decide (x = .non))) H) := by
 intro pins s σ H x y v u Q I rx ry h
 obtain ⟨rfl,q⟩ := h
 cases ry
 refine is_none_gen (fin_bl I q ?_)
 cases x <;> first
  | (cases rx; rfl)
  | (obtain ⟨t,rfl⟩ := rx; rfl)
theorem op_notin_str : OpR X (compareOp .NotIn) (fun x y H Q => ∃ i j,x = .str i /\ y = .str j /\ Q (.bl (!(!(Builtin.Str.occurrences j i 0 j.length 1).isEmpty))) H) := by
 intro pins s σ H x y v u Q I rx ry h
 obtain ⟨i,j,rfl,rfl,q⟩ := h
 obtain ⟨t,rfl⟩ := rx
 obtain ⟨t',rfl⟩ := ry
 exact notIn_str (fin_bl I q rfl)
def isObj : HO -> Bool
 | .lst _ => true
 | .ins _ _ _ => true
 | _ => false
theorem nomark (b : Expr) {op : CmpOp} (h : op ≠ .In := by decide) (h2 : op ≠ .NotIn := by decide) : behindInMarks op b = false := by
 have e1 : (op == CmpOp.In) = false := by cases op <;> first | rfl | exact absurd rfl h
 have e2 : (op == CmpOp.NotIn) = false := by cases op <;> first | rfl | exact absurd rfl h2
 cases b <;> simp [behindInMarks,e1,e2]
theorem pe_cmpR {op : CmpOp} {r : R2} (ho : OpR X (compareOp op) r) (ha : PE X a ta) (hb : PE X b tb) (hm : behindInMarks op b = false) : PE X (.Compare a [op] [b] pos) (tOp r ta tb) := by
 intro pins s σ H Q I h
 exact wpAny_Compare1 (binT ha hb I h fun v u s2 x y H2 I2 rx ry q => ho pins s2 σ H2 x y v u Q I2 rx ry q) hm
def tTest (t : TE) : TT := fun σ H Q => t σ H fun x H' => ∃ k,x = .bl k /\ Q k H'
theorem pt_cmpR {op : CmpOp} {r : R2} (ho : OpR X (compareOp op) r) (ha : PE X a ta) (hb : PE X b tb) (hm : behindInMarks op b = false) : PT X (.Compare a [op] [b] pos) (tTest (tOp r ta tb)) := by
 intro pins s σ H Q I h
 refine wpAny_isTrue_Compare1 (thn (ha pins s σ H _ I h) fun v s1 ⟨x,H1,I1,r1,q1⟩ => thn (hb pins s1 σ H1 _ I1 q1) fun u s2 ⟨y,H2,I2,r2,q2⟩ =>
  thn (ho pins s2 σ H2 x y v u _ I2 r1 r2 q2) fun c s3 ⟨z,H3,I3,r3,k,e,q3⟩ => ?_) hm
 subst e
 cases r3
 exact wpAny_truthy_bool ⟨H3,I3,q3⟩
def tChain (r r' : R2) (ta tb tc : TE) : TE := fun σ H Q => ta σ H fun x H1 => tb σ H1 fun y H2 => r x y H2 fun z H3 => ∃ k,z = .bl k /\
 (if k = true then tc σ H3 fun w' H4 => r' y w' H4 Q else Q (.bl false) H3)
theorem pe_chain {op op' : CmpOp} {r r' : R2} (ho : OpR X (compareOp op) r) (ho' : OpR X (compareOp op') r') (ha : PE X a ta) (hb : PE X b tb) (hc : PE X c tc)
  (hm : lastMarks [op,op'] [b,c] = false := by with_unfolding_all rfl) : PE X (.Compare a [op,op'] [b,c] pos) (tChain r r' ta tb tc) := by
 intro pins s σ H Q I h
 refine Compare_chain (thn (ha pins s σ H _ I h) fun v s1 ⟨x,H1,I1,r1,q1⟩ => chain_link (thn (hb pins s1 σ H1 _ I1 q1) fun u s2 ⟨y,H2,I2,r2,q2⟩ =>
  thn (ho pins s2 σ H2 x y v u _ I2 r1 r2 q2) fun d s3 ⟨z,H3,I3,r3,k,e,q3⟩ => ?_)) hm
 subst e
 cases r3
 refine wpAny_truthy_bool ?_
 cases k with
 | false => exact ite_ff ⟨.bl false,H3,I3,rfl,q3⟩
 | true => exact ite_tt (chain_last (thn (hc pins s3 σ H3 _ I3 q3) fun w' s4 ⟨z',H4,I4,r4,q4⟩ => ho' pins s4 σ H4 y z' u w' Q I4 r2 r4 q4))
theorem pt_chain {op op' : CmpOp} {r r' : R2} (ho : OpR X (compareOp op) r) (ho' : OpR X (compareOp op') r') (ha : PE X a ta) (hb : PE X b tb) (hc : PE X c tc)
  (hm : lastMarks [op,op'] [b,c] = false := by with_unfolding_all rfl) : PT X (.Compare a [op,op'] [b,c] pos) (tTest (tChain r r' ta tb tc)) := by
 intro pins s σ H Q I h
 refine isTrue_chain (thn (ha pins s σ H _ I h) fun v s1 ⟨x,H1,I1,r1,q1⟩ => test_link (thn (hb pins s1 σ H1 _ I1 q1) fun u s2 ⟨y,H2,I2,r2,q2⟩ =>
  thn (ho pins s2 σ H2 x y v u _ I2 r1 r2 q2) fun d s3 ⟨z,H3,I3,r3,k,e,q3⟩ => ?_)) hm
 subst e
 cases r3
 refine wpAny_truthy_bool ?_
 cases k with
 | false =>
  obtain ⟨k',e',q'⟩ := q3
  cases e'
  exact ite_ff ⟨H3,I3,q'⟩
 | true =>
  refine ite_tt (test_last (thn (hc pins s3 σ H3 _ I3 q3) fun w' s4 ⟨z',H4,I4,r4,q4⟩ => thn (ho' pins s4 σ H4 y z' u w' _ I4 r2 r4 q4) fun d' s5 ⟨z2,H5,I5,r5,k2,e2,q5⟩ => ?_))
  subst e2
  cases r5
  exact wpAny_truthy_bool ⟨H5,I5,q5⟩
def TruV (K : PySem.W.Frag) (x : V) (H : Hp) (k : Bool) : Prop :=
 match x with
 | .non => k = false
 | .bl b => k = b
 | .int i => k = (i != 0)
 | .str y => y.length <= sizeLine /\ k = ((y.length : Int) != 0)
 | .byt y => y.size <= sizeLine /\ k = ((y.size : Int) != 0)
 | .ref p => (∃ xs,SqL K H p xs /\ k = !xs.isEmpty) \/ (∃ xs,SqT K H p xs /\ k = !xs.isEmpty) \/ ∃ kvs,H p = some (.dK kvs) /\ k = !kvs.isEmpty
 | _ => False
theorem isEmpty_kv {κ : Type} {kvs : List (κ × V)} {vs : List (κ × Value)} (r : KV kvs vs) : (!vs.isEmpty) = !kvs.isEmpty := by
 cases r <;> rfl
theorem isEmpty_of {xs : List V} {its : List Value} (r : Vals xs its) : (!its.toArray.isEmpty) = !xs.isEmpty := by
 cases r <;> simp
theorem line63 : (sizeLine : Nat) < 2 ^ 63 := by rw [sizeLine_eq]; decide
theorem tru_ok : TruR X (fun x H Q => ∃ k,TruV X.K x H k /\ Q k H) := by
 intro pins s σ H x v Q I rx h
 obtain ⟨k,e,q⟩ := h
 have hl := line63
 have hs : sizeLine = 16777216 := sizeLine_eq
 cases x with
 | non =>
  cases rx
  have e' : k = false := e
  subst e'
  exact truthy_none ⟨H,I,q⟩
 | bl b =>
  cases rx
  have e' : k = b := e
  subst e'
  exact wpAny_truthy_bool ⟨H,I,q⟩
 | int i =>
  obtain ⟨t,rfl⟩ := rx
  have e' : k = (i != 0) := e
  subst e'
  exact PySem.P.truthy_int ⟨H,I,q⟩
 | str y =>
  obtain ⟨t,rfl⟩ := rx
  obtain ⟨hy,e'⟩ : y.length <= sizeLine /\ k = ((y.length : Int) != 0) := e
  subst e'
  exact PySem.P.truthy_str (by omega) ⟨H,I.tok _,q⟩
 | byt y =>
  obtain ⟨t,rfl⟩ := rx
  obtain ⟨hy,e'⟩ : y.size <= sizeLine /\ k = ((y.size : Int) != 0) := e
  subst e'
  exact PySem.W.truthy_bytes (by omega) ⟨H,I.tok _,q⟩
 | ref p =>
  cases rx
  have e' : (∃ xs,SqL X.K H p xs /\ k = !xs.isEmpty) \/ (∃ xs,SqT X.K H p xs /\ k = !xs.isEmpty) \/ ∃ kvs,H p = some (.dK kvs) /\ k = !kvs.isEmpty := e
  rcases e' with ⟨xs,hx,e'⟩ | ⟨xs,hx,e'⟩ | ⟨kvs,hx,e'⟩
  ·subst e'
   obtain ⟨its,r,pl,hz⟩ := I.list hx
   have hlen := r.length
   exact wpAny_truthy_list pl.isList (by simp only [List.size_toArray]; omega) ⟨H,I.tok _,by rw [isEmpty_of r]; exact q⟩
  ·subst e'
   obtain ⟨its,r,pl,hz⟩ := I.tuple hx
   have hlen := r.length
   exact truthy_tuple pl (by simp only [List.size_toArray]; omega) ⟨H,I.tok _,by rw [isEmpty_of r]; exact q⟩
  ·subst e'
   obtain ⟨hz,hS,vs,r,m⟩ : kvs.length <= sizeLine /\ (p == sysModules) = false /\ ∃ vs,KV kvs vs /\ s.heap.DictOf (mixKind X.prog X.w) p vs := I.hok p _ hx
   have hlen : kvs.length = vs.length := Paired.length r
   exact wpAny_truthy_dict hS m (by omega) ⟨H,I.tok _,by rw [isEmpty_kv r]; exact q⟩
 | _ => exact (show False from e).elim
theorem op_add_str : OpR X (binaryOp .Add) (fun x y H Q => ∃ i j,x = .str i /\ y = .str j /\ i.length + j.length <= sizeLine /\ Q (.str (i ++ j)) H) := by
 intro pins s σ H x y v u Q I rx ry h
 obtain ⟨i,j,rfl,rfl,hz,q⟩ := h
 obtain ⟨t,rfl⟩ := rx
 obtain ⟨t',rfl⟩ := ry
 exact add_str (fun t' tk => ⟨.str (i ++ j),H,I.tok _,⟨_,rfl⟩,q⟩) hz
def PlainIxT (b : Expr) : Prop := ∀ o i,subscripted b false o i = operate [o,i] (getItem o i)
theorem vals1 {x : V} {us : List Value} (r : Vals [x] us) : ∃ u,us = [u] /\ RelV x u := by
 cases r with
 | cons r1 r2 => cases r2; exact ⟨_,rfl,r1⟩
theorem vals2 {x y : V} {us : List Value} (r : Vals [x,y] us) : ∃ u w',us = [u,w'] /\ RelV x u /\ RelV y w' := by
 cases r with
 | cons r1 r2 =>
  cases r2 with
  | cons r3 r4 => cases r4; exact ⟨_,_,rfl,r1,r3⟩
theorem call_abs : CallR X (.builtin "abs") (fun xs H Q => ∃ i,xs = [.int i] /\ Q (.int (if i < 0 then -i else i)) H) := by
 intro pins s σ H xs us Q I r h
 obtain ⟨i,rfl,q⟩ := h
 obtain ⟨u,rfl,t,rfl⟩ := vals1 r
 exact call_abs_int fun u tk => ⟨.int (if i < 0 then -i else i),H,I.tok _,⟨_,rfl⟩,q⟩
theorem call_max2 (hc : X.calm = true) : CallR X (.builtin "max") (fun xs H Q => ∃ i j,xs = [.int i,.int j] /\ Q (.int (if j > i then j else i)) H) := by
 intro pins s σ H xs us Q I r h
 obtain ⟨i,j,rfl,q⟩ := h
 obtain ⟨u,w',rfl,⟨t,rfl⟩,⟨t',rfl⟩⟩ := vals2 r
 refine max_two_ints (I.ok.hd hc) fun h' tk k => ⟨_,H,I.kept k,?_,q⟩
 by_cases hj : j > i
 ·rw [if_pos hj,if_pos hj]; exact ⟨_,rfl⟩
 ·rw [if_neg hj,if_neg hj]; exact ⟨_,rfl⟩
theorem call_min2 (hc : X.calm = true) : CallR X (.builtin "min") (fun xs H Q => ∃ i j,xs = [.int i,.int j] /\ Q (.int (if j < i then j else i)) H) := by
 intro pins s σ H xs us Q I r h
 obtain ⟨i,j,rfl,q⟩ := h
 obtain ⟨u,w',rfl,⟨t,rfl⟩,⟨t',rfl⟩⟩ := vals2 r
 refine min_two_ints (I.ok.hd hc) fun h' tk k => ⟨_,H,I.kept k,?_,q⟩
 by_cases hj : j < i
 ·rw [if_pos hj,if_pos hj]; exact ⟨_,rfl⟩
 ·rw [if_neg hj,if_neg hj]; exact ⟨_,rfl⟩
theorem call_int1 : CallR X (.type "int") (fun xs H Q => (∃ i,xs = [.int i] /\ Q (.int i) H) \/ ∃ k,xs = [.bl k] /\ Q (.int (if k then 1 else 0)) H) := by
 intro pins s σ H xs us Q I r h
 rcases h with ⟨i,rfl,q⟩ | ⟨k,rfl,q⟩
 ·obtain ⟨u,rfl,t,rfl⟩ := vals1 r
  exact call_int_int ⟨.int i,H,I,⟨_,rfl⟩,q⟩
 ·obtain ⟨u,rfl,r1⟩ := vals1 r
  cases r1
  exact call_int_bool ⟨.int (if k then 1 else 0),H,I.tok _,⟨_,rfl⟩,q⟩
theorem call_str_int : CallR X (.type "str") (fun xs H Q => ∃ i,xs = [.int i] /\ i.natAbs.log2 < 1920 /\ Q (.str (toString i)) H) := by
 intro pins s σ H xs us Q I r h
 obtain ⟨i,rfl,hz,q⟩ := h
 obtain ⟨u,rfl,t,rfl⟩ := vals1 r
 exact PySem.P.str_of_int hz ⟨.str _,H,I.tok _,⟨_,rfl⟩,q⟩
def LenV (K : PySem.W.Frag) (x : V) (H : Hp) (n : Nat) : Prop :=
 match x with
 | .str y => y.length <= sizeLine /\ n = y.length
 | .byt y => y.size <= sizeLine /\ n = y.size
 | .ref p => (∃ xs,SqL K H p xs /\ n = xs.length) \/ ∃ xs,SqT K H p xs /\ n = xs.length
 | _ => False
end
end L2
namespace L2
open PySem PySem.Spec PyProof.Rows
structure ObjM (h : Heap) (x dx C : Addr) (mA : Str -> Option Value) : Prop where
 obj : h.get? x = some (PySem.W.instObj C dx)
 ns : h.Ns1 dx mA
 ne : dx ≠ x
section
variable {prog : Program} {w : World} {A : Around} {E : Value -> Shared -> Prop} {s : Shared} {K : PySem.W.Frag} {x dx C f : Addr} {mA : Str -> Option Value} {name : Str} {v : Value}
end
def putF (f : Str) (v : V) : List (Str × V) -> List (Str × V)
  | [] => [(f,v)]
  | (g,x) :: r => if g = f then (g,v) :: r else (g,x) :: putF f v r
section
variable {P : Program} {w : World} {H H' : Hp} {h h' : Heap} {a C dx : Addr} {fs fs' : List (Str × V)}
end
structure Cls (K : PySem.W.Frag) (C : Addr) : Prop where
 pg : PySem.W.plainGet K C Str.empty = true
 hd : PySem.W.hasDictIn K C = true
 po : PySem.W.plainOver K C = true
 sa : PySem.W.findIn K (.ref C) "__setattr__" = some (some (.builtin "object.__setattr__"))
def NoAttr (K : PySem.W.Frag) (C : Addr) (f : Str) : Prop := PySem.W.findIn K (.ref C) f = some none
structure Con (K : PySem.W.Frag) (C : Addr) (f : Str) (v : V) (u : Value) : Prop where
 at_ : PySem.W.findIn K (.ref C) f = some (some u)
 rel : RelV v u
 get : PySem.W.specialIn K u "__get__" = some none
 cp : PySem.W.copiedNames.contains f = false
structure Meth (K : PySem.W.Frag) (C : Addr) (m : Str) (f : Addr) : Prop where
 at_ : PySem.W.findIn K (.ref C) m = some (some (.ref f))
 fn : PySem.W.isFn K (.ref f) = true
 kp : PySem.W.keepIn K (.ref f) = true
section
variable {X : Cx} {pins : List (Addr × Obj)} {σ : St} {H : Hp} {s : Shared} {a C dx : Addr} {fs : List (Str × V)} {f : Str} {v : V} {A : Around} {E : Value -> Shared -> Prop}
end
def tFld (K : PySem.W.Frag) (ta : TE) (f : Str) : TE := fun σ H Q => ta σ H fun x H1 => ∃ a C dx fs v,x = .ref a /\ H1 a = some (.ins C dx fs) /\ Cls K C /\ NoAttr K C f /\ fs.lookup f = some v /\ Q v H1
def tCon (K : PySem.W.Frag) (ta : TE) (f : Str) : TE := fun σ H Q => ta σ H fun x H1 => ∃ a C dx fs v u,x = .ref a /\ H1 a = some (.ins C dx fs) /\ Cls K C /\ Con K C f v u /\ fs.lookup f = none /\ Q v H1
def sFld (K : PySem.W.Frag) (ta tv : TE) (f : Str) : TS := fun D σ H => tv σ H fun y H1 => ta σ H1 fun x H2 => ∃ a C dx fs,x = .ref a /\ H2 a = some (.ins C dx fs) /\ Cls K C /\ NoAttr K C f /\ fs.length < 1000 /\
 D.nx σ (upd H2 a (.ins C dx (putF f y fs)))
def InOp (X : Cx) (op : Operator) (rd : V -> V -> Hp -> VK -> Prop) : Prop :=
 ∀ (pins : List (Addr × Obj)) (s : Shared) (σ : St) (H : Hp) (x y : V) (u v : Value) (Q : VK),Inv X pins σ H s -> RelV x u -> RelV y v -> rd x y H Q -> wpAny (model X.prog X.w) X.A (inplaceOp op u v) (EP X pins σ Q) X.xe s
def sFldAug (K : PySem.W.Frag) (ta tv : TE) (rd : V -> V -> Hp -> VK -> Prop) (f : Str) : TS := fun D σ H => ta σ H fun x H1 => ∃ a C dx fs v,x = .ref a /\ H1 a = some (.ins C dx fs) /\ Cls K C /\ NoAttr K C f /\ fs.lookup f = some v /\
 tv σ H1 fun y H2 => rd v y H2 fun z H3 => ∃ dx' fs',H3 a = some (.ins C dx' fs') /\ fs'.length < 1000 /\ D.nx σ (upd H3 a (.ins C dx' (putF f z fs')))
section
variable {X : Cx} {o e value : Expr} {f : Str} {pos pos' tpos : Pos} {ta tv : TE}
def rAdd : V -> V -> Hp -> VK -> Prop := fun x y H Q => ∃ i j,x = .int i /\ y = .int j /\ Q (.int (i + j)) H
def rSub : V -> V -> Hp -> VK -> Prop := fun x y H Q => ∃ i j,x = .int i /\ y = .int j /\ Q (.int (i - j)) H
end
section
variable {X : Cx} {pins : List (Addr × Obj)} {σ : St} {H : Hp} {s : Shared} {A : Around} {E : Value -> Shared -> Prop} {Q : Value -> Shared -> Prop} {c : Value} {b : Bool}
inductive TyOf (K : PySem.W.Frag) (H : Hp) : V -> Value -> Prop where
 | non : TyOf K H .non (.type "NoneType")
 | bl (x : Bool) : TyOf K H (.bl x) (.type "bool")
 | int (i : Int) : TyOf K H (.int i) (.type "int")
 | str (x : Str) : TyOf K H (.str x) (.type "str")
 | flt (x : UInt64) : TyOf K H (.flt x) (.type "float")
 | lst {a : Addr} {xs : List V} (e : H a = some (.lst xs)) : TyOf K H (.ref a) (.type "list")
 | frz {a : Addr} {o : Obj} {xs : List V} (e : H a = some (.frz o (.lst xs))) : TyOf K H (.ref a) (.type "list")
 | tup {a : Addr} {xs : List V} (e : H a = some (.tup xs)) : TyOf K H (.ref a) (.type "tuple")
 | dK {a : Addr} {kvs : List (Key × V)} (e : H a = some (.dK kvs)) : TyOf K H (.ref a) (.type "dict")
 | dT {a : Addr} {kvs : List (List Key × V)} (e : H a = some (.dT kvs)) : TyOf K H (.ref a) (.type "dict")
 | ins {a C dx : Addr} {fs : List (Str × V)} (e : H a = some (.ins C dx fs)) (cl : Cls K C) (ha : PySem.W.findIn K (.ref C) "__class__" = some (some (.builtin "object.__class__")))
   (hn : PySem.W.specialIn K (.builtin "object.__class__") "__get__" = some (some (.builtin "getset_descriptor.__get__"))) (htk : PySem.W.takesIn K (.builtin "object.__class__") = some true)
   (hm : PySem.W.mroIn K C (.type "object") = some true) : TyOf K H (.ref a) (.ref C)
end
end L2
namespace L2
open PySem PySem.Spec PyProof.Rows
structure Room (k : Nat) (A : Around) : Prop where
 hd : A.handled = none
 dp : A.depth + 3 * k + 5 < recursionLimit
 un : A.units + 16 * k + 200 < cLine
theorem Room.mono {j k : Nat} {A : Around} (r : Room k A) (h : j <= k) : Room j A := ⟨r.hd,by have := r.dp; omega,by have := r.un; omega⟩
theorem Room.deeper {k : Nat} {A : Around} (r : Room (k + 1) A) (env : Env) : Room k (A.deeper env) :=
 ⟨r.hd,by have := r.dp; show A.depth + 1 + 3 * k + 5 < _; omega,by have := r.un; show A.units + 3 + 16 * k + 200 < _; omega⟩
theorem make_depth {A : Around} {C : Addr} {us : List Value} {kw : List (Str × Value)} : (A.under (.builtin "type.__call__" ⟨.ref C :: us,kw⟩)).depth = A.depth + 1 := by
 first | rfl | simp [Around.under,Code.weight,Code.isCreation,Code.isGuard,Code.isCaller,Code.frames,Code.isFrame,guardIds]
theorem make_units {A : Around} {C : Addr} {us : List Value} {kw : List (Str × Value)} : (A.under (.builtin "type.__call__" ⟨.ref C :: us,kw⟩)).units = A.units + 1 := by
 first | rfl | simp [Around.under,Code.cUnits,Code.frames,Code.isFrame]
theorem Room.make {k : Nat} {A : Around} (r : Room (k + 1) A) (C : Addr) (us : List Value) (kw : List (Str × Value)) : Room k (A.under (.builtin "type.__call__" ⟨.ref C :: us,kw⟩)) :=
 ⟨r.hd,by have := r.dp; rw [make_depth]; omega,by have := r.un; rw [make_units]; omega⟩
theorem Room.depth {k : Nat} {A : Around} (r : Room k A) : A.depth < recursionLimit := by have := r.dp; omega
theorem Room.units {k : Nat} {A : Around} (r : Room k A) : A.units + 64 < cLine := by have := r.un; omega
def tNil : TA := fun _ H Q => Q [] H
def tCons (ta : TE) (tr : TA) : TA := fun σ H Q => ta σ H fun x H1 => tr σ H1 fun xs H2 => Q (x :: xs) H2
section
variable {X : Cx} {e : Expr} {es : List Expr} {te : TE} {t : TA} {pos : Pos}
theorem pa_nil : PA X [] tNil := fun _ _ _ _ H Q I h => Calls.spliced_nil ⟨[],H,I,.nil,h⟩
theorem pa_cons (ha : PE X e te) (hr : PA X es t) (hs : starEach (e :: es) X.env = (false,eval e X.env) :: starEach es X.env := by rfl) : PA X (e :: es) (tCons te t) := by
 intro pos pins s σ H Q I h
 rw [hs]
 show wpAny _ _ (spliced ((false,eval e X.env) :: backTo pos (starEach es X.env))) _ _ s
 refine Calls.spliced_cons (thn (ha pins s σ H _ I h) fun u s1 ⟨x,H1,I1,r1,q1⟩ => ?_)
 exact thn (hr pos pins s1 σ H1 _ I1 q1) fun us s2 ⟨xs,H2,I2,r2,q2⟩ => ⟨x :: xs,H2,I2,.cons r1 r2,q2⟩
def tTup (t : TA) : TE := fun σ H Q => t σ H fun xs H1 => xs.length <= sizeLine /\ ∀ p,H1 p = none -> Q (.ref p) (upd H1 p (.tup xs))
def tLst (t : TA) : TE := fun σ H Q => t σ H fun xs H1 => xs.length <= sizeLine /\ ∀ p,H1 p = none -> Q (.ref p) (upd H1 p (.lst xs))
theorem pe_tup {x1} (h : PA X es t) : PE X (.Tuple es x1 pos) (tTup t) := by
 intro pins s σ H Q I hq
 refine wpAny_Tuple_spliced (thn (h pos pins s σ H _ I hq) fun us s1 ⟨xs,H1,I1,r,z,q⟩ => ⟨by rw [<- r.length]; exact z,?_⟩)
 have hf : H1 s1.heap.objs.size = none := I1.hok.fresh (Nat.le_refl _)
 refine ⟨.ref s1.heap.objs.size,upd H1 s1.heap.objs.size (.tup xs),I1.laid (t' := s1.toks) (fun b u e => Heap.get?_push_of_some _ e) (Nat.le_refl _) ?_,rfl,q _ hf⟩
 exact ⟨z,us,r,⟨_,Heap.get?_push_size _ rfl,rfl,_,rfl⟩⟩
theorem pe_lst (h : PA X es t) : PE X (.List es pos) (tLst t) := by
 intro pins s σ H Q I hq
 refine wpAny_List_spliced (thn (h pos pins s σ H _ I hq) fun us s1 ⟨xs,H1,I1,r,z,q⟩ => ⟨by rw [<- r.length]; exact z,?_⟩)
 have hf : H1 s1.heap.objs.size = none := I1.hok.fresh (Nat.le_refl _)
 refine ⟨.ref s1.heap.objs.size,upd H1 s1.heap.objs.size (.lst xs),I1.laid (t' := s1.toks) (fun b u e => Heap.get?_push_of_some _ e) (Nat.le_refl _) ?_,rfl,q _ hf⟩
 exact ⟨z,us,0,r,Heap.get?_push_size _ rfl⟩
end
abbrev Sp := List V -> Hp -> VK -> XK -> Prop
abbrev CXT := List Env -> Hp -> Shared -> XK -> Value -> Shared -> Prop
structure Env0 (P : Program) (w : World) (K : PySem.W.Frag) (mg : Str -> Option Value) (base : Heap) (A : Around) (outer : List Env) (s : Shared) (H : Hp) : Prop where
 frames : A.frames = some outer
 mod : Mod K mg base
 bs : ∀ b o,base.get? b = some o -> s.heap.get? b = some o /\ H b = none
 bsz : base.objs.size <= s.heap.objs.size
 funs : s.heap.FunFrames base outer
 frf : ∀ b ∈ frs outer,H b = none
 hok : HOk P w H s.heap
 bare : AllBare s.gens
def CE (outer : List Env) (P : Program) (w : World) (H : Hp) (s : Shared) (Q : VK) (u : Value) (s' : Shared) : Prop :=
 ∃ v H',s'.os = s.os /\ AllBare s'.gens /\ Un (frs outer) [] H H' s.heap s'.heap /\ HOk P w H' s'.heap /\ RelV v u /\ Q v H'
def CR (CX : CXT) (outer : List Env) (P : Program) (w : World) (H : Hp) (s : Shared) (Q : VK) (E : XK) (r : Result) (s' : Shared) : Prop :=
 match r with
 | .ok (.ret u) => CE outer P w H s Q u s'
 | .ok _ => False
 | .error e => CX outer H s E e s'
structure FnOk (P : Program) (w : World) (K : PySem.W.Frag) (mg : Str -> Option Value) (base : Heap) (CX : CXT) (k : Nat) (f : Addr) (fd : FuncData) (ps : List Str) (sp : Sp) : Prop where
 len : ∀ vs H Q E,sp vs H Q E -> vs.length = ps.length
 run : ∀ (A : Around) (outer : List Env) (s : Shared) (H : Hp) (args : Args) (us : List Value) (vs : List V) (Q : VK) (E : XK),Room k A -> Env0 P w K mg base A outer s H -> BindsTo s fd args (ps.zip us) -> Vals vs us -> sp vs H Q E ->
  codeAny (model P w) A (.call (.ref f) args) (CR CX outer P w H s Q E) s
theorem FnOk.mono {P : Program} {w : World} {K : PySem.W.Frag} {mg : Str -> Option Value} {base : Heap} {CX : CXT} {j k : Nat} {f : Addr} {fd : FuncData} {ps : List Str} {sp : Sp} (F : FnOk P w K mg base CX j f fd ps sp) (h : j <= k) :
  FnOk P w K mg base CX k f fd ps sp := ⟨F.len,fun A outer s H args us vs Q E hr => F.run A outer s H args us vs Q E (hr.mono h)⟩
theorem Env0.make {P : Program} {w : World} {K : PySem.W.Frag} {mg : Str -> Option Value} {base : Heap} {A : Around} {outer : List Env} {s : Shared} {H : Hp} (e : Env0 P w K mg base A outer s H) (C : Addr) (us : List Value) (kw : List (Str × Value)) :
    Env0 P w K mg base (A.under (.builtin "type.__call__" ⟨.ref C :: us,kw⟩)) outer s H := ⟨by first | exact e.frames | (simpa [Around.under,Code.envs,Code.isFrame,pushEnvs] using e.frames),e.mod,e.bs,e.bsz,e.funs,e.frf,e.hok,e.bare⟩
section
variable {X : Cx} {pins : List (Addr × Obj)} {σ : St} {H : Hp} {s s' : Shared}
theorem Inv.env0 (I : Inv X pins σ H s) : Env0 X.prog X.w X.K X.mg X.base X.A X.stack s H :=
 ⟨I.ok.frames,I.ok.mod,I.bs,Nat.le_trans I.ok.bsz I.sz,I.stack,I.stkFree,I.hok,I.bare⟩
theorem Inv.after {Q : VK} {u : Value} (I : Inv X pins σ H s) (h : CE X.stack X.prog X.w H s Q u s') : EP X pins σ Q u s' := by
 obtain ⟨v,H',os,bare,un,hok,r,q⟩ := h
 obtain ⟨hh,g,d,t,os'⟩ := s'
 obtain rfl : os' = s.os := os
 exact ⟨v,H',I.call (h' := hh) (g' := g) (d' := d) (t' := t) (ch := []) un hok bare (fun b z => absurd z (by simp)),r,q⟩
end
def tCall (sp : Sp) (dvs : List V) (E : XK) (t : TA) : TE := fun σ H Q => t σ H fun vs H1 => sp (vs ++ dvs) H1 Q E
def tMeth (C : Addr) (m : Str) (sp : Sp) (dvs : List V) (E : XK) (ta : TE) (t : TA) : TE := fun σ H Q => ta σ H fun x H1 => ∃ a dx fs,x = .ref a /\ H1 a = some (.ins C dx fs) /\ fs.lookup m = none /\
 t σ H1 fun vs H2 => sp (x :: (vs ++ dvs)) H2 Q E
def tMake (C : Addr) (sp : Sp) (dvs : List V) (E : XK) (t : TA) : TE := fun σ H Q => t σ H fun vs H1 => ∀ x dx,H1 x = none -> H1 dx = none -> dx ≠ x ->
 sp (.ref x :: (vs ++ dvs)) (upd (upd H1 dx (.own x)) x (.ins C dx [])) (fun v H2 => v = .non /\ Q (.ref x) H2) E
def Binds (K : PySem.W.Frag) (fd : FuncData) (ps : List Str) (ds : List Value) : Prop :=
 ∀ (s : Shared) (us : List Value),K.In s.heap -> (us ++ ds).length = ps.length -> BindsTo s fd ⟨us,[]⟩ (ps.zip (us ++ ds))
theorem Binds.all {K : PySem.W.Frag} {fd : FuncData} {ps : List Str} (h : ∀ us : List Value,us.length = ps.length -> bindArgs fd ⟨us,[]⟩ = pure (ps.zip us)) : Binds K fd ps [] := fun s us _ hl => by
 rw [List.append_nil] at hl ⊢
 exact .of_eq (h us hl)
def Passes (CX : CXT) (X : Cx) (E : XK) : Prop := ∀ (pins : List (Addr × Obj)) (σ : St) (H : Hp) (s : Shared) (e : Value) (s' : Shared),Inv X pins σ H s -> CX X.stack H s E e s' -> X.xe e s'
section
variable {X : Cx} {CX : CXT} {k : Nat} {f C : Addr} {fd : FuncData} {ps : List Str} {sp : Sp} {dvs : List V} {ds : List Value} {E : XK} {x m : Str} {p pos apos : Pos} {e o : Expr} {es : List Expr} {ta : TE} {t : TA}
theorem run_fn {pins : List (Addr × Obj)} {σ : St} {H : Hp} {s : Shared} {Q : VK} {us : List Value} {vs : List V} (F : FnOk X.prog X.w X.K X.mg X.base CX k f fd ps sp) (hr : Room k X.A) (hb : Binds X.K fd ps ds) (hd : Vals dvs ds) (hx : Passes CX X E)
  (I : Inv X pins σ H s) (r : Vals vs us) (h : sp (vs ++ dvs) H Q E) : wpAny (model X.prog X.w) X.A (call (.ref f) us) (EP X pins σ Q) X.xe s := by
 have r2 : Vals (vs ++ dvs) (us ++ ds) := r.append hd
 have hl : (us ++ ds).length = ps.length := by rw [<- r2.length]; exact F.len _ _ _ _ h
 refine wpAny_call (codeAny_mono (F.run X.A X.stack s H ⟨us,[]⟩ (us ++ ds) (vs ++ dvs) Q E hr I.env0 (hb s us I.kIn hl) r2 h) fun r s' hq => ?_)
 cases r with
 | error e => exact hx pins σ H s e s' I hq
 | ok fl =>
  cases fl with
  | ret u => exact I.after hq
  | next => exact False.elim hq
  | brk => exact False.elim hq
  | cont => exact False.elim hq
theorem pe_call (F : FnOk X.prog X.w X.K X.mg X.base CX k f fd ps sp) (hr : Room k X.A) (hg : Gl X x) (hm : X.mg x = some (.ref f)) (hk : PySem.W.keepIn X.K (.ref f) = true) (hb : Binds X.K fd ps ds) (hd : Vals dvs ds) (hx : Passes CX X E)
  (ha : PA X (e :: es) t) (hdb : (x == ("__debug__" : Str)) = false := by decide) (he : starEach (e :: es) X.env = (false,eval e X.env) :: starEach es X.env := by rfl) (hpl : (backTo pos (starEach es X.env)).any (·.1) = false := by rfl) :
  PE X (.Call (.Name x p) (e :: es) [] pos) (tCall sp dvs E t) := by
 intro pins s σ H Q I h
 refine wpAny_Call_Name_kw (ld_glob I hg hm ?_ hdb)
 refine PySem.W.callWith_K (h₀ := X.base) I.ok.mod.kin hk (thn (ha pos pins s σ H _ I h) fun us s1 ⟨vs,H1,I1,r,q⟩ => ⟨I1.kIn,?_⟩) he hpl
 exact run_fn F hr hb hd hx I1 r q
structure Mk (K : PySem.W.Frag) (C f : Addr) : Prop where
 makes : PySem.W.makesIn K C = true
 init : PySem.W.findIn K (.ref C) "__init__" = some (some (.ref f))
 fn : PySem.W.isFn K (.ref f) = true
 kp : PySem.W.keepIn K (.ref C) = true
end
def PK (X : Cx) (kws : List Keyword) (t : TA) : Prop :=
 ∀ (pos : Pos) (pins : List (Addr × Obj)) (s : Shared) (σ : St) (H : Hp) (Q : List V -> Hp -> Prop),Inv X pins σ H s -> t σ H Q -> wpAny (model X.prog X.w) X.A (evalAll ((backToKw pos (keywordEach kws X.env)).map (·.2))) (AP X pins σ Q) X.xe s
section
variable {X : Cx} {CX : CXT} {k : Nat} {f C : Addr} {fd : FuncData} {ps ks : List Str} {sp : Sp} {E : XK} {x m : Str} {p pos apos kpos : Pos} {e o : Expr} {es : List Expr} {kws : List Keyword} {te ta : TE} {t tk : TA} {nm : Option Str}
structure KBinds (K : PySem.W.Frag) (fd : FuncData) (ps ks : List Str) (g : List Value -> List Value -> List Value) (gV : List V -> List V -> List V) : Prop where
 to : ∀ (s : Shared) (us ws : List Value),K.In s.heap -> (g us ws).length = ps.length -> BindsTo s fd ⟨us,ks.zip ws⟩ (ps.zip (g us ws))
 rel : ∀ {vs : List V} {us : List Value} {zs : List V} {ws : List Value},Vals vs us -> Vals zs ws -> Vals (gV vs zs) (g us ws)
def tCallK (sp : Sp) (gV : List V -> List V -> List V) (E : XK) (t tk : TA) : TE := fun σ H Q => t σ H fun vs H1 => tk σ H1 fun zs H2 => sp (gV vs zs) H2 Q E
variable {g : List Value -> List Value -> List Value} {gV : List V -> List V -> List V}
end
structure FnScope (N P : List Str) (sc : Scope) : Prop where
 kind : sc.kind = .function
 co : sc.isCoroutine = false
 gen : sc.isGenerator = false
 nd : N.Nodup
 pre : N.take P.length = P
 par : ∀ x ∈ P,sc.names.lookup x = some .local \/ sc.names.lookup x = some .cell
 nofree : ∀ y ∈ sc.names,y.2 ≠ .free
theorem bindL_out {kindOf : Str -> Option NameKind} {x : Str} : ∀ {binds : List (Str × Value)} {m : Str -> Option Value},(∀ v,(x,v) ∉ binds) -> bindL kindOf binds m x = m x
  | [],_,_ => rfl
  | (n,v) :: r,m,h => by
    unfold bindL
    rw [bindL_out fun w hw => h w (List.mem_cons_of_mem _ hw)]
    split
    · have : x ≠ n := by rintro rfl; exact h v List.mem_cons_self
      simp [this]
    · rfl
theorem bindC_out {kindOf : Str -> Option NameKind} {x : Str} : ∀ {binds : List (Str × Value)} {m : Str -> Option Value},(∀ v,(x,v) ∉ binds) -> bindC kindOf binds m x = m x
  | [],_,_ => rfl
  | (n,v) :: r,m,h => by
    unfold bindC
    rw [bindC_out fun w hw => h w (List.mem_cons_of_mem _ hw)]
    split
    · rfl
    · have : x ≠ n := by rintro rfl; exact h v List.mem_cons_self
      simp [this]
theorem bindL_get {kindOf : Str -> Option NameKind} {x : Str} {v : Value} : ∀ {P : List Str} {vs : List Value} {i : Nat} {m : Str -> Option Value},P.Nodup -> P[i]? = some x -> vs[i]? = some v -> kindOf x = some .local ->
  bindL kindOf (P.zip vs) m x = some v
 | [],_,_,_,_,h,_,_ => by simp at h
 | _ :: _,[],_,_,_,_,h,_ => by simp at h
 | p :: P,w :: vs,0,m,nd,h1,h2,hk => by
  simp at h1 h2; subst h1; subst h2
  show bindL kindOf ((p,w) :: P.zip vs) m p = _
  unfold bindL
  rw [bindL_out fun v hv => (List.nodup_cons.mp nd).1 (List.of_mem_zip hv).1,if_pos hk]
  simp
 | p :: P,w :: vs,i + 1,m,nd,h1,h2,hk => by
  show bindL kindOf ((p,w) :: P.zip vs) m x = _
  unfold bindL
  exact bindL_get (i := i) (List.nodup_cons.mp nd).2 (by simpa using h1) (by simpa using h2) hk
theorem bindC_get {kindOf : Str -> Option NameKind} {x : Str} {v : Value} : ∀ {P : List Str} {vs : List Value} {i : Nat} {m : Str -> Option Value},P.Nodup -> P[i]? = some x -> vs[i]? = some v -> kindOf x ≠ some .local ->
  bindC kindOf (P.zip vs) m x = some v
 | [],_,_,_,_,h,_,_ => by simp at h
 | _ :: _,[],_,_,_,_,h,_ => by simp at h
 | p :: P,w :: vs,0,m,nd,h1,h2,hk => by
  simp at h1 h2; subst h1; subst h2
  show bindC kindOf ((p,w) :: P.zip vs) m p = _
  unfold bindC
  rw [bindC_out fun v hv => (List.nodup_cons.mp nd).1 (List.of_mem_zip hv).1,if_neg hk]
  simp
 | p :: P,w :: vs,i + 1,m,nd,h1,h2,hk => by
  show bindC kindOf ((p,w) :: P.zip vs) m x = _
  unfold bindC
  exact bindC_get (i := i) (List.nodup_cons.mp nd).2 (by simpa using h1) (by simpa using h2) hk
def start (N : List Str) (vs : List V) : St := vs.map some ++ List.replicate (N.length - vs.length) none
def cxOf (CX : CXT) (P : Program) (w : World) (K : PySem.W.Frag) (mg : Str -> Option Value) (base : Heap) (N : List Str) (qual : Str) (scope : Scope) (f : Addr) (cd : Value) (A : Around) (outer : List Env) (s : Shared) (H : Hp) (E : XK) : Cx where
 prog := P
 w := w
 K := K
 mg := mg
 base := base
 A := A.deeper (envOfC qual scope s.heap.objs.size f cd)
 N := N
 s₀ := s
 H₀ := H
 env := envOfC qual scope s.heap.objs.size f cd
 outer := outer
 stack := envOfC qual scope s.heap.objs.size f cd :: outer
 ex := []
 calm := true
 fn := fun _ => true
 pn := []
 xe := fun e s' => wpAny (model P w) (A.deeper (envOfC qual scope s.heap.objs.size f cd)) (leaving (envOfC qual scope s.heap.objs.size f cd) e) (fun _ s'' => CX outer H s E e s'') (fun e' s'' => CX outer H s E e' s'') s'
theorem cell_has {sc : Scope} {n : Nat} {x : Str} (h : sc.names.lookup x = some .cell) : ∃ c,(cellsFrom n sc.names []).lookup x = some c := by
 have q := PySem.W.cellsFrom_some sc.names n [] (.inl h)
 exact Option.isSome_iff_exists.mp q
theorem inv_start {CX : CXT} {P : Program} {w : World} {K : PySem.W.Frag} {mg : Str -> Option Value} {base : Heap} {N ps : List Str} {qual : Str} {scope : Scope} {f : Addr} {cd : Value} {A : Around} {outer : List Env} {s s1 : Shared} {H : Hp} {E : XK} {us : List Value} {vs : List V}
  (S : FnScope N ps scope) (hd : A.handled = none) (e0 : Env0 P w K mg base A outer s H) (hl : vs.length = ps.length) (r : Vals vs us)
  (x : InCallC s s.heap.objs.size (bindL (envOfC qual scope s.heap.objs.size f cd).kindOf (ps.zip us) fun _ => none) (cellsFrom (s.heap.objs.size + 1) scope.names []) (bindC (envOfC qual scope s.heap.objs.size f cd).kindOf (ps.zip us) fun _ => none) s1) :
  Inv (cxOf CX P w K mg base N qual scope f cd A outer s H E) [] (start N vs) H s1 := by
 have hpl : ps.length <= N.length := by have := congrArg List.length S.pre; rw [List.length_take] at this; omega
 obtain ⟨h1,tk,rfl,hk⟩ := x.done
 have noA : ∀ b : Addr,b ∉ (cxOf CX P w K mg base N qual scope f cd A outer s H E).ex := fun b z => absurd (show b ∈ ([] : List Addr) from z) (by simp)
 refine ⟨⟨e0.mod,S.kind,rfl,rfl,Nat.le_refl _,fun y z c h1 h2 => ?_,fun y hy => ?_,fun y c _ h => ?_,fun _ => hd,Around.frames_deeper e0.frames,.inr ⟨rfl,rfl⟩,fun b z => absurd z (noA b),e0.bs,e0.bsz,fun b _ _ => noA b,fun b z => absurd z (noA b),e0.funs,e0.frf⟩,
  rfl,e0.bare,Un.kept hk,⟨_,x.toInCall.ns,fun i y v h1 h2 h3 => ?_⟩,fun y c h => ⟨_,x.cell y c h⟩,e0.hok.fresh (Nat.le_refl _),fun y c h => ?_,fun p hp => absurd (show p ∈ ([] : List (Addr × Obj)) from hp) (by simp),e0.hok.kept hk,?_⟩
 ·exact name_of_addr x.apart (PySem.mem_of_lookup h1) (PySem.mem_of_lookup h2)
 ·have hy : scope.names.lookup y = some .cell \/ scope.names.lookup y = some .free := hy
  rcases hy with hy | hy
  ·exact cell_has hy
  ·exact absurd rfl (S.nofree _ (PySem.mem_of_lookup hy))
 ·exact Nat.le_of_lt (x.above y c (PySem.mem_of_lookup h))
 ·have hi : i < vs.length := by
   unfold start at h2
   by_cases hi : i < vs.length
   ·exact hi
   ·rw [List.getElem?_append_right (by simpa using hi)] at h2
    rw [List.getElem?_replicate] at h2
    split at h2 <;> cases h2
  have ha : vs[i]? = some v := by
   unfold start at h2
   rw [List.getElem?_append_left (by simpa using hi),List.getElem?_map] at h2
   cases e : vs[i]? with
   | none => rw [e] at h2; cases h2
   | some a => rw [e] at h2; cases h2; rfl
  obtain ⟨u,hu,rv⟩ := r.get ha
  have hp : ps[i]? = some y := by
   rw [<- S.pre,List.getElem?_take_of_lt (by omega)]; exact h1
  have ndP : ps.Nodup := by rw [<- S.pre]; exact S.nd.sublist (List.take_sublist _ _)
  refine ⟨u,rv,?_⟩
  rcases S.par y (List.mem_of_getElem? hp) with k | k
  ·exact .inl ⟨k,bindL_get ndP hp hu k⟩
  ·obtain ⟨c,e⟩ := cell_has (n := s.heap.objs.size + 1) k
   refine .inr ⟨.inl k,c,e,?_⟩
   have q := x.cell y c e
   rw [bindC_get ndP hp hu (by show scope.names.lookup y ≠ _; rw [k]; decide)] at q
   exact q
 ·exact e0.hok.fresh (Nat.le_of_lt (x.above y c (PySem.mem_of_lookup h)))
 ·unfold start
  show _ = N.length
  rw [List.length_append,List.length_map,List.length_replicate]
  omega
theorem fn_of {CX : CXT} {P : Program} {w : World} {K : PySem.W.Frag} {mg : Str -> Option Value} {base : Heap} {k : Nat} {f : Addr} {name qual : Str} {params : Arguments} {body : List Stmt} {scope : Scope} {dV kV doc pm cdv ct oc : Value} {an od : Option Addr}
  {osl : Array (Option Value)} {N ps : List Str} {sp : Sp} (lk : K.lookup f = some ⟨oc,od,.func (PySem.W.fnOf name qual params body scope dV kV doc pm an cdv ct),osl⟩) (hcd : PySem.W.codeIn K cdv qual = true) (S : FnScope N ps scope)
  (len : ∀ vs H Q E,sp vs H Q E -> vs.length = ps.length)
  (hbody : ∀ (A : Around) (outer : List Env) (s : Shared) (H : Hp) (vs : List V) (Q : VK) (E : XK),Room k (A.deeper (envOfC qual scope s.heap.objs.size f cdv)) -> sp vs H Q E ->
   ∃ t,PSs (cxOf CX P w K mg base N qual scope f cdv A outer s H E) body t /\ t { nx := fun _ H' => Q .non H',rt := Q } (start N vs) H) :
  FnOk P w K mg base CX (k + 1) f (PySem.W.fnOf name qual params body scope dV kV doc pm an cdv ct) ps sp := by
 refine ⟨len,fun A outer s H args us vs Q E hr e0 hb r hsp => ?_⟩
 have hl := len _ _ _ _ hsp
 have KX : K.In s.heap := e0.mod.kin.keeps fun b o e => (e0.bs b o e).1
 have lim : s.heap.NoLimit := e0.mod.nolimit.keeps fun b o e => (e0.bs b o e).1
 have hkind : ∀ y ∈ ps.zip us,scope.names.lookup y.1 = some .local \/ (scope.names.lookup y.1 = some .cell /\ ((cellsFrom (s.heap.objs.size + 1) scope.names []).lookup y.1).isSome = true) := fun ⟨n,v⟩ hy => by
  rcases S.par n (List.of_mem_zip hy).1 with q | q
  ·exact .inl q
  ·exact .inr ⟨q,PySem.W.cellsFrom_some _ _ _ (.inl q)⟩
 refine codeAny_call_function hr.depth (KX _ _ lk) rfl S.co S.gen rfl (PySem.W.codeRec_of KX hcd) (hb _ _ _ _ ?_)
 refine wpAny_newFunctionEnv_cells S.kind hkind fun env he s1 x => ?_
 subst he
 refine ⟨lim.keeps x.toInCall.keep,codeAny_func ?_⟩
 obtain ⟨t,ht,hq⟩ := hbody A outer s H vs Q E (hr.deeper _) hsp
 have I : Inv (cxOf CX P w K mg base N qual scope f cdv A outer s H E) [] (start N vs) H s1 := inv_start S hr.hd e0 hl r x
 refine wpAny_mono (ht [] s1 (start N vs) H _ I hq) (fun fl s' hs => ?_) fun e s' hs => hs
 have fin : ∀ {σ' : St} {H' : Hp} {v : V} {u : Value},Inv (cxOf CX P w K mg base N qual scope f cdv A outer s H E) [] σ' H' s' -> RelV v u -> Q v H' -> CE outer P w H s Q u s' :=
  fun {σ' H' v u} J rv q => ⟨v,H',J.os,J.bare,J.base,J.hok,rv,q⟩
 cases fl with
 | ret u =>
  obtain ⟨v,σ',H',J,rv,q⟩ := hs
  exact fin J rv q
 | next =>
  obtain ⟨σ',H',J,q⟩ := hs
  exact fin (v := V.non) (u := Value.none) J rfl q
 | brk =>
  obtain ⟨_,_,_,q⟩ := hs
  exact False.elim q
 | cont =>
  obtain ⟨_,_,_,q⟩ := hs
  exact False.elim q
end L2
namespace L2
open PySem PySem.Spec PyProof.Rows
section
variable {X : Cx} {x : Str} {p pos : Pos} {e : Expr} {es : List Expr} {t : TA} {id T : String} {r : List V -> Hp -> VK -> Prop}
def tCB (r : List V -> Hp -> VK -> Prop) (t : TA) : TE := fun σ H Q => t σ H fun vs H1 => r vs H1 Q
theorem pe_callB (hc : CallR X (.builtin id) r) (hg : Gl X x) (hm : X.mg x = none) (hv : bootBuiltins x = some (.builtin id)) (ha : PA X (e :: es) t) (hn : x ≠ "__name__" := by decide) (hdb : (x == ("__debug__" : Str)) = false := by decide)
  (he : starEach (e :: es) X.env = (false,eval e X.env) :: starEach es X.env := by rfl) (hpl : (backTo pos (starEach es X.env)).any (·.1) = false := by rfl) : PE X (.Call (.Name x p) (e :: es) [] pos) (tCB r t) := by
 intro pins s σ H Q I h
 refine wpAny_Call_Name_kw (ld_blt I hg hm hv ?_ hn hdb)
 exact PyProof.Rows.callWith_builtin1 (thn (ha pos pins s σ H _ I h) fun us s1 ⟨vs,H1,I1,r1,q1⟩ => hc pins s1 σ H1 vs us Q I1 r1 q1) he hpl
theorem pe_callTy (hc : CallR X (.type T) r) (hg : Gl X x) (hm : X.mg x = none) (hv : bootBuiltins x = some (.type T)) (ha : PA X (e :: es) t) (hn : x ≠ "__name__" := by decide) (hdb : (x == ("__debug__" : Str)) = false := by decide)
  (he : starEach (e :: es) X.env = (false,eval e X.env) :: starEach es X.env := by rfl) (hpl : (backTo pos (starEach es X.env)).any (·.1) = false := by rfl) : PE X (.Call (.Name x p) (e :: es) [] pos) (tCB r t) := by
 intro pins s σ H Q I h
 refine wpAny_Call_Name_kw (ld_blt I hg hm hv ?_ hn hdb)
 exact PyProof.Rows.callWith_type1 (thn (ha pos pins s σ H _ I h) fun us s1 ⟨vs,H1,I1,r1,q1⟩ => hc pins s1 σ H1 vs us Q I1 r1 q1) he hpl
end
end L2
namespace HT
open PySem PyProof.Rows
def lexLt : List Int -> List Int -> Bool
 | [],[] => false
 | [],_ :: _ => true
 | _ :: _,[] => false
 | x :: xs,y :: ys => if x = y then lexLt xs ys else decide (x < y)
section
open PySem.SeqAt
open PySem.AutoSeq1 (wpAny_loadPart')
open PySem.MeetsSeq PySem.MeetsSeq2 PySem.MeetsSeq3
end
section
variable {prog : Program} {w : World} {A : Around} {E : Value -> Shared -> Prop} {s : Shared}
theorem cat_tup {t b : Addr} {vs ws : List Value} {Q : Value -> Shared -> Prop} (ht : IsTup s.heap t vs.toArray) (hb : IsTup s.heap b ws.toArray) (hv : vs ≠ [])
  (h1 : ws = [] -> Q (.ref t) s) (h2 : ws ≠ [] -> Q (.ref s.heap.objs.size) { s with heap := s.heap.push { cls := .type "tuple",data := .seq (vs ++ ws).toArray } })
  (hsz : vs.length + ws.length <= sizeLine) : wpAny (model prog w) A (binaryOp .Add (.ref t) (.ref b)) Q E s := by
 obtain ⟨⟨cls,dd,data,sl⟩,ho,hc,n,hd⟩ := id ht
 obtain ⟨⟨cls2,dd2,data2,sl2⟩,ho2,hc2,n2,hd2⟩ := id hb
 simp only at hc hd hc2 hd2
 subst hc hd hc2 hd2
 have e : vs.toArray ++ ws.toArray = (vs ++ ws).toArray := by simp
 by_cases hw : ws = []
 ·exact concat_meets ⟨_,ho,rfl⟩ ⟨_,ho2,rfl⟩ noFill_tuple_add seq_tuple_add PySem.F.slot_tuple_add PySem.F.entry_tuple_add (PySem.F.args_tuple_add_2 _ _)
   (tuple_addW1 t b vs.toArray ws.toArray n n2 dd dd2 sl sl2 (by simpa using hv) (by simp [hw])) ⟨ho,ho2,h1 hw⟩
 ·refine concat_meets ⟨_,ho,rfl⟩ ⟨_,ho2,rfl⟩ noFill_tuple_add seq_tuple_add PySem.F.slot_tuple_add PySem.F.entry_tuple_add (PySem.F.args_tuple_add_2 _ _)
   (tuple_addW2 t b vs.toArray ws.toArray n n2 dd dd2 sl sl2 (by simpa using hv) (by simpa using hw) (by rw [List.size_toArray,List.size_toArray]; exact hsz)) ⟨ho,ho2,?_⟩
  rw [e]
  exact h2 hw
def sIx (n d : Nat) : Option Int -> Nat
 | none => d
 | some v => if v < 0 then (v + (n : Int)).toNat else min v.toNat n
theorem sIx_none (n d : Nat) : sIx n d none = d := rfl
theorem sIx_nat (n d k : Nat) : sIx n d (some (k : Int)) = min k n := by
 show (if (k : Int) < 0 then ((k : Int) + (n : Int)).toNat else min (k : Int).toNat n) = min k n
 rw [if_neg (by omega),Int.toNat_natCast]
theorem sIx_le (n d : Nat) (hd : d <= n) (o : Option Int) : sIx n d o <= n := by
 cases o with
 | none => exact hd
 | some v =>
  show (if v < 0 then (v + (n : Int)).toNat else min v.toNat n) <= n
  by_cases hv : v < 0
  ·rw [if_pos hv]; omega
  ·rw [if_neg hv]; exact Nat.min_le_right _ _
theorem clip_eq (v : Int) (n d : Nat) : (if v < 0 then max (v + (n : Int)) 0 else min v (n : Int)) = ((sIx n d (some v) : Nat) : Int) := by
 show (if v < 0 then max (v + (n : Int)) 0 else min v (n : Int)) = (((if v < 0 then (v + (n : Int)).toNat else min v.toNat n) : Nat) : Int)
 by_cases hv : v < 0
 ·simp only [if_pos hv]; omega
 ·simp only [if_neg hv]; omega
theorem adjust_gen (lo hi : Option Int) (n : Nat) : Builtin.Slice.sliceAdjust lo hi 1 (n : Int) = (((sIx n 0 lo : Nat) : Int),((sIx n n hi : Nat) : Int)) := by
 have h1 : ¬ ((1 : Int) < 0) := by omega
 unfold Builtin.Slice.sliceAdjust
 simp only [h1,if_false]
 refine Prod.ext ?_ ?_
 ·cases lo with
  | none => rfl
  | some v => exact clip_eq v n 0
 ·cases hi with
  | none => rfl
  | some v => exact clip_eq v n n
theorem places_gen (i j : Nat) : Builtin.Slice.slicePlaces (i : Int) (j : Int) 1 = j - i := by
 unfold Builtin.Slice.slicePlaces
 have h1 : (1 : Int) > 0 := by omega
 simp only [h1,if_true,Int.ediv_one]
 split <;> omega
theorem slicePart_ {v : Value} {o : Option Int} {Q : Option Int -> Shared -> Prop} (p : IsPart v o) (h : Q o s) : wpAny (model prog w) A (Builtin.Slice.slicePartIndex v) Q E s := by
 cases p with
 | none => exact slicePart_none h
 | int i t => exact slicePart_int h
theorem sliceApplied_gen {sl : Addr} {vl vu : Value} {lo hi : Option Int} {n : Nat} {Q : Int × Int × Nat -> Shared -> Prop} (hs : s.heap.IsSliceOf sl vl vu .none) (pl : IsPart vl lo) (pu : IsPart vu hi)
    (h : Q (((sIx n 0 lo : Nat) : Int),1,sIx n n hi - sIx n 0 lo) s) : wpAny (model prog w) A (Builtin.Slice.sliceApplied (.ref sl) (pure (n : Int))) Q E s := by
  obtain ⟨os,hos,hcs,hds⟩ := id hs
  unfold Builtin.Slice.sliceApplied Builtin.Slice.sliceFields
  refine wpAny_bind (wpAny_bind (wpAny_field hos hds (x := vl) rfl (wpAny_bind (wpAny_field hos hds (x := vu) rfl (wpAny_bind (wpAny_field hos hds (x := .none) rfl (wpAny_pure ?_)))))))
  refine wpAny_bind (slicePart_none ?_)
  show wpAny _ _ (if ((1 : Int) == 0) = true then _ else _) _ _ s
  rw [if_neg (by decide)]
  refine wpAny_bind (slicePart_ pl (wpAny_bind (slicePart_ pu (wpAny_bind (wpAny_pure ?_)))))
  show wpAny _ _ (match Builtin.Slice.sliceAdjust lo hi 1 (n : Int) with | (lo,hi) => pure (lo,(1 : Int),Builtin.Slice.slicePlaces lo hi 1)) _ _ s
  rw [adjust_gen lo hi n]
  show wpAny _ _ (pure (((sIx n 0 lo : Nat) : Int),(1 : Int),Builtin.Slice.slicePlaces ((sIx n 0 lo : Nat) : Int) ((sIx n n hi : Nat) : Int) 1)) _ _ s
  rw [places_gen]
  exact wpAny_pure h
theorem pick_gen (xs : Array Value) (i k : Nat) : ((List.range k).filterMap fun (m : Nat) => xs[((i : Int) + (m : Int) * 1).toNat]?).toArray = ((xs.toList.drop i).take k).toArray := by
 have e : (fun (m : Nat) => xs[((i : Int) + (m : Int) * 1).toNat]?) = fun m => xs[i + m]? := by
  funext m
  have : ((i : Int) + (m : Int) * 1).toNat = i + m := by omega
  rw [this]
 rw [e]
 have := pick_run xs i k
 rw [List.filterMap_map] at this
 have e2 : ((fun x => xs[x]?) ∘ fun x => i + x) = fun m => xs[i + m]? := rfl
 rw [e2] at this
 rw [this]
theorem getItem_tuple_cut {t sl : Addr} {items : Array Value} {vl vu : Value} {lo hi : Option Int} {Q : Value -> Shared -> Prop} (ht : IsTup s.heap t items) (hs : s.heap.IsSliceOf sl vl vu .none) (pl : IsPart vl lo) (pu : IsPart vu hi)
  (hw : ¬ (sIx items.size 0 lo = 0 /\ sIx items.size items.size hi = items.size))
  (h : Q (.ref s.heap.objs.size) { s with heap := s.heap.push { cls := .type "tuple",data := .seq ((items.toList.drop (sIx items.size 0 lo)).take (sIx items.size items.size hi - sIx items.size 0 lo)).toArray } })
  (hsz : items.size <= sizeLine) : wpAny (model prog w) A (getItem (.ref t) (.ref sl)) Q E s := by
 have htake : sizeOk (.seq ((items.toList.drop (sIx items.size 0 lo)).take (sIx items.size items.size hi - sIx items.size 0 lo)).toArray) := by
  show ((items.toList.drop (sIx items.size 0 lo)).take (sIx items.size items.size hi - sIx items.size 0 lo)).toArray.size <= sizeLine
  rw [List.size_toArray,List.length_take,List.length_drop,Array.length_toList]
  omega
 have hj : sIx items.size items.size hi <= items.size := sIx_le _ _ (Nat.le_refl _) hi
 obtain ⟨os,hos,hcs,hds⟩ := id hs
 have hTs : s.TypeIs (.ref sl) "slice" := ⟨os,hos,hcs⟩
 unfold getItem
 try with_reducible refine wpAny_holding ?_
 first | refine wpAny_bind (wpAny_pure ?_) | skip
 refine wpAny_bind (wpAny_sequenceKey ht.typeIs (by decide) ?_)
 refine wpAny_bind (wpAny_callSpecial?_slot (name := Str.ofString "__getitem__") ht.typeIs PyProof.Rows.slot_tuple_getitem
  (wpAny_call_entry PyProof.Rows.slot_tuple_getitem ht.typeIs entry_tuple_getitem ?_ (args_tuple_getitem _ _)))
 show wpAny _ _ (Builtin.Tuple.tupleItemsOf (.ref t) >>= _) _ _ s
 refine wpAny_bind (tupleItemsOf_ ht ?_)
 refine wpAny_bind (wpAny_typeOf hTs ?_)
 rw [if_pos (by decide)]
 refine wpAny_bind (sliceApplied_gen hs pl pu ?_)
 have hno : ¬ ((((sIx items.size 0 lo : Nat) : Int) == 0 && (1 : Int) == 1 && (sIx items.size items.size hi - sIx items.size 0 lo) == items.size) = true) := by
  intro q
  rw [Bool.and_eq_true,Bool.and_eq_true] at q
  have q1 : ((sIx items.size 0 lo : Nat) : Int) = 0 := eq_of_beq q.1.1
  have q2 : sIx items.size items.size hi - sIx items.size 0 lo = items.size := eq_of_beq q.2
  exact hw ⟨by omega,by omega⟩
 show wpAny _ _ (if (((sIx items.size 0 lo : Nat) : Int) == 0 && (1 : Int) == 1 && (sIx items.size items.size hi - sIx items.size 0 lo) == items.size) = true then _ else _) _ _ s
 rw [if_neg hno,pick_gen]
 first
  | exact wpAny_bind (m := Builtin.Tuple.tupleExact _) (wpAny_newObj_type (wpAny_pure ⟨_,rfl,wpAny_pure h⟩) htake)
  | exact wpAny_bind (m := Builtin.Tuple.tupleExact _) (wpAny_newObj_type (wpAny_bind (wpAny_pure (wpAny_pure ⟨_,rfl,wpAny_pure h⟩))) htake)
  | exact wpAny_bind (wpAny_bind (m := Builtin.Tuple.tupleExact _) (wpAny_newObj_type (wpAny_pure (wpAny_pure ⟨_,rfl,wpAny_pure h⟩)) htake))
  | exact wpAny_bind (wpAny_bind (m := Builtin.Tuple.tupleExact _) (wpAny_newObj_type (wpAny_pure ⟨_,rfl,wpAny_pure h⟩) htake))
end
end HT
namespace L2
open PySem PySem.Spec PyProof.Rows
abbrev TO := St -> Hp -> (Option Int -> Hp -> Prop) -> Prop
def PO (X : Cx) (e : Option Expr) (t : TO) : Prop :=
 ∀ (pins : List (Addr × Obj)) (s : Shared) (σ : St) (H : Hp) (Q : Option Int -> Hp -> Prop),Inv X pins σ H s -> t σ H Q ->
  wpAny (model X.prog X.w) X.A (evalPart e X.env) (fun u s' => ∃ o H',Inv X pins σ H' s' /\ IsPart u o /\ Q o H') X.xe s
def tNoPart : TO := fun _ H Q => Q none H
def tPart (t : TE) : TO := fun σ H Q => t σ H fun x H1 => ∃ i,x = .int i /\ Q (some i) H1
section
variable {X : Cx} {e : Expr} {te : TE} {lo hi : Option Expr} {tl th : TO} {pos p2 : Pos}
theorem po_none : PO X none tNoPart := by
 intro pins s σ H Q I h
 rw [evalPart_none]
 exact wpAny_pure ⟨none,H,I,.none,h⟩
theorem po_some (h : PE X e te) : PO X (some e) (tPart te) := by
 intro pins s σ H Q I hw
 rw [evalPart_some]
 refine thn (h pins s σ H _ I hw) fun u s1 ⟨x,H1,I1,r1,q1⟩ => ?_
 obtain ⟨i,rfl,q⟩ := q1
 obtain ⟨t,rfl⟩ := r1
 exact ⟨some i,H1,I1,.int i t,q⟩
def SlR (X : Cx) (r : V -> Option Int -> Option Int -> Hp -> VK -> Prop) : Prop :=
 ∀ (pins : List (Addr × Obj)) (s : Shared) (σ : St) (H : Hp) (x : V) (v vl vu : Value) (lo hi : Option Int) (sl : Addr) (Q : VK),Inv X pins σ H s -> RelV x v -> s.heap.IsSliceOf sl vl vu .none -> IsPart vl lo -> IsPart vu hi -> r x lo hi H Q ->
  ∃ T id,typeLookup (.type T) "__getitem__" = pure (some (.builtin id)) /\ s.TypeIs v T /\ wpAny (model X.prog X.w) X.A (getItem v (.ref sl)) (EP X pins σ Q) X.xe s
def tSl (r : V -> Option Int -> Option Int -> Hp -> VK -> Prop) (te : TE) (tl th : TO) : TE := fun σ H Q => te σ H fun x H1 => tl σ H1 fun l H2 => th σ H2 fun u H3 => r x l u H3 Q
theorem pe_slice {r : V -> Option Int -> Option Int -> Hp -> VK -> Prop} (hr : SlR X r) (he : PE X e te) (hl : PO X lo tl) (hu : PO X hi th) : PE X (.Subscript e (.Slice lo hi none p2) pos) (tSl r te tl th) := by
 intro pins s σ H Q I h
 refine Subscript_ (thn (he pins s σ H _ I h) fun v s1 ⟨x,H1,I1,r1,q1⟩ => ?_)
 refine wpAny_Slice (thn (hl pins s1 σ H1 _ I1 q1) fun vl s2 ⟨l,H2,I2,pl,q2⟩ => thn (hu pins s2 σ H2 _ I2 q2) fun vu s3 ⟨u,H3,I3,pu,q3⟩ => ?_)
 rw [evalPart_none]
 refine wpAny_pure ?_
 have I4 : Inv X pins σ H3 { s3 with heap := s3.heap.push { cls := .type "slice",data := .fields #[vl,vu,.none] } } := I3.kept (t' := s3.toks) fun b ob q => Heap.get?_push_of_some _ q
 obtain ⟨T,id,hT,ht,hg⟩ := hr pins { s3 with heap := s3.heap.push { cls := .type "slice",data := .fields #[vl,vu,.none] } } σ H3 x v vl vu l u s3.heap.objs.size Q I4 r1 (Heap.IsSliceOf.new ..) pl pu q3
 show wpAny (model X.prog X.w) X.A (subscriptTail e (.Slice lo hi none p2) v (.ref s3.heap.objs.size)) (EP X pins σ Q) X.xe { s3 with heap := s3.heap.push { cls := .type "slice",data := .fields #[vl,vu,.none] } }
 exact tail_any (ops := [.ref s3.heap.objs.size,v]) ht hT hg (by with_unfolding_all rfl)
def cutV (xs : List V) (lo hi : Option Int) : List V := (xs.drop (HT.sIx xs.length 0 lo)).take (HT.sIx xs.length xs.length hi - HT.sIx xs.length 0 lo)
theorem cutV_length (xs : List V) (lo hi : Option Int) : (cutV xs lo hi).length <= xs.length := by
 unfold cutV
 rw [List.length_take,List.length_drop]
 omega
def rSlT (K : PySem.W.Frag) : V -> Option Int -> Option Int -> Hp -> VK -> Prop := fun x lo hi H Q => ∃ a xs,x = .ref a /\ SqT K H a xs /\
 ¬ (HT.sIx xs.length 0 lo = 0 /\ HT.sIx xs.length xs.length hi = xs.length) /\ ∀ p,H p = none -> Q (.ref p) (upd H p (.tup (cutV xs lo hi)))
theorem sl_tup : SlR X (rSlT X.K) := by
 intro pins s σ H x v vl vu lo hi sl Q I rx hs pl pu h
 obtain ⟨a,xs,rfl,hx,hw,q⟩ := h
 cases rx
 obtain ⟨its,r,ht,hz⟩ := I.tuple hx
 have hlen : its.toArray.size = xs.length := by rw [List.size_toArray]; exact r.length.symm
 refine ⟨"tuple",_,PyProof.Rows.slot_tuple_getitem.lookup,ht.typeIs,?_⟩
 refine HT.getItem_tuple_cut ht hs pl pu (by rw [hlen]; exact hw) ?_ (by rw [hlen]; exact hz)
 rw [hlen]
 refine ⟨.ref s.heap.objs.size,_,I.laid (t' := s.toks) (o := .tup (cutV xs lo hi)) (fun b ob q => Heap.get?_push_of_some _ q) (Nat.le_refl _) ?_,rfl,q _ (I.hok.fresh (Nat.le_refl _))⟩
 exact ⟨Nat.le_trans (cutV_length xs lo hi) hz,_,(r.drop (HT.sIx xs.length 0 lo)).take (HT.sIx xs.length xs.length hi - HT.sIx xs.length 0 lo),IsTup.new _ _⟩
def rLtT (K : PySem.W.Frag) : R2 := fun x y H Q => ∃ a b ns ms,x = .ref a /\ y = .ref b /\ SqT K H a (ns.map V.int) /\ SqT K H b (ms.map V.int) /\ Q (.bl (HT.lexLt ns ms)) H
def rCatT (K : PySem.W.Frag) : R2 := fun x y H Q => ∃ a b xs ys,x = .ref a /\ y = .ref b /\ SqT K H a xs /\ SqT K H b ys /\ xs ≠ [] /\ xs.length + ys.length <= sizeLine /\
 (ys = [] -> Q (.ref a) H) /\ (ys ≠ [] -> ∀ p,H p = none -> Q (.ref p) (upd H p (.tup (xs ++ ys))))
theorem Vals.nil_iff {xs : List V} {us : List Value} (r : Vals xs us) : us = [] ↔ xs = [] := by
 cases r with
 | nil => simp
 | cons _ _ => simp
theorem op_catT : OpR X (binaryOp .Add) (rCatT X.K) := by
 intro pins s σ H x y v u Q I rx ry h
 obtain ⟨a,b,xs,ys,rfl,rfl,ha,hb,hx,hz,q1,q2⟩ := h
 cases rx
 cases ry
 obtain ⟨its,r1,p1,_⟩ := I.tuple ha
 obtain ⟨its2,r2,p2,_⟩ := I.tuple hb
 refine HT.cat_tup p1 p2 (fun z => hx (r1.nil_iff.mp z)) (fun z => ⟨.ref a,H,I,rfl,q1 (r2.nil_iff.mp z)⟩) (fun z => ?_) (by rw [<- r1.length,<- r2.length]; exact hz)
 refine ⟨.ref s.heap.objs.size,_,I.laid (t' := s.toks) (o := .tup (xs ++ ys)) (fun b ob q => Heap.get?_push_of_some _ q) (Nat.le_refl _) ?_,rfl,q2 (fun w => z (r2.nil_iff.mpr w)) _ (I.hok.fresh (Nat.le_refl _))⟩
 exact ⟨by rw [List.length_append]; exact hz,_,r1.append r2,IsTup.new _ _⟩
end
end L2
namespace L2
open PySem PySem.Spec PyProof.Rows
def ixN (n : Nat) (i : Int) : Option Nat := if 0 <= i then (if i < n then some i.toNat else none) else if -(n : Int) <= i then some (i + n).toNat else none
def atI {α : Type} (xs : List α) (i : Int) : Option α := (ixN xs.length i).bind fun j => xs[j]?
theorem ixN_seq {n : Nat} {i : Int} {j : Nat} (h : ixN n i = some j) : seqIndex? i n = some j /\ j < n /\ -(n : Int) <= i /\ i < n := by
 unfold ixN at h
 by_cases h0 : 0 <= i
 ·rw [if_pos h0] at h
  by_cases h1 : i < n
  ·rw [if_pos h1] at h
   have e : i.toNat = j := Option.some.inj h
   exact ⟨by rw [seqIndex_of h0 h1,e],by omega,by omega,h1⟩
  ·rw [if_neg h1] at h; cases h
 ·rw [if_neg h0] at h
  by_cases h1 : -(n : Int) <= i
  ·rw [if_pos h1] at h
   have e : (i + n).toNat = j := Option.some.inj h
   exact ⟨by rw [seqIndex_neg (by omega) h1,e],by omega,h1,by omega⟩
  ·rw [if_neg h1] at h; cases h
theorem atI_get {α : Type} {xs : List α} {i : Int} {v : α} (h : atI xs i = some v) : ∃ j,seqIndex? i xs.length = some j /\ xs[j]? = some v /\ j < xs.length /\ -(xs.length : Int) <= i /\ i < xs.length := by
 unfold atI at h
 cases e : ixN xs.length i with
 | none => rw [e] at h; cases h
 | some j =>
  rw [e] at h
  obtain ⟨h1,h2,h3,h4⟩ := ixN_seq e
  exact ⟨j,h1,h,h2,h3,h4⟩
theorem atI_nat {α : Type} {xs : List α} {j : Nat} {v : α} (h : xs[j]? = some v) : atI xs (j : Int) = some v := by
 have hj : j < xs.length := (List.getElem?_eq_some_iff.mp h).1
 have e : ixN xs.length (j : Int) = some j := by
  unfold ixN
  rw [if_pos (by omega),if_pos (by omega)]; simp
 unfold atI; rw [e]; exact h
def PlainIx (b : Expr) : Prop := ∀ o i,subscripted b false o i = operate [o,i] (getItem o i)
def IxR (X : Cx) (r : R2) : Prop :=
 ∀ (value slice : Expr) (pins : List (Addr × Obj)) (s : Shared) (σ : St) (H : Hp) (x y : V) (v u : Value) (Q : VK),Inv X pins σ H s -> RelV x v -> RelV y u -> r x y H Q ->
  subscripted slice false v u = operate [v,u] (getItem v u) -> wpAny (model X.prog X.w) X.A (subscriptTail value slice v u) (EP X pins σ Q) X.xe s
def MtR (X : Cx) (id : String) (r : V -> List V -> Hp -> VK -> Prop) : Prop :=
 ∀ (pins : List (Addr × Obj)) (s : Shared) (σ : St) (H : Hp) (x : V) (xs : List V) (v : Value) (us : List Value) (Q : VK),Inv X pins σ H s -> RelV x v -> Vals xs us -> r x xs H Q ->
  wpAny (model X.prog X.w) X.A (call (.builtin id) (v :: us)) (EP X pins σ Q) X.xe s
section
variable {X : Cx} {a b : Expr} {ta tb : TE} {pos : Pos}
theorem pe_ix {r : R2} (hr : IxR X r) (ha : PE X a ta) (hb : PE X b tb) (hs : PlainIx b) : PE X (.Subscript a b pos) (tOp r ta tb) := by
 intro pins s σ H Q I h
 exact Subscript_ (binT ha hb I h fun v u s2 x y H2 I2 rx ry q => hr a b pins s2 σ H2 x y v u Q I2 rx ry q (hs _ _))
def rIxL (K : PySem.W.Frag) : R2 := fun x y H Q => ∃ p xs i v,x = .ref p /\ y = .int i /\ SqL K H p xs /\ atI xs i = some v /\ Q v H
def rIxT (K : PySem.W.Frag) : R2 := fun x y H Q => ∃ p xs i v,x = .ref p /\ y = .int i /\ SqT K H p xs /\ atI xs i = some v /\ Q v H
def rIxS : R2 := fun x y H Q => ∃ z i c,x = .str z /\ y = .int i /\ z.length <= sizeLine /\ atI z.cps.toList i = some c /\ Q (.str ⟨#[c]⟩) H
theorem ix_list : IxR X (rIxL X.K) := by
 intro value slice pins s σ H x y v u Q I rx ry h hs
 obtain ⟨p,xs,i,z,rfl,rfl,hq,he,q⟩ := h
 cases rx
 obtain ⟨t,rfl⟩ := ry
 obtain ⟨its,r,pl,hz⟩ := I.list hq
 obtain ⟨j,h1,h2,h3,h4,h5⟩ := atI_get he
 obtain ⟨w,ew,rw'⟩ := r.get h2
 have hl := r.length
 have hn := line63
 have fin : EP X pins σ Q w s := ⟨z,H,I,rw',q⟩
 by_cases h0 : 0 <= i
 ·have hj : i.toNat = j := by
   rw [seqIndex_of h0 h5] at h1
   exact Option.some.inj h1
  exact item_listR pl.isList h0 (by omega) (by rw [hj]; simpa using ew) fin hs
 ·have hj : (i + (its.toArray.size : Int)).toNat = j := by
   rw [seqIndex_neg (by omega) h4] at h1
   rw [List.size_toArray,<- hl]
   exact Option.some.inj h1
  exact subscriptTail_builtinR (x := w) pl.isList.typeIs slot_list_getitem.lookup
   (wpAny_getItem_list_neg (Q := fun r s' => r = w /\ EP X pins σ Q r s') pl.isList (by omega) (by rw [List.size_toArray] <;> omega) (by omega) (by rw [hj]; simpa using ew) ⟨rfl,fin⟩) hs
theorem ix_tup : IxR X (rIxT X.K) := by
 intro value slice pins s σ H x y v u Q I rx ry h hs
 obtain ⟨p,xs,i,z,rfl,rfl,hq,he,q⟩ := h
 cases rx
 obtain ⟨t,rfl⟩ := ry
 obtain ⟨its,r,pl,hz⟩ := I.tuple hq
 obtain ⟨j,h1,h2,h3,h4,h5⟩ := atI_get he
 obtain ⟨w,ew,rw'⟩ := r.get h2
 have hl := r.length
 have hn := line63
 have fin : EP X pins σ Q w s := ⟨z,H,I,rw',q⟩
 exact subscriptTail_builtinR (x := w) pl.typeIs slot_tuple_getitem.lookup
  (getItem_tuple (j := j) (Q := fun r s' => r = w /\ EP X pins σ Q r s') pl (by omega) (by omega) (by rw [List.size_toArray,<- hl]; exact h1) (by simpa using ew) ⟨rfl,fin⟩) hs
theorem ix_str : IxR X rIxS := by
 intro value slice pins s σ H x y v u Q I rx ry h hs
 obtain ⟨z,i,c,rfl,rfl,hz,he,q⟩ := h
 obtain ⟨t,rfl⟩ := rx
 obtain ⟨t',rfl⟩ := ry
 obtain ⟨j,h1,h2,h3,h4,h5⟩ := atI_get he
 have hl : z.cps.toList.length = z.length := by simp [Str.length]
 rw [hl] at h1 h4 h5
 have hn := line63
 exact tail_any (typeIs_str s z t) slot_str_getitem.lookup (getItem_str (c := c) (by
  have e1 : decide (i < -(2 ^ 63 : Int)) = false := decide_eq_false (by omega)
  have e2 : decide (i ≥ 2 ^ 63) = false := decide_eq_false (by omega)
  rw [e1,e2,Bool.or_false]) (by rw [h1]; simpa using h2) ⟨.str ⟨#[c]⟩,H,I.tok _,⟨_,rfl⟩,q⟩) hs
def rIx (K : PySem.W.Frag) : R2 := fun x y H Q => rIxL K x y H Q \/ rIxT K x y H Q \/ rIxS x y H Q
theorem mapSeq_set (its : List Value) (n j : Nat) (u : Value) : Obj.mapSeq (·.setIfInBounds j u) { cls := .type "list",data := .seq its.toArray n } = { cls := .type "list",data := .seq (its.set j u).toArray n } := by
 simp [Obj.mapSeq]
theorem Inv.lst {pins : List (Addr × Obj)} {σ : St} {H : Hp} {s : Shared} {p : Addr} {xs : List V} (I : Inv X pins σ H s) (h : H p = some (.lst xs)) :
  ∃ (its : List Value) (n : Nat),Vals xs its /\ s.heap.get? p = some { cls := .type "list",data := .seq its.toArray n } /\ xs.length <= sizeLine := by
 obtain ⟨z,its,n,r,e⟩ := I.hok p _ h
 exact ⟨its,n,r,e,z⟩
theorem Inv.lstUpd {pins : List (Addr × Obj)} {σ : St} {H : Hp} {s : Shared} {p : Addr} {xs ys : List V} {its its' : List Value} {n n' : Nat} {f : Obj -> Obj} (I : Inv X pins σ H s) (h : H p = some (.lst xs))
  (ho : s.heap.get? p = some { cls := .type "list",data := .seq its.toArray n }) (hf : f { cls := .type "list",data := .seq its.toArray n } = { cls := .type "list",data := .seq its'.toArray n' }) (r : Vals ys its') (hz : ys.length <= sizeLine) (t : Nat) :
  Inv X pins σ (upd H p (.lst ys)) { s with heap := s.heap.update p f,toks := t } := by
 have e : (s.heap.update p f).get? p = some { cls := .type "list",data := .seq its'.toArray n' } := by
  rw [Heap.get?_update_self f ho (by rw [hf] <;> rfl),hf]
 refine I.write (x := p) (e := p) (by rw [h]; trivial) (.inl rfl) (fun b u hb q => (Heap.get?_update_other _ _ (Ne.symm hb)).trans q) ⟨_,e⟩ ?_
 exact ⟨hz,its',n',r,e⟩
def rSetL : V -> V -> V -> Hp -> (Hp -> Prop) -> Prop := fun o i v H Q => ∃ p xs k j,o = .ref p /\ i = .int k /\ H p = some (.lst xs) /\ ixN xs.length k = some j /\ Q (upd H p (.lst (xs.set j v)))
theorem set_list : PSet X rSetL := by
 intro pins s σ H o i v ov iv u Q I ro ri rv h
 obtain ⟨p,xs,k,j,rfl,rfl,hp,hj,q⟩ := h
 cases ro
 obtain ⟨t,rfl⟩ := ri
 obtain ⟨its,n,r,ho,hz⟩ := I.lst hp
 obtain ⟨h1,h2,h3,h4⟩ := ixN_seq hj
 have hl := r.length
 have hn := line63
 have I' : Inv X pins σ (upd H p (.lst (xs.set j v))) { s with heap := s.heap.update p (Obj.mapSeq (·.setIfInBounds j u)) } :=
  I.lstUpd hp ho (mapSeq_set its n j u) (r.set rv j) (by rw [List.length_set]; exact hz) s.toks
 by_cases h0 : 0 <= k
 ·have hk : k.toNat = j := by
   rw [seqIndex_of h0 h4] at h1
   exact Option.some.inj h1
  exact PySem.W.ki_setAt ho h0 (by omega) (by rw [List.size_toArray,<- hl]; exact h4) (by rw [hk]; exact ⟨_,I',q⟩)
 ·have hk : (k + (its.toArray.size : Int)).toNat = j := by
   rw [seqIndex_neg (by omega) h3] at h1
   rw [List.size_toArray,<- hl]
   exact Option.some.inj h1
  exact PySem.W.ki_setBack ho (by omega) (by rw [List.size_toArray,<- hl]; exact h3) (by omega) (by rw [hk]; exact ⟨_,I',q⟩)
theorem slice_bounds (lo hi : Option Int) (n : Nat) : (sliceBounds lo hi none n).1 = ((HT.sIx n 0 lo : Nat) : Int) /\ (sliceBounds lo hi none n).2.1 = ((HT.sIx n n hi : Nat) : Int) /\ (sliceBounds lo hi none n).2.2 = 1 := by
 refine ⟨?_,?_,rfl⟩
 ·cases lo with
  | none => simp [sliceBounds,HT.sIx]
  | some i =>
   simp only [sliceBounds,HT.sIx,Option.getD_none,show (1 : Int) > 0 by decide,if_true]
   by_cases h : i < 0
   ·simp only [h,if_true] <;> omega
   ·simp only [h,if_false] <;> omega
 ·cases hi with
  | none => simp [sliceBounds,HT.sIx]
  | some i =>
   simp only [sliceBounds,HT.sIx,Option.getD_none,show (1 : Int) > 0 by decide,if_true]
   by_cases h : i < 0
   ·simp only [h,if_true] <;> omega
   ·simp only [h,if_false] <;> omega
theorem slicePick_cut (its : List Value) (lo hi : Option Int) : slicePick its.toArray lo hi none = ((its.drop (HT.sIx its.length 0 lo)).take (HT.sIx its.length its.length hi - HT.sIx its.length 0 lo)).toArray := by
 obtain ⟨h1,h2,h3⟩ := slice_bounds lo hi its.toArray.size
 unfold slicePick
 rw [h1,h2,h3]
 simp only [sliceRange_one,pick_run,List.size_toArray] <;> rfl
def rSlL (K : PySem.W.Frag) : V -> Option Int -> Option Int -> Hp -> VK -> Prop := fun x lo hi H Q => ∃ a xs,x = .ref a /\ SqL K H a xs /\ ∀ p,H p = none -> Q (.ref p) (upd H p (.lst (cutV xs lo hi)))
theorem sl_list : SlR X (rSlL X.K) := by
 intro pins s σ H x v vl vu lo hi sl Q I rx hs pl pu h
 obtain ⟨a,xs,rfl,hx,q⟩ := h
 cases rx
 obtain ⟨its,r,ht,hz⟩ := I.list hx
 have hlen := r.length
 refine ⟨"list",_,slot_list_getitem.lookup,ht.isList.typeIs,?_⟩
 refine wpAny_getItem_list_slice ht.isList hs pl pu .none (by simp) ?_ (by rw [List.size_toArray] <;> omega)
 rw [slicePick_cut,<- hlen]
 refine ⟨.ref s.heap.objs.size,_,I.laid (t' := s.toks) (o := .lst (cutV xs lo hi)) (fun b ob q => Heap.get?_push_of_some _ q) (Nat.le_refl _) ?_,rfl,q _ (I.hok.fresh (Nat.le_refl _))⟩
 exact ⟨Nat.le_trans (cutV_length xs lo hi) hz,_,0,(r.drop (HT.sIx xs.length 0 lo)).take (HT.sIx xs.length xs.length hi - HT.sIx xs.length 0 lo),Heap.get?_push_size _ rfl⟩
def flatV : V -> Bool
 | .non => true
 | .bl _ => true
 | .int _ => true
 | .str _ => true
 | _ => false
def eqV : V -> V -> Bool
 | .non,.non => true
 | .bl a,.bl b => a == b
 | .bl a,.int b => (if a then 1 else 0) == b
 | .int a,.bl b => a == (if b then 1 else 0)
 | .int a,.int b => a == b
 | .str a,.str b => a == b
 | _,_ => false
theorem eqAt_V {A : Around} {s : Shared} {y x : V} {u v : Value} (ry : RelV y u) (rx : RelV x v) (fy : flatV y = true) (fx : flatV x = true) : SeqAt.EqAt A s u v (eqV y x) := by
 cases y with
 | non =>
  cases ry
  cases x with
  | non => cases rx; exact SeqAt.EqAt.same _
  | bl b => cases rx; exact SeqAt.EqAt.none_bool b
  | int b => obtain ⟨t,rfl⟩ := rx; exact SeqAt.EqAt.none_int b t
  | str b => obtain ⟨t,rfl⟩ := rx; exact SeqAt.EqAt.none_str b t
  | _ => exact absurd (show false = true from fx) Bool.false_ne_true
 | bl a =>
  cases ry
  cases x with
  | non => cases rx; exact SeqAt.EqAt.bool_none a
  | bl b => cases rx; exact SeqAt.EqAt.bool_bool a b
  | int b => obtain ⟨t,rfl⟩ := rx; exact SeqAt.EqAt.bool_int a b t
  | str b => obtain ⟨t,rfl⟩ := rx; exact SeqAt.EqAt.bool_str a b t
  | _ => exact absurd (show false = true from fx) Bool.false_ne_true
 | int a =>
  obtain ⟨t',rfl⟩ := ry
  cases x with
  | non => cases rx; exact SeqAt.EqAt.int_none a t'
  | bl b => cases rx; exact SeqAt.EqAt.int_bool a t' b
  | int b => obtain ⟨t,rfl⟩ := rx; exact SeqAt.EqAt.int_int a t' b t
  | str b => obtain ⟨t,rfl⟩ := rx; exact SeqAt.EqAt.int_str a t' b t
  | _ => exact absurd (show false = true from fx) Bool.false_ne_true
 | str a =>
  obtain ⟨t',rfl⟩ := ry
  cases x with
  | non => cases rx; exact SeqAt.EqAt.str_none a t'
  | bl b => cases rx; exact SeqAt.EqAt.str_bool a t' b
  | int b => obtain ⟨t,rfl⟩ := rx; exact SeqAt.EqAt.str_int a t' b t
  | str b => obtain ⟨t,rfl⟩ := rx; exact SeqAt.EqAt.str_str a t' b t
  | _ => exact absurd (show false = true from fx) Bool.false_ne_true
 | _ => exact absurd (show false = true from fy) Bool.false_ne_true
def eqU (x : V) (u : Value) : Bool := match u with
 | .none => eqV .non x
 | .bool b => eqV (.bl b) x
 | .int i _ => eqV (.int i) x
 | .str z _ => eqV (.str z) x
 | _ => false
theorem eqU_of {x y : V} {u : Value} (r : RelV y u) (f : flatV y = true) : eqU x u = eqV y x := by
 cases y with
 | non => cases r; rfl
 | bl b => cases r; rfl
 | int i => obtain ⟨t,rfl⟩ := r; rfl
 | str z => obtain ⟨t,rfl⟩ := r; rfl
 | _ => exact absurd (show false = true from f) Bool.false_ne_true
theorem any_eqU {x : V} : ∀ {xs : List V} {us : List Value},Vals xs us -> xs.all flatV = true -> us.any (eqU x) = xs.any fun y => eqV y x
 | _,_,.nil,_ => rfl
 | y :: xs,u :: us,.cons r t,f => by
  rw [List.all_cons,Bool.and_eq_true] at f
  rw [List.any_cons,List.any_cons,eqU_of r f.1,any_eqU t f.2]
theorem mem_eqAt {A : Around} {s : Shared} {x : V} {v : Value} (rx : RelV x v) (fx : flatV x = true) : ∀ {xs : List V} {us : List Value},Vals xs us -> xs.all flatV = true -> ∀ u ∈ us,SeqAt.EqAt A s u v (eqU x u)
 | _,_,.nil,_ => fun u hu => by cases hu
 | y :: xs,u :: us,.cons r t,f => fun u' hu => by
  rw [List.all_cons,Bool.and_eq_true] at f
  rcases List.mem_cons.mp hu with rfl | hu
  ·rw [eqU_of r f.1]; exact eqAt_V r rx f.1 fx
  ·exact mem_eqAt rx fx t f.2 u' hu
def inV (x : V) (xs : List V) : Bool := xs.any fun y => eqV y x
def rIn (K : PySem.W.Frag) (neg : Bool) : R2 := fun x y H Q => ∃ p xs,y = .ref p /\ (SqL K H p xs \/ SqT K H p xs) /\ flatV x = true /\ xs.all flatV = true /\ Q (.bl (if neg then !inV x xs else inV x xs)) H
theorem op_in_seq : OpR X (compareOp .In) (rIn X.K false) := by
 intro pins s σ H x y v u Q I rx ry h
 obtain ⟨p,xs,rfl,hq,fx,fs,q⟩ := h
 cases ry
 rcases hq with hq | hq
 ·obtain ⟨its,r,pl,hz⟩ := I.list hq
  refine SeqAt.in_listAt (eqU x) pl.isList (fun w hw => mem_eqAt rx fx r fs w (by simpa using hw)) ⟨.bl _,H,I,rfl,?_⟩
  rw [show its.toArray.any (eqU x) = its.any (eqU x) by simp,any_eqU r fs]
  exact q
 ·obtain ⟨its,r,pl,hz⟩ := I.tuple hq
  refine SeqAt.in_tupleAt (eqU x) pl (fun w hw => mem_eqAt rx fx r fs w (by simpa using hw)) ⟨.bl _,H,I,rfl,?_⟩
  rw [show its.toArray.any (eqU x) = its.any (eqU x) by simp,any_eqU r fs]
  exact q
theorem call_len_seq : CallR X (.builtin "len") (fun xs H Q => ∃ p ys,xs = [.ref p] /\ (SqL X.K H p ys \/ SqT X.K H p ys) /\ Q (.int ys.length) H) := by
 intro pins s σ H xs us Q I r h
 obtain ⟨p,ys,rfl,hq,q⟩ := h
 obtain ⟨u,rfl,rx⟩ := vals1 r
 cases rx
 have hn := line63
 rcases hq with hq | hq
 ·obtain ⟨its,r',pl,hz⟩ := I.list hq
  have hlen := r'.length
  exact Calls.call_len_list pl.isList (by simp only [List.size_toArray] <;> omega) ⟨.int ys.length,H,I.tok _,⟨s.toks + 1,by rw [List.size_toArray,hlen]⟩,q⟩
 ·obtain ⟨its,r',pl,hz⟩ := I.tuple hq
  have hlen := r'.length
  exact len_tuple pl (by simp only [List.size_toArray] <;> omega) ⟨.int ys.length,H,I.tok _,⟨s.toks + 1,by rw [List.size_toArray,hlen]⟩,q⟩
theorem call_len_str : CallR X (.builtin "len") (fun xs H Q => ∃ z,xs = [.str z] /\ z.length <= sizeLine /\ Q (.int z.length) H) := by
 intro pins s σ H xs us Q I r h
 obtain ⟨z,rfl,hz,q⟩ := h
 obtain ⟨u,rfl,t,rfl⟩ := vals1 r
 have hn := line63
 exact len_str (by omega) ⟨.int z.length,H,I.tok _,⟨_,rfl⟩,q⟩
theorem call_tuple_of : CallR X (.type "tuple") (fun xs H Q => ∃ p ys,xs = [.ref p] /\ ((SqL X.K H p ys /\ ∀ l,H l = none -> Q (.ref l) (upd H l (.tup ys))) \/ (SqT X.K H p ys /\ Q (.ref p) H))) := by
 intro pins s σ H xs us Q I r h
 obtain ⟨p,ys,rfl,h⟩ := h
 obtain ⟨u,rfl,rx⟩ := vals1 r
 cases rx
 rcases h with ⟨hq,q⟩ | ⟨hq,q⟩
 ·obtain ⟨its,r',pl,hz⟩ := I.list hq
  have hlen := r'.length
  refine call_tuple_list pl.isList (fun h' kp => ?_) (by simp only [List.size_toArray] <;> omega)
  have I1 : Inv X pins σ H { s with heap := h' } := I.kept (t' := s.toks) kp
  have I2 : Inv X pins σ (upd H h'.objs.size (.tup ys)) { s with heap := h'.push { cls := .type "tuple",data := .seq its.toArray } } :=
   I1.laid (t' := s.toks) (fun b o e => Heap.get?_push_of_some _ e) (Nat.le_refl _) (show ObjOk X.prog X.w _ _ _ (.tup ys) from ⟨hz,its,r',IsTup.new _ _⟩)
  exact ⟨.ref h'.objs.size,_,I2,rfl,q _ (I1.hok.fresh (Nat.le_refl _))⟩
 ·obtain ⟨its,r',pl,hz⟩ := I.tuple hq
  exact call_tuple_same pl ⟨.ref p,H,I,rfl,q⟩
def tyV (K : PySem.W.Frag) (T : String) (x : V) (H : Hp) : Prop := match x with
 | .str _ => T = "str"
 | .int _ => T = "int"
 | .ref p => (T = "list" /\ ∃ xs,SqL K H p xs) \/ (T = "tuple" /\ ∃ o,K.lookup p = some o /\ o.cls = .type "tuple" /\ o.dict = none) \/
   (T = "dict" /\ ((∃ kvs,H p = some (.dK kvs)) \/ ∃ kvs,H p = some (.dT kvs))) \/ (T = "set" /\ ∃ S n,H p = some (.set S n))
 | _ => False
theorem tyV_is {pins : List (Addr × Obj)} {σ : St} {H : Hp} {s : Shared} {T : String} {x : V} {v : Value} (I : Inv X pins σ H s) (r : RelV x v) (ty : tyV X.K T x H) :
  s.TypeIs v T /\ ∀ a,v = .ref a -> ∃ ob,s.heap.get? a = some ob /\ ob.dict = none := by
 cases x with
 | str z =>
  obtain ⟨t,rfl⟩ := r
  cases (show T = "str" from ty)
  exact ⟨typeIs_str s z t,fun _ e => nomatch e⟩
 | int i =>
  obtain ⟨t,rfl⟩ := r
  cases (show T = "int" from ty)
  exact ⟨typeIs_int s i t,fun _ e => nomatch e⟩
 | ref p =>
  cases r
  rcases ty with ⟨rfl,xs,hq⟩ | ⟨rfl,o,hk,hc,hd⟩ | ⟨rfl,hk⟩ | ⟨rfl,S,n,hk⟩
  ·obtain ⟨its,_,pl,_⟩ := I.list hq
   refine ⟨pl.isList.typeIs,fun a e => ?_⟩
   cases e
   obtain ⟨o,n,e,c,hd,_⟩ := pl
   exact ⟨o,e,hd⟩
  ·refine ⟨⟨o,I.kIn p o hk,hc⟩,fun a e => ?_⟩
   cases e
   exact ⟨o,I.kIn _ o hk,hd⟩
  ·have z : ∃ o,s.heap.get? p = some o /\ o.ExactDict := by
    rcases hk with ⟨kvs,hk⟩ | ⟨kvs,hk⟩
    ·obtain ⟨_,_,_,_,o,_,_,e,ex,_⟩ := I.hok p _ hk
     exact ⟨o,e,ex⟩
    ·obtain ⟨_,_,_,_,o,_,_,e,ex,_⟩ := I.hok p _ hk
     exact ⟨o,e,ex⟩
   obtain ⟨o,e,ex⟩ := z
   refine ⟨⟨o,e,ex.1⟩,fun a e2 => ?_⟩
   cases e2
   exact ⟨o,e,ex.2.1⟩
  ·obtain ⟨o,_,_,_,e,ex,_⟩ := I.hok p _ hk
   refine ⟨⟨o,e,ex.1⟩,fun a e2 => ?_⟩
   cases e2
   exact ⟨o,e,ex.2.1⟩
 | _ => exact False.elim ty
def tBM0 (K : PySem.W.Frag) (T : String) (r : V -> List V -> Hp -> VK -> Prop) (to : TE) : TE := fun σ H Q => to σ H fun x H1 => tyV K T x H1 /\ r x [] H1 Q
def tBM (K : PySem.W.Frag) (T : String) (r : V -> List V -> Hp -> VK -> Prop) (to : TE) (t : TA) : TE := fun σ H Q => to σ H fun x H1 => tyV K T x H1 /\ t σ H1 fun xs H2 => r x xs H2 Q
variable {o e : Expr} {es : List Expr} {to : TE} {t : TA} {name : Str} {apos cpos : Pos} {T id : String} {r : V -> List V -> Hp -> VK -> Prop}
theorem pe_bm (pa : PlainAttrs T) (slot : Slot T name id) (hty : typeOf (.builtin id) = pure (.type "method_descriptor")) (hm : MtR X id r) (ho : PE X o to) (ha : PA X (e :: es) t)
  (hbase : attributeBase o name X.env (eval o X.env) = eval o X.env := by rfl)
  (hfew : ((backTo cpos (starEach (e :: es) X.env)).all (fun x => !x.1) && (backToKw cpos (keywordEach [] X.env)).all (fun x => x.1.isSome)
   && decide ((e :: es).length + ([] : List Keyword).length + (if ([] : List Keyword).isEmpty then 0 else 1) < 30)) = true := by rfl)
  (hline : (apos.endLine == cpos.line) = true := by rfl) (hs : starEach (e :: es) X.env = (false,eval e X.env) :: starEach es X.env := by rfl) (hplain : (backTo cpos (starEach es X.env)).any (·.1) = false := by rfl) :
  PE X (.Call (.Attribute o name apos) (e :: es) [] cpos) (tBM X.K T r to t) := by
 intro pins s σ H Q I h
 refine wpAny_Call_method_late hbase hfew hline rfl (thn (ho pins s σ H _ I h) fun v s1 ⟨x,H1,I1,r1,ty,q1⟩ => ?_)
 obtain ⟨h1,h2⟩ := tyV_is I1 r1 ty
 refine ⟨T,id,pa,slot,hty,h1,h2,?_⟩
 have hA := ha cpos pins s1 σ H1 _ I1 q1
 rw [hs] at hA ⊢
 refine Calls.callWith_builtin (by show (false || (backTo cpos (starEach es X.env)).any (·.1)) = false; rw [hplain] <;> rfl) (Calls.evalArgs_plain ?_)
 exact thn hA fun us s2 ⟨vs,H2,I2,r2,q2⟩ => hm pins s2 σ H2 x vs v us Q I2 r1 r2 q2
end
end L2
namespace L2
open PySem PySem.Spec PyProof.Rows
def MtM (X : Cx) (id : String) (r : V -> List V -> Hp -> VK -> Prop) : Prop :=
 ∀ (pins : List (Addr × Obj)) (s : Shared) (σ : St) (H : Hp) (x : V) (xs : List V) (v : Value) (us : List Value) (Q : VK),Inv X pins σ H s -> RelV x v -> Vals xs us -> r x xs H Q ->
  wpAny (model X.prog X.w) X.A (call (.builtin id) (v :: us)) (EP X pins σ Q) X.xe s
theorem Vals.one : ∀ {x : V} {us : List Value},Vals [x] us -> ∃ u,us = [u] /\ RelV x u
 | _,_,.cons r .nil => ⟨_,rfl,r⟩
theorem Vals.two : ∀ {x y : V} {us : List Value},Vals [x,y] us -> ∃ u v,us = [u,v] /\ RelV x u /\ RelV y v
 | _,_,_,.cons r (.cons q .nil) => ⟨_,_,rfl,r,q⟩
section
variable {X : Cx} {pins : List (Addr × Obj)} {σ : St} {H : Hp} {s : Shared} {l b : Addr} {xs ys zs : List V}
theorem Inv.lset {its its' : List Value} {n : Nat} {f : Array Value -> Array Value} {t' : Nat} (I : Inv X pins σ H s) (hH : H l = some (.lst xs))
  (e : s.heap.get? l = some { cls := .type "list",data := .seq its.toArray n }) (hf : f its.toArray = its'.toArray) (hv : Vals ys its') (hz : ys.length <= sizeLine) :
  Inv X pins σ (upd H l (.lst ys)) { s with heap := s.heap.update l (Obj.mapSeq f),toks := t' } := by
 have q := PySem.IsL.update e f
 rw [hf] at q
 refine I.write (x := l) (e := l) (by rw [hH]; exact trivial) (.inl rfl) (fun b' u hb hu => (Heap.get?_update_other s.heap (Obj.mapSeq f) (Ne.symm hb)).trans hu) ⟨_,q⟩ ?_
 exact ⟨hz,its',_,hv,q⟩
theorem Inv.lnew {its : List Value} {t' : Nat} (I : Inv X pins σ H s) (hv : Vals ys its) (hz : ys.length <= sizeLine) :
  Inv X pins σ (upd H s.heap.objs.size (.lst ys)) { s with heap := s.heap.push { cls := .type "list",data := .seq its.toArray },toks := t' } :=
 I.laid (fun _ _ q => Heap.get?_push_of_some _ q) (Nat.le_refl _) ⟨hz,its,0,hv,Heap.get?_push_size _ rfl⟩
theorem Inv.fresh (I : Inv X pins σ H s) : H s.heap.objs.size = none := I.hok.fresh (Nat.le_refl _)
theorem Inv.lstM (I : Inv X pins σ H s) (hH : H l = some (.lst xs)) : xs.length <= sizeLine /\ ∃ (its : List Value) (n : Nat),Vals xs its /\ xs.length = its.length /\ s.heap.get? l = some { cls := .type "list",data := .seq its.toArray n } := by
 obtain ⟨z,its,n,r,e⟩ := I.hok l _ hH
 exact ⟨z,its,n,r,r.length,e⟩
end
section
variable {X : Cx}
def rAppend : V -> List V -> Hp -> VK -> Prop := fun x vs H Q => ∃ l xs y,x = .ref l /\ vs = [y] /\ H l = some (.lst xs) /\ xs.length < sizeLine /\ Q .non (upd H l (.lst (xs ++ [y])))
theorem mt_append : MtM X "list.append" rAppend := by
 intro pins s σ H x vs v us Q I rx rv h
 obtain ⟨l,xs,y,rfl,rfl,hH,hz,q⟩ := h
 cases rx
 obtain ⟨u,rfl,ru⟩ := rv.one
 obtain ⟨z,its,n,r,hl,e⟩ := I.lstM hH
 refine call_meets F.slot_list_append ⟨_,e,rfl⟩ F.entry_list_append (F.args_list_append_2 _ _) (PySem.list_append l its.toArray n u (by rw [List.size_toArray]; omega)) ⟨e,?_⟩
 refine ⟨.non,_,I.lset (its' := its ++ [u]) hH e (by simp) (r.append (.cons ru .nil)) ?_,rfl,q⟩
 rw [List.length_append,List.length_singleton]
 omega
def rExtend : V -> List V -> Hp -> VK -> Prop := fun x vs H Q => ∃ l b xs zs,x = .ref l /\ vs = [.ref b] /\ H l = some (.lst xs) /\ H b = some (.lst zs) /\ xs.length + zs.length <= sizeLine /\ Q .non (upd H l (.lst (xs ++ zs)))
def rPop : V -> List V -> Hp -> VK -> Prop := fun x vs H Q => ∃ l xs y,x = .ref l /\ vs = [] /\ H l = some (.lst xs) /\ xs[xs.length - 1]? = some y /\ Q y (upd H l (.lst xs.dropLast))
def rPopAt : V -> List V -> Hp -> VK -> Prop := fun x vs H Q => ∃ l xs i k y,x = .ref l /\ vs = [.int i] /\ H l = some (.lst xs) /\ -(2 ^ 63) <= i /\ i < 2 ^ 63 /\ seqIndex? i xs.length = some k /\ xs[k]? = some y /\ Q y (upd H l (.lst (xs.eraseIdx k)))
def rReverse : V -> List V -> Hp -> VK -> Prop := fun x vs H Q => ∃ l xs,x = .ref l /\ vs = [] /\ H l = some (.lst xs) /\ Q .non (upd H l (.lst xs.reverse))
def rClear : V -> List V -> Hp -> VK -> Prop := fun x vs H Q => ∃ l xs,x = .ref l /\ vs = [] /\ H l = some (.lst xs) /\ Q .non (upd H l (.lst []))
def rCat : R2 := fun x y H Q => ∃ l b xs zs,x = .ref l /\ y = .ref b /\ H l = some (.lst xs) /\ H b = some (.lst zs) /\ xs.length + zs.length <= sizeLine /\ ∀ p,H p = none -> Q (.ref p) (upd H p (.lst (xs ++ zs)))
theorem op_cat : OpR X (binaryOp .Add) rCat := by
 intro pins s σ H x y v u Q I rx ry h
 obtain ⟨l,b,xs,zs,rfl,rfl,hH,hB,hz,q⟩ := h
 cases rx
 cases ry
 obtain ⟨z,its,n,r,hl,e⟩ := I.lstM hH
 obtain ⟨z2,its2,n2,r2,hl2,e2⟩ := I.lstM hB
 refine PySem.P.add_list e e2 ?_ (by rw [List.size_toArray,List.size_toArray]; omega)
 have ea : its.toArray ++ its2.toArray = (its ++ its2).toArray := by simp
 rw [ea]
 exact ⟨.ref _,_,I.lnew (t' := s.toks) (r.append r2) (by rw [List.length_append]; omega),rfl,q _ I.fresh⟩
def rRep : R2 := fun x y H Q => ∃ l k xs,x = .ref l /\ y = .int k /\ H l = some (.lst xs) /\ -(2 ^ 63) <= k /\ k < 2 ^ 63 /\ xs.length * k.toNat <= sizeLine /\
 ∀ p,H p = none -> Q (.ref p) (upd H p (.lst (List.replicate k.toNat xs).flatten))
end
section
variable {prog : Program} {w : World} {A : Around} {E : Value -> Shared -> Prop} {s : Shared}
set_option maxRecDepth 100000 in
end
section
variable {X : Cx}
end
end L2
namespace Att
open PySem PySem.W PySem.Calls PyProof.Rows
theorem ints_of_wellAll {P : Params} {h : Heap} : ∀ (ns : List Int) (vs : List Value),WellAll P h vs (ns.map WData.int) -> IntsAre vs ns := by
 intro ns
 induction ns with
 | nil =>
  intro vs w
  rw [List.map_nil] at w
  cases w
  exact .nil
 | cons n ns ih =>
  intro vs w
  rw [List.map_cons] at w
  cases w with
  | cons a b =>
   cases a
   exact .cons _ _ (ih _ b)
theorem script_of {l : OpenLaw} {n : Nat} (hn : l.most = some n) {P : Params} {h : Heap} {args : List WData} {vals : List Value}
  (hpre : l.row.toRowW.claim.pre args = true) (hwl : WellAll P h vals args) :
  ∃ a vs ns,vals = [Value.ref a] /\ args = [WData.list (ns.map WData.int)] /\ h.get? a = some { cls := .type "list",data := .seq vs.toArray } /\ IntsAre vs ns /\ ns.length <= n := by
 have hsh : WShape.hasAll [] args [.list .int] = true := (pre_splitW hpre).1
 have hc : l.pre.holds [] { args := args } = true := (pre_splitW hpre).2
 obtain ⟨d,r,rfl,h1,h2⟩ := hasAllW_cons hsh
 obtain rfl := hasAllW_nil h2
 obtain ⟨xs,rfl,h3⟩ := hasW_list h1
 obtain ⟨ns,rfl⟩ := items_int h3
 have hlen : ns.length <= n := by
  unfold OpenLaw.pre at hc
  have h4 : (WTm.not (.lt (.lit (.int (n : Int))) (.len (.arg 0)))).holds [] { args := [.list (ns.map .int)] } = true := by
   have h4 := (holds_andW hc).1
   rw [hn] at h4
   exact h4
  have h5 := condW_of h4 (w_not (w_lt w_lit (w_len_list (w_arg rfl))))
  rw [List.length_map] at h5
  refine Nat.le_of_not_lt fun q => ?_
  have q' : (n : Int) < ((ns.length : Nat) : Int) := by omega
  first
   | (rw [decide_eq_true q'] at h5; exact absurd h5 (by decide))
   | (simp at h5; omega)
 cases hwl with
 | cons w1 w2 =>
  cases w2
  cases w1 with
  | list ho hall => exact ⟨_,_,ns,rfl,rfl,ho,ints_of_wellAll ns _ hall,hlen⟩
theorem post_true (l : OpenLaw) (args : List WData) : l.row.toRowW.claim.post args (.bool true) args = true :=
 postW_of (r := l.row.toRowW) (X := (true == true))
  (show WShape.has [] (.bool true) .bool = true by first | rfl | decide | simp [WShape.has,WShape.arms,WShape.armsAll])
  (show (WTm.eq .res (.lit (.bool true))).value [] { args := args,res := some (.bool true),after := args } = some (.bool (true == true)) from w_eq_bool (w_res rfl) w_lit) rfl
theorem attach_call {l : OpenLaw} {n : Nat} {q : Program} {loose : List Str} {XP : (Str -> Option Value) -> Heap -> Prop} {YP : World -> Heap -> Prop} {d : DefRec}
  (hn : l.most = some n) (hdf : d.params.defaults = [])
  (call : ∀ (w : World) (s₀ s₁ : Shared) (mg mb : Str -> Option Value) (fa : Addr) (o : Obj) (pm cd doc : Value) (a : Addr) (vs : List Value) (ns : List Int),
   Ground q loose [] XP w s₀ mg mb s₁.heap -> YP w s₁.heap ->
   s₁.heap.get? fa = some o -> o.data = .func (docDef d.name d.params d.body d.scope pm cd doc) -> s₁.heap.CodeRec cd d.name -> mg d.name = some (.ref fa) ->
   s₁.heap.get? a = some { cls := .type "list",data := .seq vs.toArray } -> IntsAre vs ns -> ns.length <= n -> s₁.gens = #[] ->
   codeAny (model l.prog w) callerA (.call (.ref fa) ⟨[.ref a],[]⟩) (fun r s' => r = .ok (.ret (.bool true)) /\ OldK s₁.heap s'.heap /\ s'.os = s₁.os /\ AllBare s'.gens) s₁) :
  WalkO q loose XP YP l.row.toRowW d [] (fun f vs => PySem.call f vs) := by
 intro w s₀ s₁ mg mb G Y fa o pm cd doc dV kV ho hd hcd hD hmg hg args vals as hpre hlay hrd hwl hlo
 obtain rfl : dV = .none := Dflts.none hD hdf
 obtain rfl : kV = .none := Dflts.noKw hD
 obtain ⟨a,vs,ns,rfl,rfl,hobj,hints,hlen⟩ := script_of hn hpre hwl
 refine enter_call (codeAny_mono (call w s₀ s₁ mg mb fa o pm cd doc a vs ns G Y ho (fd_plain hd) hcd hmg hobj hints hlen hg) fun r s' hq => ?_)
 obtain ⟨rfl,h2,h3,h4⟩ := hq
 exact ⟨.inl ⟨.bool true,.bool true,[],rfl,fun _ => rfl,.bool true,post_true l _,fun _ => ⟨List.Pairwise.nil,fun _ hm => (nomatch hm)⟩⟩,h2,h3,h4⟩
section
variable {prog : Program} {w : World} {A : Around} {E : Value -> Shared -> Prop} {s : Shared} {K : Frag}
def noObjs (h : Heap) : Heap := { h with objs := #[] }
def ledger (h : Heap) (L d : Addr) : List (Addr × Obj) := (List.range h.objs.size).filterMap fun a => if a = L \/ a = d then none else (h.get? a).map fun o => (a,o)
end
end Att
namespace L2
open PySem PySem.Spec PyProof.Rows
theorem vals_ints : ∀ {vs : List Value} {ns : List Int},IntsAre vs ns -> Vals (ns.map V.int) vs
 | _,_,.nil => .nil
 | _,_,.cons n t h => .cons ⟨t,rfl⟩ (vals_ints h)
def Only (H : Hp) : Prop := ∀ b,H b = none \/ ∃ o xs,H b = some (.frz o (.lst xs))
theorem law_call {P : Program} {w : World} {K : PySem.W.Frag} {mg mb : Str -> Option Value} {CX : CXT} {k : Nat} {fa a : Addr} {fd : FuncData} {x : Str} {sp : Sp} {s₁ : Shared} {vs : List Value} {ns : List Int}
  (KX : K.In s₁.heap) (hns : s₁.heap.Ns mainGlobals mg) (hb : s₁.heap.Ns builtinsNs mb) (hbb : ∀ x : Str,x ≠ "__name__" -> mb x = bootBuiltins x) (hlim : s₁.heap.NoLimit) (hg : s₁.gens = #[])
  (ha : s₁.heap.get? a = some { cls := .type "list",data := .seq vs.toArray }) (hi : IntsAre vs ns) (hl : ns.length <= sizeLine) (hr : Room k callerA)
  (F : ∀ base : Heap,K.In base -> base.Ns mainGlobals mg -> FnOk P w K mg base CX k fa fd [x] sp) (hbind : ∀ (s : Shared) (u : Value),BindsTo s fd ⟨[u],[]⟩ [(x,u)])
  (hsp : ∀ H : Hp,Only H -> SqL K H a (ns.map V.int) -> sp [.ref a] H (fun v _ => v = .bl true) fun _ _ _ => False)
  (hCX : ∀ H e s',CX [] H s₁ (fun _ _ _ => False) e s' -> False) :
  codeAny (model P w) callerA (.call (.ref fa) ⟨[.ref a],[]⟩) (fun r s' => r = .ok (.ret (.bool true)) /\ OldK s₁.heap s'.heap /\ s'.os = s₁.os /\ AllBare s'.gens) s₁ := by
 have rv := vals_ints hi
 have lenV := hi.length
 have core : ∀ H : Hp,Only H -> SqL K H a (ns.map V.int) -> HOk P w H s₁.heap -> (∀ b,H b ≠ none -> b = a) -> (H a ≠ none -> K.lookup a = none) ->
   codeAny (model P w) callerA (.call (.ref fa) ⟨[.ref a],[]⟩) (fun r s' => r = .ok (.ret (.bool true)) /\ OldK s₁.heap s'.heap /\ s'.os = s₁.os /\ AllBare s'.gens) s₁ := by
  intro H hO hS hok hA hK
  have base_of : ∀ {b : Addr} {o : Obj},s₁.heap.get? b = some o -> H b = none -> (hidT s₁.heap H).get? b = some o := fun e n => hidT_get e n
  have noA : ∀ {b : Addr} {o : Obj} {es : Array DictEntry} {ep : Nat},s₁.heap.get? b = some o -> o.data = .dict es ep -> H b = none := fun {b o es ep} e d => by
   cases q : H b with
   | none => rfl
   | some u =>
    have e' : b = a := hA b (by rw [q]; simp)
    subst e'
    rw [ha] at e; cases e
    have d' : Data.seq vs.toArray _ = Data.dict es ep := d
    cases d'
  have nsK : ∀ {b : Addr} {m : Str -> Option Value},s₁.heap.Ns b m -> (hidT s₁.heap H).Ns b m := fun {b m} ⟨o,es,ep,e,d,r⟩ => ⟨o,es,ep,base_of e (noA e d),d,r⟩
  have hKb : K.In (hidT s₁.heap H) := fun b o e => base_of (KX b o e) (by
   cases q : H b with
   | none => rfl
   | some u =>
    have e' : b = a := hA b (by rw [q]; simp)
    subst e'
    rw [hK (by rw [q]; simp)] at e; cases e)
  have hM : Mod K mg (hidT s₁.heap H) := ⟨hKb,nsK hns,⟨mb,nsK hb,hbb⟩,let ⟨mc,h1,h2⟩ := hlim; ⟨mc,nsK h1,h2⟩⟩
  have e0 : Env0 P w K mg (hidT s₁.heap H) callerA [] s₁ H := ⟨rfl,hM,fun b o e => of_hidT e,Nat.le_of_eq (hidT_size _ _),trivial,fun b hb => absurd (show b ∈ ([] : List Addr) from hb) (by simp),hok,.of_eq hg⟩
  refine codeAny_mono ((F _ hKb (nsK hns)).run callerA [] s₁ H ⟨[.ref a],[]⟩ [.ref a] [.ref a] _ _ hr e0 (hbind s₁ (.ref a)) (.cons rfl .nil) (hsp H hO hS)) fun r s' h => ?_
  cases r with
  | error e => exact (hCX H e s' h).elim
  | ok fl =>
   cases fl with
   | next => exact False.elim h
   | brk => exact False.elim h
   | cont => exact False.elim h
   | ret u =>
    obtain ⟨v,H',os,bare,un,hok',r',q⟩ := h
    have q' : v = .bl true := q
    subst q'
    obtain rfl : u = Value.bool true := r'
    refine ⟨rfl,OldK.of_keep fun b o e => ?_,os,bare⟩
    cases q : H b with
    | none => exact un.keep b o e q (by intro z; exact absurd (show b ∈ ([] : List Addr) from z) (by simp)) (by simp)
    | some u =>
     rcases hO b with z | ⟨ob,xs,z⟩
     ·rw [q] at z; cases z
     ·have z2 := un.frzs b ob _ z
      obtain ⟨e1,_⟩ := hok b _ z
      obtain ⟨e2,_⟩ := hok' b _ z2
      rw [e] at e1; cases e1
      exact e2
 cases hk : K.lookup a with
 | some o =>
  have e := KX a o hk
  rw [ha] at e
  cases e
  refine core (fun _ => none) (fun _ => .inl rfl) (.inr ⟨_,vs.toArray,_,hk,rfl,rfl,rfl,by rw [List.size_toArray,lenV]; exact hl,by simpa using rv⟩) (fun b u z => by have z' : (none : Option HO) = some u := z; cases z') (fun b z => absurd rfl z) fun z => absurd rfl z
 | none =>
  refine core (fun b => if b = a then some (.frz { cls := .type "list",data := .seq vs.toArray } (.lst (ns.map V.int))) else none) (fun b => ?_) (.inl (.inr ⟨{ cls := .type "list",data := .seq vs.toArray },if_pos rfl⟩)) (fun b u z => ?_) (fun b z => ?_) fun _ => hk
  ·by_cases hb : b = a
   ·exact .inr ⟨_,_,if_pos hb⟩
   ·exact .inl (if_neg hb)
  ·by_cases hb : b = a
   ·have z' := (if_pos hb).symm.trans z
    cases z'
    subst hb
    exact ⟨ha,by rw [List.length_map]; exact hl,vs,_,rv,ha⟩
   ·have z' := (if_neg hb).symm.trans z
    cases z'
  ·by_cases hb : b = a
   ·exact hb
   ·exact absurd (if_neg hb) z
end L2
namespace L2
open PySem PySem.Spec PyProof.Rows
abbrev KOf {K : PySem.W.Frag} {h : Heap} (_ : K.In h) : PySem.W.Frag := K
theorem walk_of {l : PySem.W.OpenLaw} {n k : Nat} {q : Program} {loose : List Str} {XP : (Str -> Option Value) -> Heap -> Prop} {YP : World -> Heap -> Prop} {d : DefRec} {K : Params -> PySem.W.Frag} {CX : World -> CXT} {sp : World -> Sp} {x : Str}
  (hn : l.most = some n) (hn2 : n <= sizeLine) (hdf : d.params.defaults = []) (hr : Room k callerA)
  (hY : ∀ (w : World) (h : Heap),YP w h -> (K w.params).In h)
  (F : ∀ (w : World) (mg : Str -> Option Value) (fa : Addr) (h : Heap),(K w.params).In h -> h.Ns mainGlobals mg -> mg d.name = some (.ref fa) ->
   ∃ fd : FuncData,(∀ (s : Shared) (u : Value),BindsTo s fd ⟨[u],[]⟩ [(x,u)]) /\
    ∀ base : Heap,(K w.params).In base -> base.Ns mainGlobals mg -> FnOk l.prog w (K w.params) mg base (CX w) k fa fd [x] (sp w))
  (hsp : ∀ (w : World) (H : Hp) (a : Addr) (ns : List Int),ns.length <= n -> Only H -> SqL (K w.params) H a (ns.map V.int) -> sp w [.ref a] H (fun v _ => v = .bl true) fun _ _ _ => False)
  (hCX : ∀ (w : World) (H : Hp) (s : Shared) (e : Value) (s' : Shared),CX w [] H s (fun _ _ _ => False) e s' -> False) :
  PySem.W.WalkO q loose XP YP l.row.toRowW d [] (fun f vs => PySem.call f vs) := by
 refine Att.attach_call hn hdf fun w s₀ s₁ mg mb fa o pm cd doc a vs ns G Y ho hd hcd hmg hobj hints hlen hg => ?_
 have KX := hY w _ Y
 obtain ⟨fd,hb,hF⟩ := F w mg fa _ KX G.T.g hmg
 exact law_call KX G.T.g G.T.b G.T.builtins G.T.nolimit hg hobj hints (Nat.le_trans hlen hn2) hr hF hb (fun H hO hS => hsp w H a ns hlen hO hS) fun H e s' => hCX w H s₁ e s'
end L2
namespace L2
open PySem PySem.Spec PyProof.Rows
def inClass (s : Stmt) (j : Nat) : Stmt := match s with
 | .ClassDef _ _ _ body _ _ _ _ _ _ _ => body.getD j (.Pass ⟨0,0,0,0⟩)
 | _ => .Pass ⟨0,0,0,0⟩
def defArgs (s : Stmt) : Arguments := match s with
 | .FunctionDef _ a _ _ _ _ _ _ _ _ => a
 | _ => { posonlyargs := [],args := [],vararg := none,kwonlyargs := [],kw_defaults := [],kwarg := none,defaults := [] }
def defBody (s : Stmt) : List Stmt := match s with
 | .FunctionDef _ _ b _ _ _ _ _ _ _ => b
 | _ => []
def defScope (s : Stmt) : Scope := match s with
 | .FunctionDef _ _ _ _ _ _ sc _ _ _ => sc
 | _ => { kind := .function,names := [],isGenerator := false,isCoroutine := false }
abbrev CX0 : CXT := fun _ _ _ _ _ _ => False
abbrev E0 : XK := fun _ _ _ => False
theorem pass0 {X : Cx} : Passes CX0 X E0 := fun _ _ _ _ _ _ _ h => h.elim
structure Fun (K : PySem.W.Frag) (x qual : Str) (st : Stmt) (f : Addr) (fd : FuncData) : Prop where
 ex : ∃ (oc : Value) (od : Option Addr) (kV doc pm : Value) (an : Option Addr) (cdv ct : Value) (osl : Array (Option Value)),
  fd = PySem.W.fnOf x qual (defArgs st) (defBody st) (defScope st) .none kV doc pm an cdv ct /\ K.lookup f = some ⟨oc,od,.func fd,osl⟩ /\ PySem.W.codeIn K cdv qual = true
 kp : PySem.W.keepIn K (.ref f) = true
section
variable {P : Program} {w : World} {K : PySem.W.Frag} {mg : Str -> Option Value} {base : Heap}
theorem Fun.ok {x qual : Str} {st : Stmt} {f : Addr} {fd : FuncData} {N ps : List Str} {k : Nat} {sp : Sp} (F : Fun K x qual st f fd) (S : FnScope N ps (defScope st)) (len : ∀ vs H Q E,sp vs H Q E -> vs.length = ps.length)
  (hbody : ∀ (cdv : Value) (A : Around) (outer : List Env) (s : Shared) (H : Hp) (vs : List V) (Q : VK) (E : XK),Room k (A.deeper (envOfC qual (defScope st) s.heap.objs.size f cdv)) -> sp vs H Q E ->
   ∃ t,PSs (cxOf CX0 P w K mg base N qual (defScope st) f cdv A outer s H E).nox (defBody st) t /\ t { nx := fun _ H' => Q .non H',rt := Q } (start N vs) H) : FnOk P w K mg base CX0 (k + 1) f fd ps sp := by
 obtain ⟨oc,od,kV,doc,pm,an,cdv,ct,osl,rfl,lk,hcd⟩ := F.ex
 refine fn_of lk hcd S len fun A outer s H vs Q E hr hsp => ?_
 obtain ⟨t,h,q⟩ := hbody cdv A outer s H vs Q E hr hsp
 exact ⟨t,h.nox,q⟩
theorem Fun.binds {x qual : Str} {st : Stmt} {f : Addr} {fd : FuncData} {ps : List Str} (F : Fun K x qual st f fd)
  (h : ∀ (kV doc pm : Value) (an : Option Addr) (cdv ct : Value) (us : List Value),us.length = ps.length -> bindArgs (PySem.W.fnOf x qual (defArgs st) (defBody st) (defScope st) .none kV doc pm an cdv ct) ⟨us,[]⟩ = pure (ps.zip us)) : Binds K fd ps [] := by
 obtain ⟨oc,od,kV,doc,pm,an,cdv,ct,osl,rfl,lk,hcd⟩ := F.ex
 exact .all (h kV doc pm an cdv ct)
theorem fun_mk {x qual : Str} {st : Stmt} {f : Addr} {oc : Value} {od an : Option Addr} {osl : Array (Option Value)} {kV doc pm cdv ct : Value} (l : K.lookup f = some ⟨oc,od,.func (PySem.W.fnOf x qual (defArgs st) (defBody st) (defScope st) .none kV doc pm an cdv ct),osl⟩)
  (c : PySem.W.codeIn K cdv qual = true) (k : PySem.W.keepIn K (.ref f) = true) : Fun K x qual st f (PySem.W.fnOf x qual (defArgs st) (defBody st) (defScope st) .none kV doc pm an cdv ct) := ⟨⟨oc,od,kV,doc,pm,an,cdv,ct,osl,rfl,l,c⟩,k⟩
end
theorem small1000 {n : Nat} (h : n <= 1000) : n < sizeLine := Nat.lt_of_le_of_lt h (by decide)
section
variable {X : Cx}
theorem pv (i : Nat) {x : Str} {pos : Pos} (hN : X.N[i]? = some x := by rfl) (hv : Vis X.env.scope x := by first | exact Or.inl rfl | exact Or.inr (Or.inl rfl) | exact Or.inr (Or.inr rfl)) (hd : (x == ("__debug__" : Str)) = false := by decide)
  (hcd : (x == ("__classdict__" : Str)) = false := by decide) : PE X (.Name x pos) (tVar i) := pe_var hN hv hd hcd
end
theorem iteF {A B : Prop} (h : B) : if false = true then A else B := by
 rw [if_neg Bool.false_ne_true]
 exact h
theorem iteT {A B : Prop} (h : A) : if true = true then A else B := by
 rw [if_pos rfl]
 exact h
theorem ite2 {c A B : Prop} [Decidable c] (h1 : c -> A) (h2 : ¬ c -> B) : if c then A else B := by
 by_cases h : c
 ·rw [if_pos h]
  exact h1 h
 ·rw [if_neg h]
  exact h2 h
def Same (H H' : Hp) : Prop := ∀ b o,H b = some o -> H' b = some o
theorem Same.refl (H : Hp) : Same H H := fun _ _ h => h
theorem Same.trans {H H1 H2 : Hp} (a : Same H H1) (b : Same H1 H2) : Same H H2 := fun c o h => b c o (a c o h)
theorem Same.seq {K : PySem.W.Frag} {H H' : Hp} {a : Addr} {xs : List V} (e : Same H H') (h : SqL K H a xs) : SqL K H' a xs := by
 rcases h with (h | ⟨o,h⟩) | h
 ·exact .inl (.inl (e _ _ h))
 ·exact .inl (.inr ⟨o,e _ _ h⟩)
 ·exact .inr h
end L2
namespace GM
def G (a b : Int) : Int := (Int.gcd a b : Int)
theorem G_zero {a : Int} (h : 0 <= a) : G a 0 = a := by
 unfold G
 rw [Int.gcd_zero_right]
 omega
theorem G_step (a b : Int) : G b (a % b) = G a b := by
 unfold G
 congr 1
 have e : a % b = a - b * (a / b) := by
  have := Int.emod_add_mul_ediv a b
  omega
 rw [e,Int.gcd_sub_mul_left_right,Int.gcd_comm]
theorem G_pos {a b : Int} (h : 0 < b) : 0 < G a b := by
 unfold G
 have : 0 < Int.gcd a b := Int.gcd_pos_of_ne_zero_right a (by omega)
 omega
theorem G_dvd_l (a b : Int) : G a b ∣ a := Int.gcd_dvd_left a b
theorem G_dvd_r (a b : Int) : G a b ∣ b := Int.gcd_dvd_right a b
theorem G_le_r {a b : Int} (h : 0 < b) : G a b <= b := Int.le_of_dvd h (G_dvd_r a b)
structure Amt (t b : Int) : Prop where
 t0 : 0 <= t
 b1 : 1 <= b
 g : G t b = 1
theorem low_amt {t b : Int} (h0 : 0 <= t) (h1 : 1 <= b) : Amt (t / G t b) (b / G t b) := by
 have gp := G_pos (a := t) (b := b) (by omega)
 refine ⟨Int.ediv_nonneg h0 (by omega),Int.ediv_pos_of_pos_of_dvd (by omega) (by omega) (G_dvd_r t b),?_⟩
 unfold G at *
 have := Int.gcd_ediv_gcd_ediv_gcd (i := t) (j := b) (by omega)
 omega
theorem low_l (t b : Int) : t / G t b * G t b = t := Int.ediv_mul_cancel (G_dvd_l t b)
theorem low_r (t b : Int) : b / G t b * G t b = b := Int.ediv_mul_cancel (G_dvd_r t b)
theorem low_cross (t b : Int) : t / G t b * b = t * (b / G t b) := by
 have e1 := low_l t b
 have e2 := low_r t b
 calc t / G t b * b = t / G t b * (b / G t b * G t b) := by rw [e2]
  _ = t / G t b * G t b * (b / G t b) := by rw [Int.mul_comm (b / G t b),Int.mul_assoc]
  _ = t * (b / G t b) := by rw [e1]
theorem amt_one {t : Int} (h : 0 <= t) : Amt t 1 := by
 refine ⟨h,by omega,?_⟩
 unfold G
 rw [Int.gcd_one_right]
 rfl
end GM
namespace L2
open PySem PySem.Spec PyProof.Rows
inductive Isi (K : PySem.W.Frag) (H : Hp) : V -> String -> Bool -> Prop where
 | int_int {n} : Isi K H (.int n) "int" true
 | int_bool {n} : Isi K H (.int n) "bool" false
 | int_tuple {n} : Isi K H (.int n) "tuple" false
 | int_str {n} : Isi K H (.int n) "str" false
 | int_list {n} : Isi K H (.int n) "list" false
 | bl_int {b} : Isi K H (.bl b) "int" true
 | bl_bool {b} : Isi K H (.bl b) "bool" true
 | bl_tuple {b} : Isi K H (.bl b) "tuple" false
 | bl_str {b} : Isi K H (.bl b) "str" false
 | str_int {x} : Isi K H (.str x) "int" false
 | str_bool {x} : Isi K H (.str x) "bool" false
 | str_tuple {x} : Isi K H (.str x) "tuple" false
 | str_str {x} : Isi K H (.str x) "str" true
 | non_int : Isi K H .non "int" false
 | non_str : Isi K H .non "str" false
 | non_tuple : Isi K H .non "tuple" false
 | tup_tuple {a xs} : SqT K H a xs -> Isi K H (.ref a) "tuple" true
 | tup_int {a xs} : SqT K H a xs -> Isi K H (.ref a) "int" false
 | tup_str {a xs} : SqT K H a xs -> Isi K H (.ref a) "str" false
 | tup_list {a xs} : SqT K H a xs -> Isi K H (.ref a) "list" false
 | lst_tuple {a xs} : SqL K H a xs -> Isi K H (.ref a) "tuple" false
 | lst_int {a xs} : SqL K H a xs -> Isi K H (.ref a) "int" false
 | lst_str {a xs} : SqL K H a xs -> Isi K H (.ref a) "str" false
 | lst_list {a xs} : SqL K H a xs -> Isi K H (.ref a) "list" true
section
variable {X : Cx}
theorem call_isi : CallR X (.builtin "isinstance") (fun xs H Q => ∃ x T b,xs = [x,.ty T] /\ Isi X.K H x T b /\ Q (.bl b) H) := by
 intro pins s σ H xs us Q I r h
 obtain ⟨x,T,b,rfl,hi,q⟩ := h
 obtain ⟨u,w',rfl,rx,ry⟩ := vals2 r
 cases ry
 have f1 : EP X pins σ Q (.bool b) s := ⟨.bl b,H,I,rfl,q⟩
 have f2 : EP X pins σ Q (.bool b) { s with toks := s.toks + 1 } := ⟨.bl b,H,I.tok _,rfl,q⟩
 cases hi with
 | int_int => obtain ⟨t,rfl⟩ := rx; exact IsiPair.int_int f1
 | int_bool => obtain ⟨t,rfl⟩ := rx; exact IsiPair.int_bool f2
 | int_tuple => obtain ⟨t,rfl⟩ := rx; exact IsiPair.int_tuple f2
 | int_str => obtain ⟨t,rfl⟩ := rx; exact IsiPair.int_str f2
 | int_list => obtain ⟨t,rfl⟩ := rx; exact IsiPair.int_list f2
 | bl_int => cases rx; exact IsiPair.bool_int f1
 | bl_bool => cases rx; exact IsiPair.bool_bool f1
 | bl_tuple => cases rx; exact IsiPair.bool_tuple f2
 | bl_str => cases rx; exact IsiPair.bool_str f2
 | str_int => obtain ⟨t,rfl⟩ := rx; exact IsiPair.str_int f2
 | str_bool => obtain ⟨t,rfl⟩ := rx; exact IsiPair.str_bool f2
 | str_tuple => obtain ⟨t,rfl⟩ := rx; exact IsiPair.str_tuple f2
 | str_str => obtain ⟨t,rfl⟩ := rx; exact IsiPair.str_str f1
 | non_int => cases rx; exact IsiPair.NoneType_int f2
 | non_str => cases rx; exact IsiPair.NoneType_str f2
 | non_tuple => cases rx; exact IsiPair.NoneType_tuple f2
 | tup_tuple hq => cases rx; obtain ⟨its,_,⟨o,e,c,_⟩,_⟩ := I.tuple hq; exact IsiPair.tuple_tuple e c f1
 | tup_int hq => cases rx; obtain ⟨its,_,⟨o,e,c,_⟩,_⟩ := I.tuple hq; exact IsiPair.tuple_int e c f2
 | tup_str hq => cases rx; obtain ⟨its,_,⟨o,e,c,_⟩,_⟩ := I.tuple hq; exact IsiPair.tuple_str e c f2
 | tup_list hq => cases rx; obtain ⟨its,_,⟨o,e,c,_⟩,_⟩ := I.tuple hq; exact IsiPair.tuple_list e c f2
 | lst_tuple hq => cases rx; obtain ⟨its,_,⟨o,n,e,c,_⟩,_⟩ := I.list hq; exact IsiPair.list_tuple e c f2
 | lst_int hq => cases rx; obtain ⟨its,_,⟨o,n,e,c,_⟩,_⟩ := I.list hq; exact IsiPair.list_int e c f2
 | lst_str hq => cases rx; obtain ⟨its,_,⟨o,n,e,c,_⟩,_⟩ := I.list hq; exact IsiPair.list_str e c f2
 | lst_list hq => cases rx; obtain ⟨its,_,⟨o,n,e,c,_⟩,_⟩ := I.list hq; exact IsiPair.list_list e c f1
inductive DEq (K : PySem.W.Frag) (H : Hp) : Nat -> V -> V -> Bool -> Prop where
 | flat {n x y} : flatV x = true -> flatV y = true -> DEq K H n x y (eqV x y)
 | same {n a} : DEq K H n (.ref a) (.ref a) true
 | tup {n a b xs ys} {e : Nat -> Bool} : a ≠ b -> SqT K H a xs -> SqT K H b ys -> (∀ (j : Nat) x y,xs[j]? = some x -> ys[j]? = some y -> DEq K H n x y (e j)) ->
   DEq K H (n + 1) (.ref a) (.ref b) ((List.range (min xs.length ys.length)).all e && xs.length == ys.length)
 | lst {n a b xs ys} {e : Nat -> Bool} : a ≠ b -> SqL K H a xs -> SqL K H b ys -> (∀ (j : Nat) x y,xs[j]? = some x -> ys[j]? = some y -> DEq K H n x y (e j)) ->
   DEq K H (n + 1) (.ref a) (.ref b) ((List.range (min xs.length ys.length)).all e && xs.length == ys.length)
theorem tups_at {pins : List (Addr × Obj)} {σ : St} {H : Hp} {s : Shared} (I : Inv X pins σ H s) {A : Around} {a b : Addr} {xs ys : List V} {e : Nat -> Bool} (hx : SqT X.K H a xs) (hy : SqT X.K H b ys) (hu : A.units < cLine)
  (hd : ∀ (j : Nat) x y u v,xs[j]? = some x -> ys[j]? = some y -> RelV x u -> RelV y v -> SeqAt.EqAt A.in1 s u v (e j)) :
  SeqAt.RcAt A s (.ref a) (.ref b) ((List.range (min xs.length ys.length)).all e && xs.length == ys.length) := by
 obtain ⟨its,r,tx,_⟩ := I.tuple hx
 obtain ⟨its',r',ty,_⟩ := I.tuple hy
 have l1 := r.length
 have l2 := r'.length
 have q := SeqAt.RcAt.tuples (A := A) (e := e) tx ty hu (fun j h1 h2 => ?_)
 ·rw [List.size_toArray,List.size_toArray,<- l1,<- l2] at q
  exact q
 ·rw [List.size_toArray] at h1 h2
  obtain ⟨x,hxj⟩ : ∃ x,xs[j]? = some x := ⟨_,List.getElem?_eq_getElem (by omega)⟩
  obtain ⟨y,hyj⟩ : ∃ y,ys[j]? = some y := ⟨_,List.getElem?_eq_getElem (by omega)⟩
  obtain ⟨u1,hu1,ru1⟩ := r.get hxj
  obtain ⟨u2,hu2,ru2⟩ := r'.get hyj
  have e1 : its.toArray[j] = u1 := by
   have := (List.getElem?_eq_some_iff.mp hu1).2
   simpa using this
  have e2 : its'.toArray[j] = u2 := by
   have := (List.getElem?_eq_some_iff.mp hu2).2
   simpa using this
  rw [e1,e2]
  exact hd j x y u1 u2 hxj hyj ru1 ru2
theorem isList_of {h : Heap} {a : Addr} {its : Array Value} (p : PlainL h a its) : h.IsList a its := by
 obtain ⟨o,n,e,c,_,d⟩ := p
 exact ⟨o,e,c,n,d⟩
theorem lsts_at {pins : List (Addr × Obj)} {σ : St} {H : Hp} {s : Shared} (I : Inv X pins σ H s) {A : Around} {a b : Addr} {xs ys : List V} {e : Nat -> Bool} (hx : SqL X.K H a xs) (hy : SqL X.K H b ys) (hu : A.units < cLine)
  (hd : ∀ (j : Nat) x y u v,xs[j]? = some x -> ys[j]? = some y -> RelV x u -> RelV y v -> SeqAt.EqAt A.in1 s u v (e j)) :
  SeqAt.RcAt A s (.ref a) (.ref b) ((List.range (min xs.length ys.length)).all e && xs.length == ys.length) := by
 obtain ⟨its,r,tx,_⟩ := I.list hx
 obtain ⟨its',r',ty,_⟩ := I.list hy
 have l1 := r.length
 have l2 := r'.length
 by_cases hl : xs.length = ys.length
 ·have q := SeqAt.RcAt.lists (A := A) (e := e) (isList_of tx) (isList_of ty) (by rw [List.size_toArray,List.size_toArray]; omega) hu (fun j h1 h2 => ?_)
  ·rw [List.size_toArray,<- l1] at q
   have e1 : ((List.range (min xs.length ys.length)).all e && xs.length == ys.length) = (List.range xs.length).all e := by
    rw [<- hl,Nat.min_self,beq_self_eq_true,Bool.and_true]
   rw [e1]
   exact q
  ·rw [List.size_toArray] at h1 h2
   obtain ⟨x,hxj⟩ : ∃ x,xs[j]? = some x := ⟨_,List.getElem?_eq_getElem (by omega)⟩
   obtain ⟨y,hyj⟩ : ∃ y,ys[j]? = some y := ⟨_,List.getElem?_eq_getElem (by omega)⟩
   obtain ⟨u1,hu1,ru1⟩ := r.get hxj
   obtain ⟨u2,hu2,ru2⟩ := r'.get hyj
   have e1 : its.toArray[j] = u1 := by
    have := (List.getElem?_eq_some_iff.mp hu1).2
    simpa using this
   have e2 : its'.toArray[j] = u2 := by
    have := (List.getElem?_eq_some_iff.mp hu2).2
    simpa using this
   rw [e1,e2]
   exact hd j x y u1 u2 hxj hyj ru1 ru2
 ·have q := SeqAt.RcAt.lists_lengths (A := A) (isList_of tx) (isList_of ty) (by rw [List.size_toArray,List.size_toArray,<- l1,<- l2,bne_iff_ne]; exact hl) hu
  have e1 : ((List.range (min xs.length ys.length)).all e && xs.length == ys.length) = false := by
   rw [beq_eq_false_iff_ne.mpr hl,Bool.and_false]
  rw [e1]
  exact q
theorem DEq.at {pins : List (Addr × Obj)} {σ : St} {H : Hp} {s : Shared} (I : Inv X pins σ H s) {n : Nat} {x y : V} {k : Bool} (d : DEq X.K H n x y k) : ∀ {A : Around} {u v : Value},A.units + n < cLine -> RelV x u -> RelV y v -> SeqAt.EqAt A s u v k := by
 induction d with
 | flat fx fy => intro A u v _ rx ry; exact eqAt_V rx ry fx fy
 | same => intro A u v _ rx ry; cases rx; cases ry; exact SeqAt.EqAt.same _
 | @tup n a b xs ys e hne hx hy hd ih =>
  intro A u v hu rx ry
  cases rx; cases ry
  exact SeqAt.EqAt.of_refs hne (tups_at I hx hy (by omega) fun j x y u v h1 h2 r1 r2 => ih j x y h1 h2 (by show A.units + 1 + n < cLine; omega) r1 r2)
 | @lst n a b xs ys e hne hx hy hd ih =>
  intro A u v hu rx ry
  cases rx; cases ry
  exact SeqAt.EqAt.of_refs hne (lsts_at I hx hy (by omega) fun j x y u v h1 h2 r1 r2 => ih j x y h1 h2 (by show A.units + 1 + n < cLine; omega) r1 r2)
def rEqT (K : PySem.W.Frag) : R2 := fun x y H Q => ∃ a b xs ys,∃ e : Nat -> Bool,x = .ref a /\ y = .ref b /\ SqT K H a xs /\ SqT K H b ys /\ (∀ (j : Nat) x y,xs[j]? = some x -> ys[j]? = some y -> DEq K H 40 x y (e j)) /\
 Q (.bl ((List.range (min xs.length ys.length)).all e && xs.length == ys.length)) H
def rNeT (K : PySem.W.Frag) : R2 := fun x y H Q => ∃ a b xs ys,∃ e : Nat -> Bool,x = .ref a /\ y = .ref b /\ SqT K H a xs /\ SqT K H b ys /\ (∀ (j : Nat) x y,xs[j]? = some x -> ys[j]? = some y -> DEq K H 40 x y (e j)) /\
 Q (.bl (!((List.range (min xs.length ys.length)).all e && xs.length == ys.length))) H
end
end L2
namespace L2
open PySem PySem.Spec PyProof.Rows
theorem compLoop_gen {prog : Program} {w : World} {A : Around} {R : Result -> Shared -> Prop} {s : Shared} {elt target iter : Expr} {ifs : List Expr} {scope : Scope} {pos : Pos} {it acc : Value} {env : Env} (I : Nat -> Shared -> Prop)
  (turn : ∀ n s,I n s -> wpAny (model prog w) A (pyNext it) (fun r s₁ => match r with
   | none => R (.ok .next) s₁
   | some v => wpAny (model prog w) A (letOwnedTupleGo target it v) (fun _ s₁' => wpAny (model prog w) A (assign target env v) (fun _ s₂ =>
     wpAny (model prog w) A (forIn ifs true fun c r => if r = true then do let ok <- isTrue c env (eval c env); pure (ForInStep.yield ok) else pure (ForInStep.yield r)) (fun ok s₃ =>
      if ok = true then wpAny (model prog w) A (eval elt env) (fun x s₄ =>
       wpAny (model prog w) A (call (.builtin "list.append") [acc,x]) (fun _ s₅ => ∃ m,m < n /\ I m s₅) (fun _ _ => False) s₄) (fun _ _ => False) s₃
      else ∃ m,m < n /\ I m s₃) (fun _ _ => False) s₂) (fun _ _ => False) s₁') (fun _ _ => False) s₁) (fun _ _ => False) s)
  (n : Nat) (h : I n s) : codeAny (model prog w) A (.compLoop (.ListComp elt [⟨target,iter,ifs,0⟩] scope pos) 0 it acc env) R s := by
 refine codeAny_loop rfl I (fun n s hI => ?_) n h
 show wpAny _ A ((compTurn (.ListComp elt [⟨target,iter,ifs,0⟩] scope pos) 0 it acc env).onRaise (fun x => do noteFrame x env; theTreesLotGoes x)) _ _ s
 refine wpAny_noted ?_
 rw [compTurn_list]
 refine wpAny_bind (wpAny_standAt (wpAny_bind (wpAny_mono (turn n s hI) (fun r s₁ h₁ => ?_) fun _ _ z => z.elim)))
 cases r with
 | none => exact wpAny_pure h₁
 | some v =>
  refine wpAny_bind (wpAny_mono h₁ (fun _ s₁' h₁' => ?_) fun _ _ z => z.elim)
  refine wpAny_bind (wpAny_mono h₁' (fun _ s₂ h₂ => wpAny_bind (wpAny_mono h₂ (fun ok s₃ h₃ => ?_) fun _ _ z => z.elim)) fun _ _ z => z.elim)
  cases ok with
  | false => exact wpAny_pure ⟨rfl,h₃⟩
  | true =>
   exact wpAny_bind (wpAny_bind (wpAny_mono h₃ (fun x s₄ h₄ => wpAny_bind (wpAny_mono h₄ (fun _ s₅ h₅ => wpAny_pure (wpAny_pure ⟨rfl,h₅⟩)) fun _ _ z => z.elim)) fun _ _ z => z.elim))
def blk (X : Cx) (N' : List Str) (scope : Scope) (cl : List (Str × Addr)) (C : Addr) (s₀ : Shared) (H₀ : Hp) (ex : List Addr) (pn : List (Addr × Obj)) : Cx where
 prog := X.prog
 w := X.w
 K := X.K
 mg := X.mg
 base := X.base
 A := X.A
 N := N'
 s₀ := s₀
 H₀ := H₀
 env := compEnvC scope cl C X.env
 outer := X.stack
 stack := X.stack
 ex := ex
 fn := fun _ => false
 calm := X.calm
 pn := pn
 xe := fun _ _ => False
structure ClOk (X : Cx) (scope : Scope) (cl : List (Str × Addr)) : Prop where
 run : closureFor scope X.env = pure cl
 sub : ∀ x c,cl.lookup x = some c -> X.env.cells.lookup x = some c
 has : ∀ x,((relabel scope X.env).names.lookup x = some .cell \/ (relabel scope X.env).names.lookup x = some .free) -> ∃ c,cl.lookup x = some c
structure BlkN (X : Cx) (N' : List Str) (scope : Scope) (cl : List (Str × Addr)) (σ σ' : St) : Prop where
 len : σ'.length = N'.length
 from' : ∀ (i : Nat) (x : Str) (v : V),N'[i]? = some x -> σ'[i]? = some (some v) -> ∃ j : Nat,X.N[j]? = some x /\ σ[j]? = some (some v) /\ Vis X.env.scope x /\ X.env.kindOf x ≠ some .local /\
  ((relabel scope X.env).names.lookup x = some .cell \/ (relabel scope X.env).names.lookup x = some .free)
section
variable {X : Cx} {pins : List (Addr × Obj)} {σ σ' : St} {H : Hp} {s : Shared}
theorem blk_start {N' : List Str} {scope : Scope} {cl : List (Str × Addr)} {fp : List Addr} {h₁ : Heap} {t' : Nat} (I : Inv X pins σ H s) (hkind : scope.kind = .function) (hcl : ClOk X scope cl) (hN : BlkN X N' scope cl σ σ') (hf : ∀ b ∈ fp,FpOk X pins H b) (hfo : ∀ b ∈ fp,b < s.heap.objs.size)
  (hns : h₁.Ns s.heap.objs.size (fun _ => none)) (hk : ∀ b o,s.heap.get? b = some o -> h₁.get? b = some o) :
  Inv (blk X N' scope cl s.heap.objs.size s H fp (X.pn ++ pins)) [] σ' H { s with heap := h₁,toks := t' } := by
 have hfs : ∀ b,b ∉ (X.env.locals :: X.fs) -> b ∉ frs X.stack := fun b hb z => hb (I.stkSub b z)
 refine ⟨⟨I.ok.mod,hkind,I.ok.glob,I.ok.blt,Nat.le_refl _,?_,hcl.has,fun _ _ h => absurd h (by intro z; cases z),I.ok.hd,I.ok.frames,.inl rfl,?_,I.bs,Nat.le_trans I.ok.bsz I.sz,?_,?_,I.stack,I.stkFree⟩,
  rfl,I.bare,Un.kept hk,⟨_,hns,?_⟩,?_,I.hok.fresh (Nat.le_refl _),fun x c e => I.freeC x c (hcl.sub x c e),?_,I.hok.kept hk,hN.len⟩
 ·intro x y c h1 h2
  exact I.ok.inj x y c (hcl.sub x c h1) (hcl.sub y c h2)
 ·intro b hb
  exact ⟨Nat.ne_of_lt (hfo b hb),fun x c e => (hf b hb).2.2.2.2.1 x c (hcl.sub x c e)⟩
 ·intro b o e hb
  rcases (hf b hb).2.2.2.1 with q | q
  ·exact I.ok.noex b o e q
  ·exact absurd (Nat.lt_of_lt_of_le (Heap.lt_size e) (Nat.le_trans I.ok.bsz q)) (Nat.lt_irrefl _)
 ·intro b hb
  refine hfs b fun z => ?_
  rcases List.mem_cons.mp z with z | z
  ·exact (hf b hb).2.1 z
  ·exact (hf b hb).2.2.1 z
 ·intro i x v h1 h2 _
  obtain ⟨j,hj,hσ,hv,hnl,hk'⟩ := hN.from' i x v h1 h2
  obtain ⟨m,hn,hl⟩ := I.loc
  obtain ⟨u,r,l⟩ := hl j x v hj hσ hv
  refine ⟨u,r,.inr ⟨hk',?_⟩⟩
  obtain ⟨c,hc⟩ := hcl.has x hk'
  rcases l with ⟨hloc,_⟩ | ⟨_,c',hc',hcell⟩
  ·exact absurd hloc hnl
  ·have e := hcl.sub x c hc
   rw [hc'] at e
   cases e
   obtain ⟨o,ho,hd⟩ := hcell
   exact ⟨_,hc,o,hk _ _ ho,hd⟩
 ·intro x c e
  obtain ⟨v,o,ho,hd⟩ := I.cell x c (hcl.sub x c e)
  exact ⟨v,o,hk _ _ ho,hd⟩
 ·intro p hp
  rw [show (blk X N' scope cl s.heap.objs.size s H fp (X.pn ++ pins)).pn = X.pn ++ pins from rfl,List.append_nil] at hp
  obtain ⟨a1,a2,a3,a4,a5⟩ := I.pin p hp
  refine ⟨hk _ _ a1,a2,Nat.ne_of_lt (Heap.lt_size a1),hfs _ fun z => ?_,a5⟩
  rcases List.mem_cons.mp z with z | z
  ·exact a3 z
  ·exact a4 z
theorem blk_end {N' : List Str} {scope : Scope} {cl : List (Str × Addr)} {fp : List Addr} {pl : List (Addr × Obj)} {H' : Hp} {s' : Shared} {h'' : Heap} (I : Inv X pins σ H s) (hf : ∀ b ∈ fp,FpOk X pins H b)
  (J : Inv (blk X N' scope cl s.heap.objs.size s H fp (X.pn ++ pins)) pl σ' H' s') (hs : Heap.SameBut s.heap.objs.size s'.heap h'') : Inv X pins σ H' { s' with heap := h'' } := by
 have hne : ∀ b o,s.heap.get? b = some o -> b ≠ s.heap.objs.size := fun b o e => Nat.ne_of_lt (Heap.lt_size e)
 have hC : H' s.heap.objs.size = none := J.free
 have ub : Un (frs X.stack) fp H H' s.heap s'.heap := J.base
 have u : Un (frs X.stack) fp H H' s.heap h'' := {
  keep := fun b o e n hb hx => hs.extBut b o (hne b o e) (ub.keep b o e n hb hx)
  slot := fun b o e n hb hx => by
   obtain ⟨sl,q⟩ := ub.slot b o e n hb hx
   exact ⟨sl,hs.extBut b _ (hne b o e) q⟩
  free := ub.free
  there := fun b o e hx => by
   obtain ⟨o',q⟩ := ub.there b o e hx
   exact ⟨o',hs.extBut b _ (hne b o e) q⟩
  tups := ub.tups
  frzs := ub.frzs
  tbls := ub.tbls }
 have hok : HOk X.prog X.w H' h'' := fun a o e => (J.hok a o e).stay (fun b ob hb q => hs.extBut b ob (fun z => by
  rw [z] at hb
  rcases hb with hb | hb
  ·rw [<- hb,hC] at e; cases e
  ·rw [hC] at hb; cases hb) q) (fun _ h => h) (fun _ _ h => h)
 exact I.call' (s' := { s' with heap := h'' }) J.os u hok J.bare fun b hb => by
  obtain ⟨f0,f1,f2,f3,f4,f5⟩ := hf b hb
  exact ⟨f3,f1,f4,f5⟩
end
end L2
namespace L2
open PySem PySem.Spec PyProof.Rows
def PIfs (X : Cx) (ifs : List Expr) (t : TT) : Prop :=
 ∀ (pins : List (Addr × Obj)) (s : Shared) (σ : St) (H : Hp) (Q : Bool -> Hp -> Prop),Inv X pins σ H s -> t σ H Q ->
  wpAny (model X.prog X.w) X.A (forIn ifs true fun c r => if r = true then do let ok <- isTrue c X.env (eval c X.env); pure (ForInStep.yield ok) else pure (ForInStep.yield r)) (TP X pins σ Q) X.xe s
def tNoIf : TT := fun _ H Q => Q true H
theorem pifs_nil {X : Cx} : PIfs X [] tNoIf := fun _ _ _ H _ I h => wpAny_tests_nil ⟨H,I,h⟩
theorem pifs_one {X : Cx} {c : Expr} {t : TT} (h : PT X c t) : PIfs X [c] t := fun pins s σ H Q I hw => wpAny_tests_one (h pins s σ H Q I hw)
structure Keep (σa σb : St) : Prop where
 len : σb.length = σa.length
 at' : ∀ (i : Nat) (v : V),σa[i]? = some (some v) -> σb[i]? = some (some v)
theorem Keep.refl (σ : St) : Keep σ σ := ⟨rfl,fun _ _ h => h⟩
theorem Keep.set {σa σb : St} {i : Nat} {v : V} (k : Keep σa σb) (h : σa[i]? = some none) : Keep σa (σb.set i (some v)) := by
 refine ⟨by rw [List.length_set]; exact k.len,fun j u e => ?_⟩
 have hj : i ≠ j := by
  rintro rfl
  rw [h] at e
  cases e
 rw [List.getElem?_set_ne hj]
 exact k.at' j u e
def tComp (σf : St -> St) (wi : TI) (g : TG) (tt : TT) (te : TE) : TE := fun σ H Q => wi σ H fun J H1 => ∀ D,H1 D = none -> ∃ W : Nat -> Nat -> List V -> Hp -> Prop,(∃ m,W 0 m [] (upd H1 D (.lst []))) /\
 ∀ i m ys H,W i m ys H -> H D = some (.lst ys) /\ ys.length < sizeLine /\
  ((J.stop i H /\ Q (.ref D) H) \/ (J.go i H /\ ∀ x H',J.yld i H x H' -> g x (σf σ) H' fun σ2 H2 => Keep (σf σ) σ2 /\ tt σ2 H2 fun b H3 =>
   if b = true then te σ2 H3 fun y H4 => H4 D = some (.lst ys) /\ ∃ m',m' < m /\ W (i + 1) m' (ys ++ [y]) (upd H4 D (.lst (ys ++ [y]))) else ∃ m',m' < m /\ W (i + 1) m' ys H3))
theorem pe_comp {X : Cx} {elt tg iter : Expr} {ifs : List Expr} {scope : Scope} {pos : Pos} {N' : List Str} {cl : List (Str × Addr)} {wi : TI} {g : TG} {tt : TT} {te : TE} (σf : St -> St)
  (hc : X.calm = true) (hkind : scope.kind = .function) (hcell : ∀ y ∈ scope.names,y.2 ≠ .cell) (hnames : ∀ y ∈ scope.names,y.2 = .local -> scope.names.lookup y.1 = some .local) (hcl : ClOk X scope cl)
  (hN : ∀ σ : St,σ.length = X.N.length -> BlkN X N' scope cl σ (σf σ)) (hi : PI X tg iter wi)
  (hg : ∀ C s₀ H₀ ex pn,PG (blk X N' scope cl C s₀ H₀ ex pn) tg g) (ht : ∀ C s₀ H₀ ex pn,PIfs (blk X N' scope cl C s₀ H₀ ex pn) ifs tt) (he : ∀ C s₀ H₀ ex pn,PE (blk X N' scope cl C s₀ H₀ ex pn) elt te)
  (hs : ∀ x,foldedSetIterable iter X.env x = pure x := by intro _; rfl) : PE X (.ListComp elt [⟨tg,iter,ifs,0⟩] scope pos) (tComp σf wi g tt te) := by
 intro pins s σ H Q I h
 rw [eval_ListComp]
 refine wpAny_comprehension_free (use := none) rfl hs hcl.run hkind hnames (thn (hi pins s σ H _ I h) fun v s1 h1 => thn h1 fun itv s2 h2 => ?_)
 obtain ⟨it,fp,tn,J,H2,rfl,I2,T,st2,f2,q⟩ := h2
 refine wpAny_newObj_type (wpAny_newFunctionEnv hcell (by intro y hy; simp at hy) (fun h₁ hns₁ hsb₁ => ?_) hkind)
 dsimp only at hns₁ hsb₁ ⊢
 have hfo : ∀ b ∈ fp,b < s2.heap.objs.size := fun b hb => by
  obtain ⟨o,e,_⟩ := T.obj _ _ st2 b hb
  exact Heap.lt_size e
 have hDf : H2 s2.heap.objs.size = none := I2.hok.fresh (Nat.le_refl _)
 obtain ⟨W,⟨m0,w0⟩,turn⟩ := q s2.heap.objs.size hDf
 have I3 : Inv X pins σ (upd H2 s2.heap.objs.size (.lst [])) { s2 with heap := s2.heap.push { cls := .type "list",data := .seq ([] : List Value).toArray } } := I2.lnew (its := []) (t' := s2.toks) .nil (Nat.zero_le _)
 have f3 : ∀ b ∈ fp,FpOk X pins (upd H2 s2.heap.objs.size (.lst [])) b := fun b hb => ⟨by rw [upd_ne (Nat.ne_of_lt (hfo b hb))]; exact (f2 b hb).1,(f2 b hb).2⟩
 generalize hD : s2.heap.objs.size = D at *
 generalize hs3 : ({ s2 with heap := s2.heap.push { cls := .type "list",data := .seq ([] : List Value).toArray } } : Shared) = s3 at *
 have hh3 : s3.heap = s2.heap.push { cls := .type "list",data := .seq ([] : List Value).toArray } := by rw [<- hs3]
 have hsz3 : s2.heap.objs.size < s3.heap.objs.size := by rw [hh3,Heap.size_push]; exact Nat.lt_succ_self _
 have e3 : ∀ h t,({ s2 with heap := h,toks := t } : Shared) = { s3 with heap := h,toks := t } := fun h t => by rw [<- hs3]
 rw [<- hh3] at hns₁ hsb₁ ⊢
 have hk3 : ∀ b o,s3.heap.get? b = some o -> h₁.get? b = some o := fun b o e => hsb₁.extBut b o (Nat.ne_of_lt (Heap.lt_size e)) (Heap.get?_push_of_some _ e)
 have I4 := blk_start (t' := s3.toks) I3 hkind hcl (hN σ I.len) f3 (fun b hb => Nat.lt_trans (hfo b hb) (hD ▸ hsz3)) (hns := by simpa using hns₁) hk3
 generalize hB : blk X N' scope cl s3.heap.objs.size s3 (upd H2 D (.lst [])) fp (X.pn ++ pins) = B at *
 have hBp : B.prog = X.prog := by rw [<- hB]; rfl
 have hBw : B.w = X.w := by rw [<- hB]; rfl
 have hBK : B.K = X.K := by rw [<- hB]; rfl
 have hBA : B.A = X.A := by rw [<- hB]; rfl
 have hBc : B.calm = true := by rw [<- hB]; exact hc
 have hBe : B.env = compEnvC scope cl s3.heap.objs.size X.env := by rw [<- hB]; rfl
 have hBx : B.xe = fun _ _ => False := by rw [<- hB]; rfl
 have hGB : PG B tg g := hB ▸ hg _ _ _ _ _
 have hTB : PIfs B ifs tt := hB ▸ ht _ _ _ _ _
 have hEB : PE B elt te := hB ▸ he _ _ _ _ _
 have stat : ∀ {H' : Hp},(∀ b ∈ fp,H' b = none) -> ∀ b ∈ fp,FpOk B [] H' b := fun {H'} hn b hb => by
  obtain ⟨f0,f1,f2',f3',f4,f5⟩ := f3 b hb
  rw [<- hB]
  refine ⟨hn b hb,Nat.ne_of_lt (Nat.lt_trans (hfo b hb) (hD ▸ hsz3)),fun z => ?_,.inl hb,fun x c e => f4 x c (hcl.sub x c e),fun p hp => ?_⟩
  ·rcases List.mem_cons.mp (I.stkSub b z) with z | z
   ·exact f1 z
   ·exact f2' z
  ·rw [show (blk X N' scope cl s3.heap.objs.size s3 (upd H2 D (.lst [])) fp (X.pn ++ pins)).pn = X.pn ++ pins from rfl,List.append_nil] at hp
   exact f5 p hp
 have loop : ∀ s4 : Shared,Inv B [] (σf σ) (upd H2 D (.lst [])) s4 -> tn 0 s4.heap ->
   codeAny (model X.prog X.w) X.A (.compLoop (.ListComp elt [⟨tg,iter,ifs,0⟩] scope pos) 0 (.ref it) (.ref D) (compEnvC scope cl s3.heap.objs.size X.env)) (compPost (model X.prog X.w) X.A X.xe none (EP X pins σ Q) (.ref D) s3.heap.objs.size) s4 := by
  intro s4 I4 st4
  refine compLoop_gen (I := fun n s' => ∃ i ys H',Inv B [] (σf σ) H' s' /\ tn i s'.heap /\ (∀ b ∈ fp,H' b = none) /\ W i n ys H') ?_ m0 ⟨0,[],_,I4,st4,fun b hb => (f3 b hb).1,w0⟩
  rintro n s5 ⟨i,ys,H5,I5,st5,fr5,w5⟩
  obtain ⟨hD5,hlen5,alt⟩ := turn i n ys H5 w5
  rcases alt with ⟨stop,qn⟩ | ⟨go,step⟩
  ·have z := T.done B hBp hBw hBK hBc i [] s5 (σf σ) H5 (fun _ _ => False) I5 (stat fr5) st5 stop
   rw [hBA] at z
   refine thn z fun r s6 ⟨hr,I6⟩ => ?_
   subst hr
   obtain ⟨m6,hn6,_⟩ := I6.loc
   rw [hBe] at hn6
   refine ⟨m6,hn6,fun h' hs' => ?_⟩
   subst hB
   exact ⟨.ref D,H5,blk_end I3 f3 I6 hs',rfl,qn⟩
  ·have z := T.item B hBp hBw hBK hBc i [] s5 (σf σ) H5 (fun _ _ => False) I5 (stat fr5) st5 go
   rw [hBA] at z
   refine thn z fun r s6 ⟨u,hr,h6⟩ => ?_
   subst hr
   refine thn h6 fun _ s7 ⟨x,H7,I7,r7,y7,st7,fr7⟩ => ?_
   have I7' := I7.pinned (stat fr7) (T.obj _ _ st7)
   have z8 := hGB _ s7 (σf σ) H7 x u _ I7' r7 (step x H7 y7)
   rw [hBp,hBw,hBA,hBe,hBx] at z8
   refine thn z8 fun _ s8 ⟨σ8,H8,I8,k8,q8⟩ => ?_
   have z9 := hTB _ s8 σ8 H8 _ I8 q8
   rw [hBp,hBw,hBA,hBe,hBx] at z9
   refine thn z9 fun ok s9 ⟨H9,I9,q9⟩ => ?_
   have again : ∀ {ys' : List V} {H' : Hp} {s' : Shared},Inv B ([] ++ pinsAt fp s7.heap) σ8 H' s' -> (∃ m',m' < n /\ W (i + 1) m' ys' H') -> ∃ m,m < n /\ ∃ i ys H',Inv B [] (σf σ) H' s' /\ tn i s'.heap /\ (∀ b ∈ fp,H' b = none) /\ W i m ys H' := fun {ys' H' s'} J ⟨m',hm,w'⟩ => by
    refine ⟨m',hm,i + 1,ys',H',J.unpinned.weak k8.len.symm k8.at',T.keep _ _ _ st7 fun b hb o e => (J.pin (b,o) (List.mem_append_right _ (List.mem_append_right _ (mem_pinsAt hb e)))).1,fun b hb => ?_,w'⟩
    obtain ⟨o,e,d⟩ := T.obj _ _ st7 b hb
    exact (J.pin (b,o) (List.mem_append_right _ (List.mem_append_right _ (mem_pinsAt hb e)))).2.1
   cases ok with
   | false => exact again I9 q9
   | true =>
    have z10 := hEB _ s9 σ8 H9 _ I9 q9
    rw [hBp,hBw,hBA,hBe,hBx] at z10
    refine thn z10 fun y10 s10 ⟨y,H10,I10,r10,hD10,q10⟩ => ?_
    have z11 := mt_append (X := B) _ s10 σ8 H10 (.ref D) [y] (.ref D) [y10] (fun _ H' => ∃ m',m' < n /\ W (i + 1) m' (ys ++ [y]) H') I10 rfl (.cons r10 .nil) ⟨D,ys,y,rfl,rfl,hD10,hlen5,q10⟩
    rw [hBp,hBw,hBA,hBx] at z11
    refine thn z11 fun _ s11 ⟨_,H11,I11,_,q11⟩ => again I11 q11
 have st4 : tn 0 ({ s3 with heap := h₁,toks := s3.toks } : Shared).heap := T.keep _ _ _ st2 fun b hb o e => hk3 b o (by rw [hh3]; exact Heap.get?_push_of_some _ e)
 have L4 := loop _ I4 st4
 subst hs3
 exact codeAny_compStart_list L4 (T.self _ 0 _ _ _ st4 L4)
end L2
namespace L2
open PySem PySem.Spec PyProof.Rows
def Bt (n : Nat) (x : Int) : Prop := x.natAbs < 2 ^ n
theorem Bt.bits {n : Nat} {x : Int} (h : Bt n x) : Builtin.Int.intBits x <= n := intBits_le_iff.mpr h
theorem Bt.of_bits {n : Nat} {x : Int} (h : Builtin.Int.intBits x <= n) : Bt n x := intBits_le_iff.mp h
theorem Bt.mono {m n : Nat} {x : Int} (h : Bt m x) (hn : m <= n) : Bt n x := Nat.lt_of_lt_of_le h (Nat.pow_le_pow_right (by decide) hn)
theorem Bt.mul {m n : Nat} {x y : Int} (h : Bt m x) (h' : Bt n y) : Bt (m + n) (x * y) := .of_bits (intBits_mul_le h.bits h'.bits)
theorem Bt.add {m : Nat} {x y : Int} (h : Bt m x) (h' : Bt m y) : Bt (m + 1) (x + y) := .of_bits (by have := intBits_add_le h.bits h'.bits; rwa [Nat.max_self] at this)
theorem Bt.le {m : Nat} {x y : Int} (h : Bt m y) (h0 : 0 <= x) (hy : x <= y) : Bt m x := by
 unfold Bt at *
 omega
theorem log_of {n : Nat} {x : Int} (h : Bt n x) (hp : 0 < x) (hn : n <= 9000) : x.natAbs.log2 < 9000 := by
 have : x.natAbs.log2 < n := (Nat.log2_lt (by omega)).mpr h
 omega
def CMulB (i j : Int) : Prop := Bt 1000000 i /\ Bt 1000000 j
def CDivB (_i j : Int) : Prop := 0 < j /\ Bt 9000 j
def CPowB (i j : Int) : Prop := 0 <= j /\ j <= 1000 /\ Bt 1000 i
section
variable {X : Cx}
theorem op_mulB : OpR X (binaryOp .Mult) (rI CMulB fun i j => .int (i * j)) := opI fun _ _ _ _ _ _ _ hc q => mul_int q (.of_bits (Nat.le_trans hc.1.bits (by decide)) (Nat.le_trans hc.2.bits (by decide)))
theorem op_fdivB : OpR X (binaryOp .FloorDiv) (rI CDivB fun i j => .int (i / j)) := opI fun i j _ _ _ _ _ hc q => by
 have h1 : (0 : Int) < j := hc.1
 rw [<- Int.fdiv_eq_ediv_of_nonneg i (Int.le_of_lt h1)] at q
 exact floordiv_int (by omega) q (.inl (PyProof.noPylong_of_log2 (log_of hc.2 h1 (Nat.le_refl _))))
theorem op_powB : OpR X (binaryOp .Pow) (rI CPowB fun i j => .int (i ^ j.toNat)) := opI fun i j _ _ _ _ _ hc q => by
 obtain ⟨h0,h1,h2⟩ := hc
 refine PyProof.Rows.pow_int h0 ?_ q
 have b := h2.bits
 have e : (2 : Int) ^ 27 = 134217728 := by decide
 have := Int.mul_le_mul (show (Builtin.Int.intBits i : Int) <= 1000 by omega) h1 h0 (by decide)
 omega
def rEqI (K : PySem.W.Frag) : R2 := fun x y H Q => ∃ a b,∃ ns ms : List Int,x = .ref a /\ y = .ref b /\ SqT K H a (ns.map V.int) /\ SqT K H b (ms.map V.int) /\ Q (.bl (decide (ns = ms))) H
def rNeI (K : PySem.W.Frag) : R2 := fun x y H Q => ∃ a b,∃ ns ms : List Int,x = .ref a /\ y = .ref b /\ SqT K H a (ns.map V.int) /\ SqT K H b (ms.map V.int) /\ Q (.bl (!decide (ns = ms))) H
end
end L2
namespace L2
open PySem PySem.Spec PyProof.Rows
section
variable {X : Cx}
def tIt (K : PySem.W.Frag) (i k : Nat) : TE := fun σ H Q => ∃ p xs v,σ[i]? = some (some (.ref p)) /\ SqT K H p xs /\ xs[k]? = some v /\ Q v H
theorem pit (i k : Nat) {x : Str} {p q : Pos} {j : Nat} (hN : X.N[i]? = some x := by rfl) (hv : Vis X.env.scope x := by first | exact Or.inl rfl | exact Or.inr (Or.inl rfl) | exact Or.inr (Or.inr rfl)) (hd : (x == ("__debug__" : Str)) = false := by decide)
  (hcd : (x == ("__classdict__" : Str)) = false := by decide) {pos : Pos} : PE X (.Subscript (.Name x p) (.Constant (.int (k : Int)) j q) pos) (tIt X.K i k) := by
 intro pins s σ H Q I h
 obtain ⟨a,xs,v,e,hs,hk,q⟩ := h
 exact pe_ix ix_tup (pe_var hN hv hd hcd) pe_int (fun _ _ => rfl) pins s σ H Q I ⟨_,e,a,xs,(k : Int),v,rfl,rfl,hs,atI_nat hk,q⟩
structure Cal (P : Program) (w : World) (K : PySem.W.Frag) (mg : Str -> Option Value) (base : Heap) (CX : CXT) (k : Nat) (x : Str) (ps : List Str) (sp : Sp) : Prop where
 ex : ∃ (f : Addr) (fd : FuncData),mg x = some (.ref f) /\ PySem.W.keepIn K (.ref f) = true /\ Binds K fd ps [] /\ FnOk P w K mg base CX k f fd ps sp
theorem pe_cal {CX : CXT} {k : Nat} {x : Str} {ps : List Str} {sp : Sp} {E : XK} {e : Expr} {es : List Expr} {t : TA} {p pos : Pos} (C : Cal X.prog X.w X.K X.mg X.base CX k x ps sp) (hr : Room k X.A) (hg : Gl X x) (hx : Passes CX X E)
  (ha : PA X (e :: es) t) (hdb : (x == ("__debug__" : Str)) = false := by decide) (he : starEach (e :: es) X.env = (false,eval e X.env) :: starEach es X.env := by rfl) (hpl : (backTo pos (starEach es X.env)).any (·.1) = false := by rfl) :
  PE X (.Call (.Name x p) (e :: es) [] pos) (tCall sp [] E t) := by
 obtain ⟨f,fd,hm,hk,hb,F⟩ := C.ex
 exact pe_call F hr hg hm hk hb .nil hx ha hdb he hpl
theorem Cal.mono {P : Program} {w : World} {K : PySem.W.Frag} {mg : Str -> Option Value} {base : Heap} {CX : CXT} {j k : Nat} {x : Str} {ps : List Str} {sp : Sp} (C : Cal P w K mg base CX j x ps sp) (h : j <= k) : Cal P w K mg base CX k x ps sp := by
 obtain ⟨f,fd,hm,hk,hb,F⟩ := C.ex
 exact ⟨f,fd,hm,hk,hb,F.mono h⟩
end
theorem Same.tup {K : PySem.W.Frag} {H H' : Hp} {a : Addr} {xs : List V} (e : Same H H') (h : SqT K H a xs) : SqT K H' a xs := by
 rcases h with (h | ⟨o,h⟩) | h
 ·exact .inl (.inl (e _ _ h))
 ·exact .inl (.inr ⟨o,e _ _ h⟩)
 ·exact .inr h
theorem Same.upd {H : Hp} {a : Addr} {o : HO} (h : H a = none) : Same H (upd H a o) := fun b u e => by
 rw [upd_ne (ne_of_none e h)]
 exact e
def RetT (H : Hp) (Q : VK) (ns : List Int) : Prop := ∀ p H',Same H H' -> H' p = some (.tup (ns.map V.int)) -> Q (.ref p) H'
end L2
namespace L2
open PySem PySem.Spec PyProof.Rows PySem.W
structure ExK (K : Frag) (C : Addr) : Prop where
 ga : findIn K (.ref C) "__getattribute__" = some (some (.builtin "BaseException.__getattribute__"))
 gt : findIn K (.ref C) "__getattr__" = some none
 cl : findIn K (.ref C) "__class__" = some (some (.builtin "object.__class__"))
 sb : subIn K (.ref C) (.type "BaseException") = some true
 so : subIn K (.ref C) (.type "object") = some true
 ci : (clsIn K C).isSome = true
structure ExAt (h : Heap) (a : Addr) (o : Obj) (C : Addr) : Prop where
 at_ : h.get? a = some o
 cls : o.cls = .ref C
theorem ExAt.type {M : Model} {h : Heap} {a C : Addr} {o : Obj} (I : ExAt h a o C) : Looks M h (typeOf (.ref a)) (.ref C) := by
 rw [<- I.cls]
 exact (Looks.ld I.at_).andThen .now
section
variable {prog : Program} {w : World} {A : Around} {E : Value -> Shared -> Prop} {h : Heap} {g : Array GenState} {d : Drawn} {t : Nat} {os : OsState} {a C : Addr} {o : Obj} {K : Frag}
end
def excO (a C : Addr) : HO := .ext fun h => ∃ o,ExAt h a o C
section
variable {X : Cx}
end
end L2
namespace L2
open PySem PySem.Spec PyProof.Rows PySem.W
theorem dict_mf (o : Obj) (f : Array Value -> Array Value) : (Obj.mapFields f o).dict = o.dict := by
 unfold Obj.mapFields
 split <;> rfl
def TrD (h base : Heap) (e : Addr) (cls : Value) (dd : Option Addr) (fl : Value) : Prop :=
 ∃ (ob tb : Obj) (us ts : Array Value) (T : Addr),(h.get? e = some ob /\ ob.data = .fields us /\ ob.cls = cls /\ ob.dict = dd) /\ us[1]? = some (.ref T) /\ (base.get? T = none /\ T ≠ e) /\ h.get? T = some tb /\ tb.data = .fields ts /\ ts[3]? = some fl
structure FlyD (base : Heap) (l : List Env) (e : Addr) (cls : Value) (dd : Option Addr) (fl : Value) (h : Heap) : Prop where
 st : base.StaysIn h
 no : base.get? e = none
 fr : h.FunFrames base l
 tr : TrD h base e cls dd fl
theorem FlyD.at {base h : Heap} {l : List Env} {e : Addr} {cls fl : Value} {dd : Option Addr} (x : FlyD base l e cls dd fl h) : ∃ ob us,h.get? e = some ob /\ ob.cls = cls /\ ob.dict = dd /\ ob.data = .fields us := by
 obtain ⟨ob,_,us,_,_,⟨a,b,c,d⟩,_⟩ := x.tr
 exact ⟨ob,us,a,c,d,b⟩
section
variable {M : Model} {A : Around} {E : Value -> Shared -> Prop} {s : Shared} {base : Heap} {env : Env} {outer : List Env} {L e : Addr} {Q : Unit -> Shared -> Prop} {cls : Value} {dd : Option Addr}
theorem entryD {ob : Obj} {us : Array Value} {head : Value} {had : Bool} (frs : A.frames = some (env :: outer)) (ff : s.heap.FunFrames base (env :: outer)) (fL : env.frame = some L)
  (ge : s.heap.get? e = some ob) (st : base.StaysIn s.heap) (no : base.get? e = none) (du : ob.data = .fields us) (sz : 1 < us.size)
  (k : ∀ h',FlyD base (env :: outer) e ob.cls ob.dict (rawInt L) h' -> s.heap.UpToSlots h' -> Q () { s with heap := h' }) :
  wpAny M A (do let fo <- frameOf env; let pl <- entryPlaceOf L had; let row <- EntryCells.newEntry head fo .none (rawInt L) .none pl; setField (.ref e) 1 row) Q E s := by
 have eNot : e ∉ (env :: outer).filterMap (·.frame) := fun mem => by
  obtain ⟨_,o',g',nf⟩ := ff.mem mem
  cases ge.symm.trans g'
  exact nf us du
 refine wpAny_bind (wpAny_frameOf_fun frs ff fL fun h1 only => wpAny_bind (wpAny_entryPlaceOf fun pl plOk => ?_))
 unfold EntryCells.newEntry newFields
 refine wpAny_bind (wpAny_newObj_type ?_ (plOk.sizeOk5 _ _ _ _ _))
 have g1 : h1.get? e = some ob := (only.2.1 e eNot).trans ge
 have st1 : base.StaysIn h1 := fun b o q => (only.2.1 b fun mem => by
  rw [(ff.mem mem).1] at q
  cases q).trans (st b o q)
 generalize hrow : ({ cls := .type "traceback",dict := none,data := .fields ([head,.ref L,.none,rawInt L,.none] ++ (if pl.isEmpty then List.replicate 6 Value.none else pl)).toArray } : Obj) = row
 have g2 : (h1.push row).get? e = some ob := Heap.get?_push_of_some row g1
 have Tne : h1.objs.size ≠ e := Nat.ne_of_gt (Heap.lt_size g1)
 have du' := Obj.data_mapFields du (·.setIfInBounds 1 (Value.ref h1.objs.size))
 have gT : (h1.push row).get? h1.objs.size = some row := Heap.get?_push_size h1 (by rw [<- hrow]; rfl)
 have old : ∀ b o,b ≠ e -> h1.get? b = some o -> ((h1.push row).update e (Obj.mapFields (·.setIfInBounds 1 (Value.ref h1.objs.size)))).get? b = some o := fun b o nb q => by
  rw [Heap.get?_update_other _ _ (Ne.symm nb)]
  exact Heap.get?_push_of_some row q
 have nofld : ∀ b o,s.heap.get? b = some o -> (∀ vs,o.data ≠ .fields vs) -> b ≠ e := fun b o q nf z => by
  subst z
  cases ge.symm.trans q
  exact nf us du
 refine wpAny_setField g2 du sz (k _ ⟨fun b o q => old b o ?_ (st1 b o q),no,ff.of_keeps fun b o q nf => ?_,?_⟩ fun b o q nf => ?_)
 ·rintro rfl
  rw [no] at q
  cases q
 ·obtain ⟨sl,z⟩ := only.2.2 b o q
  exact ⟨_,old b _ (nofld b o q nf) z,rfl⟩
 ·refine ⟨_,row,_,([head,.ref L,.none,rawInt L,.none] ++ (if pl.isEmpty then List.replicate 6 Value.none else pl)).toArray,h1.objs.size,⟨Heap.get?_update_self _ g2 (Obj.isFreed_of_fields du'),du',Obj.cls_mapFields _ _,dict_mf _ _⟩,by simp [sz],⟨?_,Tne⟩,?_,by rw [<- hrow],by simp⟩
  ·cases z : base.get? h1.objs.size with
   | none => rfl
   | some o => exact absurd (Heap.lt_size (st1 _ _ z)) (Nat.lt_irrefl _)
  ·rw [Heap.get?_update_other _ _ (Ne.symm Tne)]
   exact gT
 ·obtain ⟨sl,z⟩ := only.2.2 b o q
  exact ⟨sl,old b _ (nofld b o q nf) z⟩
theorem flightD {l : List Env} {fl : Value} (F : FlyD base l e cls dd fl s.heap) (k : ∀ h',FlyD base l e cls dd .none h' -> s.heap.UpToSlots h' -> Q () { s with heap := h' }) : wpAny M A (setFlight (.ref e) none) Q E s := by
 obtain ⟨st,no,ff,ob,tb,us,ts,T,⟨ge,du,cc,cd⟩,u1,⟨nT,Tne⟩,gT,dt,t3⟩ := F
 unfold setFlight
 refine wpAny_bind (wpAny_field ge du u1 ?_)
 rw [if_pos (show (Value.ref T != Value.none) = true from rfl)]
 have z3 : 3 < ts.size := (Array.getElem?_eq_some_iff.mp t3).1
 have dt' := Obj.data_mapFields dt (·.setIfInBounds 3 ((none : Option Addr).elim Value.none fun f => rawInt f))
 have old : ∀ b,b ≠ T -> (s.heap.update T (Obj.mapFields (·.setIfInBounds 3 ((none : Option Addr).elim Value.none fun f => rawInt f)))).get? b = s.heap.get? b := fun b nb => Heap.get?_update_other _ _ (Ne.symm nb)
 have nofld : ∀ b o,s.heap.get? b = some o -> (∀ vs,o.data ≠ .fields vs) -> b ≠ T := fun b o q nf z => by
  subst z
  cases gT.symm.trans q
  exact nf ts dt
 refine wpAny_setField gT dt z3 (k _ ⟨fun b o q => ?_,no,ff.of_keeps fun b o q nf => ⟨o,(old b (nofld b o q nf)).trans q,rfl⟩,?_⟩ fun b o q nf => ⟨o.slots,(old b (nofld b o q nf)).trans q⟩)
 ·refine (old b ?_).trans (st b o q)
  rintro rfl
  rw [nT] at q
  cases q
 ·exact ⟨ob,_,us,_,T,⟨(old e (Ne.symm Tne)).trans ge,du,cc,cd⟩,u1,⟨nT,Tne⟩,Heap.get?_update_self _ gT (Obj.isFreed_of_fields dt'),dt',by simp [z3]⟩
theorem note1D {ob : Obj} {us : Array Value} (frs : A.frames = some (env :: outer)) (ff : s.heap.FunFrames base (env :: outer)) (fL : env.frame = some L)
  (ge : s.heap.get? e = some ob) (st : base.StaysIn s.heap) (no : base.get? e = none) (du : ob.data = .fields us) (u1 : us[1]? = some .none)
  (k : ∀ h',FlyD base (env :: outer) e ob.cls ob.dict (rawInt L) h' -> s.heap.UpToSlots h' -> Q () { s with heap := h' }) : wpAny M A (noteFrame (.ref e) env) Q E s := by
 unfold noteFrame
 simp only [fL]
 refine wpAny_bind (wpAny_field ge du u1 ?_)
 rw [if_neg (by decide)]
 exact entryD frs ff fL ge st no du (Array.getElem?_eq_some_iff.mp u1).1 k
theorem noteD (frs : A.frames = some (env :: outer)) (fL : env.frame = some L) (F : FlyD base (env :: outer) e cls dd .none s.heap)
  (k : ∀ h',FlyD base (env :: outer) e cls dd (rawInt L) h' -> s.heap.UpToSlots h' -> Q () { s with heap := h' }) : wpAny M A (noteFrame (.ref e) env) Q E s := by
 obtain ⟨st,no,ff,ob,tb,us,ts,T,⟨ge,du,cc,cd⟩,u1,⟨nT,Tne⟩,gT,dt,t3⟩ := F
 subst cc cd
 unfold noteFrame
 simp only [fL]
 refine wpAny_bind (wpAny_field ge du u1 ?_)
 rw [if_pos (show (Value.ref T != Value.none) = true from rfl)]
 refine wpAny_bind (wpAny_field gT dt t3 ?_)
 rw [if_neg (show ¬ ((Value.none == rawInt L) = true) from by simp [rawInt])]
 have z3 : 3 < ts.size := (Array.getElem?_eq_some_iff.mp t3).1
 have old : ∀ b,b ≠ T -> (s.heap.update T (Obj.mapFields (·.setIfInBounds 3 Value.none))).get? b = s.heap.get? b := fun b nb => Heap.get?_update_other _ _ (Ne.symm nb)
 have nofld : ∀ b o,s.heap.get? b = some o -> (∀ vs,o.data ≠ .fields vs) -> b ≠ T := fun b o q nf z => by
  subst z
  cases gT.symm.trans q
  exact nf ts dt
 refine wpAny_bind (wpAny_setField gT dt z3 ?_)
 refine entryD frs (ff.of_keeps fun b o q nf => ⟨o,(old b (nofld b o q nf)).trans q,rfl⟩) fL ((old e (Ne.symm Tne)).trans ge) (fun b o q => ?_) no du (Array.getElem?_eq_some_iff.mp u1).1 fun h' F' up => k h' F' fun b o q nf => up b o ((old b (nofld b o q nf)).trans q) nf
 refine (old b ?_).trans (st b o q)
 rintro rfl
 rw [nT] at q
 cases q
theorem FlyD.tail {h : Heap} {fl : Value} (F : FlyD base (env :: outer) e cls dd fl h) : FlyD base outer e cls dd fl h := ⟨F.st,F.no,F.fr.2.2,F.tr⟩
theorem leave1D {ob : Obj} {us : Array Value} (frs : A.frames = some (env :: outer)) (ff : s.heap.FunFrames base (env :: outer)) (fL : env.frame = some L)
  (ge : s.heap.get? e = some ob) (st : base.StaysIn s.heap) (no : base.get? e = none) (du : ob.data = .fields us) (u1 : us[1]? = some .none)
  (k : ∀ h',FlyD base outer e ob.cls ob.dict .none h' -> s.heap.UpToSlots h' -> Q () { s with heap := h' }) : wpAny M A (leaving env (.ref e)) Q E s := by
 unfold leaving
 exact wpAny_bind (note1D frs ff fL ge st no du u1 fun h' F' up => flightD F' fun h'' F'' up' => k h'' F''.tail (up.trans up'))
end
end L2
namespace L2
open PySem PySem.Spec PyProof.Rows PySem.W
structure Flx (P : Program) (w : World) (outer : List Env) (H : Hp) (s : Shared) (H' : Hp) (ea : Addr) (cls : Value) (dd : Option Addr) (s' : Shared) : Prop where
 os : s'.os = s.os
 bare : AllBare s'.gens
 un : Un (frs outer) [] H H' s.heap s'.heap
 fl : ∃ B : Heap,HOk P w H' B /\ FlyD B outer ea cls dd .none s'.heap /\ (∀ b o,s.heap.get? b = some o -> H b = none -> b ∉ frs outer -> B.get? b = some o) /\ (∀ b o,s.heap.get? b = some o -> b ∉ frs outer -> ∃ o',B.get? b = some o')
def CXg (P : Program) (w : World) : CXT := fun outer H s E e s' => ∃ (ea C : Addr) (dd : Option Addr) (H' : Hp),e = .ref ea /\ Flx P w outer H s H' ea (.ref C) dd s' /\ E (.ref C) dd H'
structure OwnF (X : Cx) : Prop where
 stk : X.stack = X.env :: X.outer
 fr : X.env.frame = some X.env.locals
 ex : X.ex = []
section
variable {X : Cx} {pins : List (Addr × Obj)} {σ : St} {H H' : Hp} {s s' : Shared}
theorem notStk (O : OwnF X) (I : Inv X pins σ H s) {b : Addr} {o : Obj} (e : X.s₀.heap.get? b = some o) (hb : b ∉ frs X.outer) : b ∉ frs X.stack := by
 rw [O.stk]
 intro z
 unfold frs at z hb
 rw [List.filterMap_cons,O.fr] at z
 rcases List.mem_cons.mp z with z | z
 ·exact absurd (Nat.lt_of_lt_of_le (Heap.lt_size e) I.ok.above) (by rw [z]; exact Nat.lt_irrefl _)
 ·exact hb z
theorem inStk (O : OwnF X) {b : Addr} (hb : b ∈ frs X.outer) : b ∈ frs X.stack := by
 rw [O.stk]
 unfold frs at *
 rw [List.filterMap_cons,O.fr]
 exact List.mem_cons_of_mem _ hb
theorem un_of (O : OwnF X) (I : Inv X pins σ H s) {B h' : Heap} (u : Un (frs X.stack) [] H H' s.heap s'.heap) (bk : ∀ b o,X.s₀.heap.get? b = some o -> X.H₀ b = none -> b ∉ frs X.outer -> B.get? b = some o)
  (th : ∀ b o,X.s₀.heap.get? b = some o -> b ∉ frs X.outer -> ∃ o',B.get? b = some o') (st : B.StaysIn h') (up : s'.heap.UpToSlots h') : Un (frs X.outer) [] X.H₀ H' X.s₀.heap h' := by
 have noex : ∀ b : Addr,b ∉ X.ex := fun b z => by rw [O.ex] at z; cases z
 have slot : ∀ b o,X.s₀.heap.get? b = some o -> X.H₀ b = none -> b ∈ frs X.outer -> ∃ sl,h'.get? b = some { o with slots := sl } := fun b o e n hb => by
  obtain ⟨sl,e1⟩ := I.base.slot b o e n hb (noex b)
  have n1 := I.base.free b o e n (noex b)
  obtain ⟨sl2,e2⟩ := u.slot b _ e1 n1 (inStk O hb) (by simp)
  obtain ⟨_,o',ho',hnf⟩ := I.ok.funs.mem hb
  rw [e] at ho'
  cases ho'
  obtain ⟨sl3,e3⟩ := up b _ e2 (fun vs q => hnf vs q)
  exact ⟨sl3,e3⟩
 refine ⟨fun b o e n hb _ => st b o (bk b o e n hb),fun b o e n hb _ => slot b o e n hb,fun b o e n _ => ?_,fun b o e _ => ?_,fun b xs e => u.tups _ _ (I.base.tups _ _ e),fun b o x e => u.frzs _ _ _ (I.base.frzs _ _ _ e),fun b ps e => ?_⟩
 ·obtain ⟨o1,e1⟩ := I.base.there b o e (noex b)
  exact u.free b o1 e1 (I.base.free b o e n (noex b)) (by simp)
 ·by_cases hb : b ∈ frs X.outer
  ·obtain ⟨sl,q⟩ := slot b o e (I.ok.frf b hb) hb
   exact ⟨_,q⟩
  ·obtain ⟨o2,e2⟩ := th b o e hb
   exact ⟨o2,st b o2 e2⟩
 ·obtain ⟨m1,e1⟩ := I.base.tbls b ps e
  obtain ⟨m2,e2⟩ := u.tbls _ _ e1
  exact ⟨m1 ++ m2,by rw [e2,Array.append_assoc]⟩
theorem fly_B (I : Inv X pins σ H s) {ea : Addr} (hea : H ea = none) : HOk X.prog X.w H (hideAll s.heap (ea :: frs X.stack)) := fun a o e => (I.hok a o e).stay (fun b u hb q => hideAll_get _ q fun z => by
 have n : H b = none := by
  rcases List.mem_cons.mp z with z | z
  ·rw [z]; exact hea
  ·exact I.stkFree b z
 rcases hb with hb | hb
 ·rw [<- hb] at e; rw [e] at n; cases n
 ·rw [hb] at n; cases n) (fun _ h => h) (fun _ _ h => h)
theorem fly_raise (O : OwnF X) (I : Inv X pins σ H s) {ea C : Addr} {dd : Option Addr} {ob : Obj} {us : Array Value} {E' : Value -> Shared -> Prop} {Q : Unit -> Shared -> Prop} (hea : H ea = none) (n0 : X.s₀.heap.get? ea = none) (ge : s.heap.get? ea = some ob)
  (hc : ob.cls = .ref C) (hdd : ob.dict = dd) (du : ob.data = .fields us) (u1 : us[1]? = some .none)
  (k : ∀ h',Flx X.prog X.w X.outer X.H₀ X.s₀ H ea (.ref C) dd { s with heap := h' } -> Q () { s with heap := h' }) : wpAny (model X.prog X.w) X.A (leaving X.env (.ref ea)) Q E' s := by
 have nfr : ea ∉ frs X.stack := fun z => by
  obtain ⟨_,o',ho',hnf⟩ := I.stack.mem z
  rw [ge] at ho'
  cases ho'
  exact hnf us du
 have hin : ∀ env ∈ X.stack,∀ b,env.frame = some b -> b ∈ ea :: frs X.stack := fun env he b hb => List.mem_cons_of_mem _ (List.mem_filterMap.mpr ⟨env,he,hb⟩)
 have hfr : X.A.frames = some (X.env :: X.outer) := by rw [<- O.stk]; exact I.ok.frames
 have hl : s.heap.FunFrames (hideAll s.heap (ea :: frs X.stack)) (X.env :: X.outer) := by rw [<- O.stk]; exact funFrames_hide I.stack hin
 have nB : (hideAll s.heap (ea :: frs X.stack)).get? ea = none := hideAll_none _ (List.mem_cons_self ..)
 have bk : ∀ b o,X.s₀.heap.get? b = some o -> X.H₀ b = none -> b ∉ frs X.outer -> (hideAll s.heap (ea :: frs X.stack)).get? b = some o := fun b o e n hb => by
  refine hideAll_get _ (I.base.keep b o e n hb (by rw [O.ex]; simp)) fun z => ?_
  rcases List.mem_cons.mp z with z | z
  ·rw [z,n0] at e; cases e
  ·exact notStk O I e hb z
 have th : ∀ b o,X.s₀.heap.get? b = some o -> b ∉ frs X.outer -> ∃ o',(hideAll s.heap (ea :: frs X.stack)).get? b = some o' := fun b o e hb => by
  obtain ⟨o1,e1⟩ := I.base.there b o e (by rw [O.ex]; simp)
  refine ⟨o1,hideAll_get _ e1 fun z => ?_⟩
  rcases List.mem_cons.mp z with z | z
  ·rw [z,n0] at e; cases e
  ·exact notStk O I e hb z
 refine leave1D (base := hideAll s.heap (ea :: frs X.stack)) hfr hl O.fr ge (fun b o q => of_hideAll _ q) nB du u1 fun h' F' up => k h' ⟨I.os,I.bare,?_,hideAll s.heap (ea :: frs X.stack),fly_B I hea,by rw [<- hc,<- hdd]; exact F',bk,th⟩
 exact un_of (s' := s) O I Un.refl bk th F'.st up
end
abbrev cxF (P : Program) (w : World) (K : Frag) (mg : Str -> Option Value) (base : Heap) (N : List Str) (qual : Str) (scope : Scope) (f : Addr) (cd : Value) (A : Around) (outer : List Env) (s : Shared) (H : Hp) (E : XK) : Cx := cxOf (CXg P w) P w K mg base N qual scope f cd A outer s H E
section
variable {P : Program} {w : World} {K : Frag} {mg : Str -> Option Value} {base : Heap} {N : List Str} {qual : Str} {scope : Scope} {f : Addr} {cd : Value} {A : Around} {outer : List Env} {s : Shared} {H : Hp} {E : XK}
theorem ownF_of : OwnF (cxF P w K mg base N qual scope f cd A outer s H E) := ⟨rfl,rfl,rfl⟩
def XeOk (X : Cx) (E : XK) : Prop := ∀ (pins : List (Addr × Obj)) (σ : St) (H : Hp) (s : Shared) (ea C : Addr) (ob : Obj) (us : Array Value),Inv X pins σ H s -> H ea = none -> X.s₀.heap.get? ea = none -> s.heap.get? ea = some ob -> ob.cls = .ref C -> ob.data = .fields us -> us[1]? = some .none -> E (.ref C) ob.dict H -> X.xe (.ref ea) s
theorem xe_f : XeOk (cxF P w K mg base N qual scope f cd A outer s H E) E := by
 intro pins σ Hc sc ea C ob us I hea n0 ge hc du u1 hE
 exact fly_raise (X := cxF P w K mg base N qual scope f cd A outer s H E) ownF_of I hea n0 ge hc rfl du u1 fun h'' F' => ⟨ea,C,ob.dict,Hc,rfl,F',hE⟩
theorem Fun.okF {x : Str} {st : Stmt} {fd : FuncData} {ps : List Str} {k : Nat} {sp : Sp} (F : Fun K x qual st f fd) (S : FnScope N ps (defScope st)) (len : ∀ vs H Q E,sp vs H Q E -> vs.length = ps.length)
  (hbody : ∀ (cdv : Value) (A : Around) (outer : List Env) (s : Shared) (H : Hp) (vs : List V) (Q : VK) (E : XK),Room k (A.deeper (envOfC qual (defScope st) s.heap.objs.size f cdv)) -> sp vs H Q E ->
   ∃ t,PSs (cxF P w K mg base N qual (defScope st) f cdv A outer s H E) (defBody st) t /\ t { nx := fun _ H' => Q .non H',rt := Q } (start N vs) H) : FnOk P w K mg base (CXg P w) (k + 1) f fd ps sp := by
 obtain ⟨oc,od,kV,doc,pm,an,cdv,ct,osl,rfl,lk,hcd⟩ := F.ex
 exact fn_of lk hcd S len fun A outer s H vs Q E hr hsp => hbody cdv A outer s H vs Q E hr hsp
end
end L2
namespace L2
open PySem PySem.Spec PyProof.Rows PySem.W
structure CtK (K : Frag) (D : Addr) : Prop where
 ty : typeIn K (.ref D) = some (.type "type")
 ci : (clsIn K D).isSome = true
 sb : subIn K (.ref D) (.type "BaseException") = some true
theorem exc_matches {M : Model} {A : Around} {E : Value -> Shared -> Prop} {h : Heap} {g : Array GenState} {d : Drawn} {t : Nat} {os : OsState} {e C D : Addr} {o : Obj} {K : Frag} {Q : Bool -> Shared -> Prop} (X : K.In h) (I : ExAt h e o C) (F : CtK K D) (hs : subIn K (.ref C) (.ref D) = some true)
  (hq : Q true ⟨h,g,d,t,os⟩) : wpAny M A (excMatches (.ref e) (.ref D)) Q E ⟨h,g,d,t,os⟩ := by
 have L1 := looks_typeIn (M := M) X F.ty
 have L2' : Looks M h (isType (.ref D)) true := by
  have hcD := F.ci
  unfold clsIn at hcD
  split at hcD
  ·rename_i c' d' cd' sl' ho
   intro A' Q' E' s' k q
   unfold isType loadHead
   exact wpAny_bind (wpAny_loadPart (k _ _ (X _ _ ho)) (wpAny_pure q))
  ·cases hcD
 have L3 := looks_subIn (M := M) X F.sb
 have L4 := looks_subIn (M := M) X hs
 have L5 := I.type (M := M)
 have f := tc_notTuple
 unfold excMatches isInstance
 repeat (first | with_reducible refine L1.at ?_ | with_reducible refine L2'.at ?_ | with_reducible refine L3.at ?_ | with_reducible refine L4.at ?_ | with_reducible refine L5.at ?_ | wp_step)
 exact hq
abbrev bmV : List Value := [.type "ValueError",.type "Exception",.type "BaseException",.type "object"]
structure ClsObj (h : Heap) (C : Addr) (bmB : List Value) (newId : String) : Prop where
 ex : ∃ (nm q : Str) (N : Addr) (bs bm : List Value) (hdct : Bool) (sn : List Str) (sub : List Value) (ab : Bool) (col : Option Bool) (dd : Option Addr) (k0 k1 k2 k3 k5 : Option Value) (mN : Str -> Option Value),
  h.get? C = some (excClassObj nm q C N bs bm hdct sn sub ab col dd k0 k1 k2 k3 k5 newId) /\ h.Ns N mN /\ mN "__init__" = none /\ OwnTail h bmB bm
def excD (a C : Addr) (dd : Option Addr) : HO := .ext fun h => ∃ o,ExAt h a o C /\ o.dict = dd /\ ∃ us,o.data = .fields us
theorem Inv.absent0 {X : Cx} {pins : List (Addr × Obj)} {σ : St} {H : Hp} {s : Shared} (I : Inv X pins σ H s) {e : Addr} (hex : X.ex = []) (n : s.heap.get? e = none) : X.s₀.heap.get? e = none := by
 cases q : X.s₀.heap.get? e with
 | none => rfl
 | some o =>
  obtain ⟨ob,z⟩ := I.base.there e o q (by rw [hex]; simp)
  rw [n] at z
  cases z
def tRaise (C : Addr) (E : XK) (t : TA) : TS := fun _ σ H => t σ H fun vs H1 => vs.length <= sizeLine /\ E (.ref C) none H1
section
variable {X : Cx}
end
abbrev Cx.within (X : Cx) (v : Value) : Cx := { X with A := X.A.mark (some v),calm := false,xe := fun _ _ => False }
abbrev Cx.trying (X : Cx) (pins : List (Addr × Obj)) (E : Value -> Shared -> Prop) : Cx := { X with pn := X.pn ++ pins,xe := E }
section
variable {X : Cx} {pins : List (Addr × Obj)} {σ : St} {H H' : Hp} {s s' : Shared}
theorem Inv.within (I : Inv X pins σ H s) (v : Value) : Inv (X.within v) pins σ H s :=
 ⟨⟨I.ok.mod,I.ok.kind,I.ok.glob,I.ok.blt,I.ok.above,I.ok.inj,I.ok.has,I.ok.cab,(fun h => (by cases h)),I.ok.frames,I.ok.stk,I.ok.exf,I.ok.bs,I.ok.bsz,I.ok.noex,I.ok.exfs,I.ok.funs,I.ok.frf⟩,I.os,I.bare,I.base,I.loc,I.cell,I.free,I.freeC,I.pin,I.hok,I.len⟩
theorem Inv.without {v : Value} (ok : X.Ok) (I : Inv (X.within v) pins σ H s) : Inv X pins σ H s := ⟨ok,I.os,I.bare,I.base,I.loc,I.cell,I.free,I.freeC,I.pin,I.hok,I.len⟩
theorem Inv.trying (I : Inv X pins σ H s) (E : Value -> Shared -> Prop) : Inv (X.trying pins E) [] σ H s :=
 ⟨⟨I.ok.mod,I.ok.kind,I.ok.glob,I.ok.blt,I.ok.above,I.ok.inj,I.ok.has,I.ok.cab,I.ok.hd,I.ok.frames,I.ok.stk,I.ok.exf,I.ok.bs,I.ok.bsz,I.ok.noex,I.ok.exfs,I.ok.funs,I.ok.frf⟩,I.os,I.bare,I.base,I.loc,I.cell,I.free,I.freeC,fun p hp => I.pin p (by rwa [List.append_nil] at hp),I.hok,I.len⟩
theorem Inv.tried {E : Value -> Shared -> Prop} {pl : List (Addr × Obj)} (I : Inv (X.trying pins E) pl σ H s) : Inv X pins σ H s :=
 ⟨⟨I.ok.mod,I.ok.kind,I.ok.glob,I.ok.blt,I.ok.above,I.ok.inj,I.ok.has,I.ok.cab,I.ok.hd,I.ok.frames,I.ok.stk,I.ok.exf,I.ok.bs,I.ok.bsz,I.ok.noex,I.ok.exfs,I.ok.funs,I.ok.frf⟩,I.os,I.bare,I.base,I.loc,I.cell,I.free,I.freeC,fun p hp => I.pin p (List.mem_append_left _ hp),I.hok,I.len⟩
theorem SP.tried {E : Value -> Shared -> Prop} {D : Ends} {f : Flow} (h : SP (X.trying pins E) [] D f s) : SP X pins D f s := by
 cases f with
 | next => obtain ⟨σ',H',I,q⟩ := h; exact ⟨σ',H',I.tried,q⟩
 | brk => obtain ⟨σ',H',I,q⟩ := h; exact ⟨σ',H',I.tried,q⟩
 | cont => obtain ⟨σ',H',I,q⟩ := h; exact ⟨σ',H',I.tried,q⟩
 | ret u => obtain ⟨v,σ',H',I,r,q⟩ := h; exact ⟨v,σ',H',I.tried,r,q⟩
theorem Inv.track (I : Inv X pins σ H s) {a : Addr} {u : HO} (hn : H a = none) (h0 : X.s₀.heap.get? a = none) (hL : a ≠ X.env.locals) (hc : ∀ x c,X.env.cells.lookup x = some c -> c ≠ a) (hp : ∀ p ∈ X.pn ++ pins,p.1 ≠ a)
  (ok : ObjOk X.prog X.w (upd H a u) s.heap a u) : Inv X pins σ (upd H a u) s := by
 have old : ∀ b o,X.s₀.heap.get? b = some o -> b ≠ a := fun b o e z => by rw [z,h0] at e; cases e
 have trk : ∀ b o,H b = some o -> b ≠ a := fun b o e => ne_of_none e hn
 refine ⟨I.ok,I.os,I.bare,⟨I.base.keep,I.base.slot,fun b o e n hx => ?_,I.base.there,fun b xs e => ?_,fun b o x e => ?_,fun b ps e => ?_⟩,I.loc,I.cell,?_,fun x c e => ?_,fun p q => ?_,fun b o e => ?_,I.len⟩
 ·rw [upd_ne (old b o e)]
  exact I.base.free b o e n hx
 ·have z := I.base.tups b xs e
  rw [upd_ne (trk _ _ z)]
  exact z
 ·have z := I.base.frzs b o x e
  rw [upd_ne (trk _ _ z)]
  exact z
 ·obtain ⟨m,z⟩ := I.base.tbls b ps e
  exact ⟨m,by rw [upd_ne (trk _ _ z)]; exact z⟩
 ·rw [upd_ne (Ne.symm hL)]
  exact I.free
 ·rw [upd_ne (hc x c e)]
  exact I.freeC x c e
 ·obtain ⟨a1,a2,a3⟩ := I.pin p q
  exact ⟨a1,by rw [upd_ne (hp p q)]; exact a2,a3⟩
 ·by_cases hb : b = a
  ·subst hb
   rw [upd_same] at e
   cases e
   exact ok
  ·rw [upd_ne hb] at e
   exact (I.hok b o e).stay (fun _ _ _ q => q) (fun c q => by rw [upd_ne (trk _ _ q)]; exact q) (fun c xs q => by rw [upd_ne (trk _ _ q)]; exact q)
theorem un_here (I : Inv X pins σ H s) {B h' : Heap} (u : Un (frs X.stack) [] H H' s.heap s'.heap) (bk : ∀ b o,s.heap.get? b = some o -> H b = none -> b ∉ frs X.stack -> B.get? b = some o)
  (th : ∀ b o,s.heap.get? b = some o -> b ∉ frs X.stack -> ∃ o',B.get? b = some o') (st : B.StaysIn h') (up : s'.heap.UpToSlots h') : Un (frs X.stack) [] H H' s.heap h' := by
 have slot : ∀ b o,s.heap.get? b = some o -> H b = none -> b ∈ frs X.stack -> ∃ sl,h'.get? b = some { o with slots := sl } := fun b o e n hb => by
  obtain ⟨sl,e1⟩ := u.slot b o e n hb (by simp)
  obtain ⟨_,o',ho',hnf⟩ := I.stack.mem hb
  rw [e] at ho'
  cases ho'
  obtain ⟨sl3,e3⟩ := up b _ e1 (fun vs q => hnf vs q)
  exact ⟨sl3,e3⟩
 refine ⟨fun b o e n hb _ => st b o (bk b o e n hb),fun b o e n hb _ => slot b o e n hb,u.free,fun b o e _ => ?_,u.tups,u.frzs,u.tbls⟩
 by_cases hb : b ∈ frs X.stack
 ·obtain ⟨sl,q⟩ := slot b o e (I.stkFree b hb) hb
  exact ⟨_,q⟩
 ·obtain ⟨o2,e2⟩ := th b o e hb
  exact ⟨o2,st b o2 e2⟩
theorem passY {P : Program} {w : World} {X : Cx} : Passes (CXg P w) X E0 := fun _ _ _ _ _ _ _ h => by
 obtain ⟨_,_,_,_,_,_,z⟩ := h
 exact z.elim
def tTry (K : Frag) (N j : Nat) (Dc : Addr) (tb : XK -> TS) : TS := fun D σ H => tb (fun cls dd H' => ∃ C,cls = .ref C /\ ExK K C /\ subIn K (.ref C) (.ref Dc) = some true /\ ∀ a,H' a = none -> D.nx ((List.replicate N none).set j (some (.ref a))) (upd H' a (excD a C dd))) D σ H
end
end L2
namespace L2
open PySem PySem.Spec PyProof.Rows PySem.W
def xiIn (K : Frag) (C P f : Addr) : Bool := match K.lookup C with
 | some ⟨.type "type",_,.cls cd,sl⟩ => (match cd.mro,sl.toList with
  | .ref C' :: .ref P' :: bm,[_,_,_,_,some (.builtin n),_] => C' == C && P' == P && n == "ValueError.__new__" && !cd.hasDel && cd.hasDict && tailIn K bmV (.ref P' :: bm) && nsOkIn K cd.ns && nsIn K cd.ns "__init__" == some (some (.ref f)) && bm == bmV
  | _,_ => false)
 | _ => false
structure ClsI (h : Heap) (C P f : Addr) : Prop where
 ex : ∃ (nm q : Str) (N : Addr) (bs : List Value) (sn : List Str) (sub : List Value) (ab : Bool) (col : Option Bool) (dd : Option Addr) (k0 k1 k2 k3 k5 : Option Value) (mN : Str -> Option Value),
  h.get? C = some (excClassObj nm q C N bs (.ref P :: bmV) true sn sub ab col dd k0 k1 k2 k3 k5 "ValueError.__new__") /\ h.Ns N mN /\ mN "__init__" = some (.ref f) /\ OwnTail h bmV (.ref P :: bmV)
theorem nsMap_some_of_in {K : Frag} {h : Heap} {N : Addr} {x : Str} {v : Value} (X : K.In h) (hok : nsOkIn K N = true) (e : nsIn K N x = some (some v)) : h.nsMap N x = some v := by
 have G : h.Ns N (h.nsMap N) := .of_isNs (isNs_of_in X hok)
 obtain ⟨o,es,ep,ho,hd,_,hf⟩ := G
 unfold nsIn at e
 split at e
 ·rename_i c d es' n' sl q
  have z := X _ _ q
  rw [ho] at z
  cases z
  cases hd
  split at e
  ·rename_i en he
   cases e
   rw [<- hf]
   unfold nsFind findBy
   rw [<- Array.find?_toList,he]
   rfl
  ·split at e <;> cases e
 ·cases e
theorem clsI_of {K : Frag} {h : Heap} {C P f : Addr} (X : K.In h) (q : xiIn K C P f = true) : ClsI h C P f := by
 unfold xiIn at q
 split at q
 case h_2 => cases q
 case h_1 dd cd sl ho =>
  split at q
  case h_2 => cases q
  case h_1 C' P' bm k0 k1 k2 k3 n k5 hm hs =>
   simp only [Bool.and_eq_true,beq_iff_eq,Bool.not_eq_true'] at q
   obtain ⟨⟨⟨⟨⟨⟨⟨⟨e1,e0⟩,e2⟩,hdel⟩,hdi⟩,ht⟩,hok⟩,hni⟩,e3⟩ := q
   cases e1
   cases e0
   cases e2
   cases e3
   obtain ⟨nm,bs,mro,ns,qn,hd,sn,sub,ab,col,del⟩ := cd
   obtain ⟨sl⟩ := sl
   dsimp only at hm hdel hok hni hs hdi
   subst hm hdel hs hdi
   exact ⟨nm,qn,ns,bs,sn,sub,ab,col,dd,k0,k1,k2,k3,k5,_,X _ _ ho,.of_isNs (isNs_of_in X hok),nsMap_some_of_in X hok hni,tail_of_in X ht⟩
section
variable {prog : Program} {w : World} {A : Around} {E : Value -> Shared -> Prop} {h : Heap} {g : Array GenState} {d : Drawn} {t : Nat} {os : OsState} {K : Frag} {C P f : Addr}
abbrev excNew (h : Heap) (C : Addr) (rest : List Value) : Heap := (h.push { cls := .type "tuple",data := .seq rest.toArray }).push { cls := .ref C,data := .fields #[.ref h.objs.size,.none,.none,.none,.bool false,.none] }
theorem exi_type_call {rest : List Value} {Q : Fin -> Shared -> Prop} (X : K.In h) (I : ClsI h C P f) (hf : typeIn K (.ref f) = some (.type "function")) (hrest : rest.length <= sizeLine)
  (hq : codeAny (model prog w) A (.call (.ref f) ⟨.ref (h.objs.size + 1) :: rest,[]⟩) (fun r s' => match r with
   | .ok (.ret v) => v = .none /\ Q (.done (.ret (.ref (h.objs.size + 1)))) s'
   | .ok _ => False
   | .error e => E e s') ⟨excNew h C rest,g,d,t,os⟩) :
  wpAny (model prog w) A (Builtin.«type.__call__» ⟨.ref C :: rest,[]⟩) Q E ⟨h,g,d,t,os⟩ := by
 obtain ⟨nm,q,N,bs,sn,sub,ab,col,dd,k0,k1,k2,k3,k5,mN,hC,hn,hni,T⟩ := I.ex
 have F := PySem.F.excBase_ValueError
 repeat (first | with_reducible refine wpAny_loadPart_at hC ?_ | with_reducible refine wpAny_madeBy_exc hC ?_ | wp_step)
 refine codeAny_call_builtin_code (Code.quiet_builtin _ F.quiet) (wpAny_check_new_subU F F.hasB T hC ?_)
 refine codeAny_exc_new_subU F F.hasB F T hC ?_ hrest
 show wpAny _ _ _ _ _ _
 have keep : ∀ b o,h.get? b = some o -> (excNew h C rest).get? b = some o := fun b o e => Heap.get?_push_of_some _ (Heap.get?_push_of_some _ e)
 have hC1 := keep _ _ hC
 have hn1 : (excNew h C rest).Ns N mN := hn.keeps keep
 have hget : (excNew h C rest).get? (h.objs.size + 1) = some { cls := .ref C,data := .fields #[.ref h.objs.size,.none,.none,.none,.bool false,.none] } := by unfold excNew; heap_get
 have hcC : (Value.ref C :: Value.ref P :: bmV).contains (.ref C) = true := by simp
 have T1 := T.keeps keep
 have B1 := bind_fn (M := model prog w) (X.keeps keep) (.ref (h.objs.size + 1)) hf
 unfold isInstance
 repeat (first | with_reducible refine wpAny_loadPart_at hget ?_ | (with_reducible refine wpAny_isSubtype_exc hC1 ?_; rw [hcC]) | wp_step)
 show wpAny _ _ (typeLookup (.ref C) _) _ _ _
 refine wpAny_typeLookup_tail hC1 hn1 T1 F.mroIs F.init.lookup ?_
 rw [hni]
 refine wpAny_holding (wpAny_bind (B1.at ?_))
 refine wpAny_bind (wpAny_call (codeAny_mono hq fun r s' z => ?_))
 cases r with
 | error e => exact z
 | ok fl =>
  cases fl with
  | ret v =>
   obtain ⟨rfl,z⟩ := z
   exact wpAny_pure (wpAny_pure z)
  | next => exact z.elim
  | brk => exact z.elim
  | cont => exact z.elim
theorem exi_call {rest : List Value} {R : Result -> Shared -> Prop} (X : K.In h) (I : ClsI h C P f) (hf : typeIn K (.ref f) = some (.type "function")) (hrest : rest.length <= sizeLine)
  (hq : codeAny (model prog w) (A.under (.builtin "type.__call__" ⟨.ref C :: rest,[]⟩)) (.call (.ref f) ⟨.ref (h.objs.size + 1) :: rest,[]⟩) (InitBack (h.objs.size + 1) R) ⟨excNew h C rest,g,d,t,os⟩) :
  codeAny (model prog w) A (.call (.ref C) ⟨rest,[]⟩) R ⟨h,g,d,t,os⟩ := by
 obtain ⟨nm,q,N,bs,sn,sub,ab,col,dd,k0,k1,k2,k3,k5,mN,hC,hn,hni,T⟩ := id I.ex
 have f1 := tc_lookup
 have f2 := tc_bind (.ref C)
 have hT : (⟨h,g,d,t,os⟩ : Shared).TypeIs (.ref C) "type" := ⟨_,hC,rfl⟩
 refine codeAny_of_tree ?_
 show wpAny _ _ (callAny (.ref C) _) _ _ _
 repeat (any_goals (first | assumption | with_reducible refine wpAny_loadPart_at hC ?_ | wp_step))
 refine ⟨rfl,?_⟩
 refine codeAny_call_builtin_at (Code.quiet_builtin _ (by decide +kernel)) entry_typeCall (wpAny_check_type_call_sub hC (exi_type_call X I hf hrest (codeAny_mono hq fun r s' z => ?_)))
 cases r with
 | error e => exact z
 | ok fl =>
  cases fl with
  | ret v => exact z
  | next => exact z.elim
  | brk => exact z.elim
  | cont => exact z.elim
end
end L2
namespace L2
open PySem PySem.Spec PyProof.Rows PySem.W
def exN (a C : Addr) (dd : Option Addr) : HO := .ext fun h => ∃ o t,(h.get? a = some o /\ o.cls = .ref C /\ o.dict = dd) /\ o.data = .fields #[t,.none,.none,.none,.bool false,.none]
def rem (H : Hp) (a : Addr) : Hp := fun b => if b = a then none else H b
theorem rem_ne {H : Hp} {a b : Addr} (h : b ≠ a) : rem H a b = H b := by unfold rem; rw [if_neg h]
theorem rem_same {H : Hp} {a : Addr} : rem H a a = none := by unfold rem; rw [if_pos rfl]
section
variable {X : Cx} {pins : List (Addr × Obj)} {σ : St} {H : Hp} {s : Shared}
theorem Inv.drop (I : Inv X pins σ H s) {a : Addr} {φ : Heap -> Prop} (ha : H a = some (.ext φ)) : Inv X pins σ (rem H a) s := by
 have nn : ∀ b,H b = none -> rem H a b = none := fun b h => by
  by_cases z : b = a
  ·rw [z]; exact rem_same
  ·rw [rem_ne z]; exact h
 have oo : ∀ b o,H b = some o -> (∀ ψ,o ≠ .ext ψ) -> rem H a b = some o := fun b o h n => by
  by_cases z : b = a
  ·subst z; rw [h] at ha; cases ha; exact absurd rfl (n φ)
  ·rw [rem_ne z]; exact h
 refine ⟨I.ok,I.os,I.bare,⟨I.base.keep,I.base.slot,fun b o e n hx => nn b (I.base.free b o e n hx),I.base.there,fun b xs e => oo b _ (I.base.tups b xs e) (fun _ z => by cases z),fun b o x e => oo b _ (I.base.frzs b o x e) (fun _ z => by cases z),fun b ps e => ?_⟩,I.loc,I.cell,nn _ I.free,fun x c e => nn _ (I.freeC x c e),fun p hp => ?_,fun b o e => ?_,I.len⟩
 ·obtain ⟨m,z⟩ := I.base.tbls b ps e
  exact ⟨m,oo b _ z (fun _ q => by cases q)⟩
 ·obtain ⟨a1,a2,a3⟩ := I.pin p hp
  exact ⟨a1,nn _ a2,a3⟩
 ·by_cases z : b = a
  ·rw [z,rem_same] at e; cases e
  ·rw [rem_ne z] at e
   exact (I.hok b o e).stay (fun _ _ _ q => q) (fun c q => oo c _ q (fun _ z => by cases z)) (fun c xs q => oo c _ q (fun _ z => by cases z))
theorem Inv.exnew (I : Inv X pins σ H s) (C : Addr) (us : List Value) : Inv X pins σ (upd H (s.heap.objs.size + 1) (exN (s.heap.objs.size + 1) C none)) { s with heap := excNew s.heap C us } := by
 refine I.laid (a := s.heap.objs.size + 1) (t' := s.toks) (fun b u e => Heap.get?_push_of_some _ (Heap.get?_push_of_some _ e)) (Nat.le_succ _) ?_
 have hget : (excNew s.heap C us).get? (s.heap.objs.size + 1) = some { cls := .ref C,data := .fields #[.ref s.heap.objs.size,.none,.none,.none,.bool false,.none] } := by unfold excNew; heap_get
 exact ⟨⟨_,_,⟨hget,rfl,rfl⟩,rfl⟩,⟨_,hget⟩,fun h1 h2 ⟨o,t,⟨e1,e2,e3⟩,e4⟩ k => ⟨o,t,⟨k o e1,e2,e3⟩,e4⟩⟩
theorem raise_made {M : Model} {A : Around} {E : Value -> Shared -> Prop} {env : Env} {x : Sem Value} {C : Addr} {K : Frag} {s : Shared} {Q : Flow -> Shared -> Prop} (hh : A.handled = none) (F : ExK K C) (hk : ∃ oC,K.lookup C = some oC /\ oC.cls = .type "type")
  (h : wpAny M A x (fun v s₁ => K.In s₁.heap /\ ∃ e ob us,v = .ref e /\ s₁.heap.get? e = some ob /\ ob.cls = .ref C /\ ob.data = .fields us /\ us[1]? = some .none /\ E (.ref e) s₁) E s) : wpAny M A (raiseStmt env (some x) none) Q E s := by
 unfold raiseStmt
 refine wpAny_bind (wpAny_mono h (fun v s₁ h₁ => ?_) fun _ _ x => x)
 obtain ⟨KX,e,ob,us,rfl,he,hc,hd,h1,hE⟩ := h₁
 obtain ⟨hp,g,d,tk,os⟩ := s₁
 have L1 := looks_subIn (M := M) KX F.sb
 obtain ⟨⟨cC,dC,tC,sC⟩,hkC,hkc⟩ := hk
 have hC := KX _ _ hkC
 dsimp only at hkc
 subst hkc
 obtain ⟨oc,od,odt,osl⟩ := ob
 dsimp only at hc hd
 subst hc hd
 have h1' := h1
 repeat (first | with_reducible refine wpAny_loadPart_at he ?_ | with_reducible refine wpAny_loadPart_at hC ?_ | with_reducible refine L1.at ?_ | wp_step)
 rw [h1]
 refine wpAny_pure ?_
 rw [if_neg (by decide)]
 exact wpAny_pure (wpAny_raiseNew_none hh hE)
end
theorem xiIn_obj {K : Frag} {C P f : Addr} (q : xiIn K C P f = true) : ∃ oC,K.lookup C = some oC /\ oC.cls = .type "type" := by
 unfold xiIn at q
 split at q
 ·rename_i ho
  exact ⟨_,ho,rfl⟩
 ·cases q
structure ExI (K : Frag) (C P f : Addr) : Prop where
 xi : xiIn K C P f = true
 fn : typeIn K (.ref f) = some (.type "function")
 kp : keepIn K (.ref C) = true
 k : ExK K C
def tRaiseI (C : Addr) (sp : Sp) (E : XK) (t : TA) : TS := fun _ σ H => t σ H fun vs H1 => vs.length <= sizeLine /\ ∀ e,H1 e = none ->
 sp (.ref e :: vs) (upd H1 e (exN e C none)) (fun v H2 => v = .non /\ ∃ dd,H2 e = some (exN e C dd) /\ E (.ref C) dd (rem H2 e)) E0
section
variable {X : Cx}
theorem ps_raiseI {x : Str} {C P f : Addr} {fd : FuncData} {ps : List Str} {sp : Sp} {k : Nat} {e₀ : Expr} {es : List Expr} {t : TA} {E : XK} {np cpos pos : Pos} (hex : X.ex = []) (hX : XeOk X E) (hc : X.calm = true) (hr : Room (k + 1) X.A) (hg : Gl X x) (hm : X.mg x = some (.ref C)) (hei : ExI X.K C P f)
  (F : FnOk X.prog X.w X.K X.mg X.base CX0 k f fd ps sp) (hb : Binds X.K fd ps []) (ha : PA X (e₀ :: es) t)
  (hdb : (x == ("__debug__" : Str)) = false := by decide) (he : starEach (e₀ :: es) X.env = (false,eval e₀ X.env) :: starEach es X.env := by rfl) (hpl : (backTo cpos (starEach es X.env)).any (·.1) = false := by rfl) :
  PS X (.Raise (some (.Call (.Name x np) (e₀ :: es) [] cpos)) none pos) (tRaiseI C sp E t) := by
 intro pins s σ H D I h
 rw [arm_exec_Raise]
 refine wpAny_bind (wpAny_standAt (raise_made (C := C) (K := X.K) (I.ok.hd hc) hei.k (xiIn_obj hei.xi) ?_))
 refine wpAny_bind (thn (Q := fun v s₁ => X.K.In s₁.heap /\ ∃ e ob us,v = Value.ref e /\ s₁.heap.get? e = some ob /\ ob.cls = .ref C /\ ob.data = .fields us /\ us[1]? = some .none /\ X.xe (.ref e) s₁) ?_ fun v s1 q => wpAny_bind (wpAny_standAt (wpAny_pure q)))
 refine wpAny_Call_Name_kw (ld_glob I hg hm ?_ hdb)
 refine PySem.W.callWith_K (h₀ := X.base) I.ok.mod.kin hei.kp (thn (ha cpos pins s σ H _ I h) fun us s1 ⟨vs,H1,I1,r,hl,q⟩ => ⟨I1.kIn,?_⟩) he hpl
 have hn : H1 (s1.heap.objs.size + 1) = none := I1.hok.fresh (Nat.le_succ _)
 have hq := q (s1.heap.objs.size + 1) hn
 have I2 := I1.exnew C us
 have r2 : Vals (V.ref (s1.heap.objs.size + 1) :: vs) (Value.ref (s1.heap.objs.size + 1) :: us) := .cons rfl r
 have hlen : (Value.ref (s1.heap.objs.size + 1) :: us ++ []).length = ps.length := by
  have e := r2.length
  rw [F.len _ _ _ _ hq] at e
  rw [List.append_nil]
  exact e.symm
 have n0 : X.s₀.heap.get? (s1.heap.objs.size + 1) = none := I1.absent0 hex (Heap.get?_none_of_le (Nat.le_succ _))
 obtain ⟨hh,g,d,tk,os⟩ := s1
 refine wpAny_call (exi_call (f := f) (P := P) I1.kIn (clsI_of I1.kIn hei.xi) hei.fn (by show us.length <= sizeLine; rw [<- r.length]; exact hl) (codeAny_mono (F.run _ X.stack _ _ ⟨Value.ref (hh.objs.size + 1) :: us,[]⟩ (Value.ref (hh.objs.size + 1) :: us) _ _ E0 (hr.make C us [])
  (I2.env0.make C us []) (by have z := hb _ (Value.ref (hh.objs.size + 1) :: us) I2.kIn hlen; rw [List.append_nil] at z; exact z) r2 hq) fun r s' hq' => ?_))
 cases r with
 | error e => exact hq'.elim
 | ok fl =>
  cases fl with
  | ret u =>
   obtain ⟨v,H',I3,rv,ev,dd,hd,hE⟩ := I2.after hq'
   subst ev
   refine ⟨rv,?_⟩
   obtain ⟨⟨o,t',⟨o1,o2,o3⟩,o4⟩,_⟩ := I3.hok _ _ hd
   exact ⟨I3.kIn,_,o,_,rfl,o1,o2,o4,rfl,hX pins σ _ s' _ C o _ (I3.drop hd) rem_same n0 o1 o2 o4 rfl (by rw [o3]; exact hE)⟩
  | next => exact hq'.elim
  | brk => exact hq'.elim
  | cont => exact hq'.elim
end
end L2
namespace L2
open PySem PySem.Spec PyProof.Rows PySem.W PySem.Builtin PySem.Builtin.ObjectAttr
theorem refuse_exc (self : Value) : refuseLoop self "__setattr__" bmV = pure () := by
 kernel_rfl
section
variable {prog : Program} {w : World} {A : Around} {E : Value -> Shared -> Prop} {h : Heap} {g : Array GenState} {d : Drawn} {t : Nat} {os : OsState} {K : Frag} {C P f a : Addr} {o : Obj} {name : Str} {v : Value}
theorem exi_set_open {Q : Unit -> Shared -> Prop} (X : K.In h) (I : ClsI h C P f) (F : ExK K C) (sa : findIn K (.ref C) "__setattr__" = some (some (.builtin "object.__setattr__"))) (nn : findIn K (.ref C) name = some none) (O : ExAt h a o C)
  (hq : ∀ A' tk,wpAny (model prog w) A' (storeInOwnDict (.ref a) (.ref C) (.str name tk) name v false) (fun fin s' => ∃ u,fin = .done (.ret u) /\ Q () s') (fun _ _ => False) ⟨h,g,d,t + 1,os⟩) :
  wpAny (model prog w) A (setAttr (.ref a) name v) Q E ⟨h,g,d,t,os⟩ := by
 obtain ⟨nm,q,N,bs,sn,sub,ab,col,dd,k0,k1,k2,k3,k5,mN,hC,hn,hni,T⟩ := I.ex
 have SF := PySem.F.store_object
 have L1 := O.type (M := model prog w)
 have L2' := looks_findIn (M := model prog w) X sa
 have L3 := looks_findIn (M := model prog w) X nn
 have L4 : Looks (model prog w) h (isInstance (.ref a) (.type "object")) true := L1.andThen (looks_subIn X F.so)
 refine wpAny_bind (wpAny_mkText (wpAny_bind (wpAny_bind (wpAny_bind (L1 _ _ _ _ (fun _ _ e => e) (L2' _ _ _ _ (fun _ _ e => e) (wpAny_holding ?_)))))))
 rw [SF.slot.bind]
 refine wpAny_bind (wpAny_pure (wpAny_bind (wpAny_call ?_)))
 refine codeAny_call_builtin SF.slot.plain SF.entry (@check_slot (model prog w) _ _ _ "object.__setattr__" "object" "__setattr__" (.ref a) [.str name t,v] [] _ SF.kind SF.split L4 (SF.args (.ref a) (.str name t) v) ?_)
 show wpAny _ _ (Builtin.«object.__setattr__» ⟨[.ref a,.str name t,v],[]⟩) _ _ _
 rw [osa_eq,refuse_eq]
 refine wpAny_bind (wpAny_bind (L1.here (wpAny_bind (wpAny_mroOf_exc hC ?_))))
 rw [refuseLoop_ref,refuseLoop_ref,refuse_exc]
 refine wpAny_pure (wpAny_bind (L1.here (wpAny_bind (L3.here (wpAny_bind (wpAny_pure ?_))))))
 refine wpAny_mono (hq _ t) (fun fin s' z => ?_) fun _ _ z => z.elim
 obtain ⟨u,rfl,z⟩ := z
 exact wpAny_pure (wpAny_pure z)
theorem idict_new {Q : Option Addr -> Shared -> Prop} (I : ClsI h C P f) (O : ExAt h a o C) (hd : o.dict = none) {us : Array Value} (hf : o.data = .fields us)
  (hq : Q (some h.objs.size) ⟨(h.push { cls := .type "dict",data := .dict #[] }).update a fun ob => { ob with dict := some h.objs.size },g,d,t,os⟩) : wpAny (model prog w) A (instanceDict a true) Q E ⟨h,g,d,t,os⟩ := by
 obtain ⟨nm,q,N,bs,sn,sub,ab,col,dd,k0,k1,k2,k3,k5,mN,hC,hn,hni,T⟩ := I.ex
 have hx := O.at_
 obtain ⟨oc,od,odt,osl⟩ := o
 have hc := O.cls
 dsimp only at hd hf hc
 subst hd hf hc
 have hx1 : (h.push { cls := .type "dict",data := .dict #[] }).get? a = some ⟨.ref C,none,.fields us,osl⟩ := Heap.get?_push_of_some _ hx
 unfold instanceDict
 repeat (first | with_reducible refine wpAny_loadPart_at hx ?_ | with_reducible refine wpAny_loadPart_at hC ?_ | wp_step)
 exact hq
theorem store_in {Q : Fin -> Shared -> Prop} {dx : Addr} {mA : Str -> Option Value} {ns : List Str} {tk : Tok} (hn : h.Ns1 dx mA) (hw : Within mA ns) (hz : ns.length <= 100)
  (hq : ∀ h' tk',h'.Ns1 dx (fun y => if y = name then some v else mA y) -> (∀ b ob,b ≠ dx -> h.get? b = some ob -> h'.get? b = some ob) -> Q (.done (.ret .none)) ⟨h',g,d,tk',os⟩) :
  wpAny (model prog w) A (storeInDict dx (.str name tk) name v) Q E ⟨h,g,d,t,os⟩ := by
 unfold storeInDict newKeyGuard
 refine wpAny_bind (wpAny_pure (wpAny_bind (wpAny_nsSet1 hn fun h' hn' hs => ?_)))
 obtain ⟨oD,esD,epD,hoD,hdD,hcD⟩ := hn'.count (Within.cons name v hw)
 refine wpAny_bind (wpAny_lookBehind hoD (by rw [hdD]; exact pastItsLine_dict (Nat.le_trans hcD (by rw [List.length_cons,sizeLine_eq]; omega))) ?_)
 exact wpAny_pure (hq h' _ hn' fun b ob nb q => (hs.2 b nb).trans q)
theorem exi_set_new {Q : Unit -> Shared -> Prop} (X : K.In h) (I : ClsI h C P f) (F : ExK K C) (sa : findIn K (.ref C) "__setattr__" = some (some (.builtin "object.__setattr__"))) (nn : findIn K (.ref C) name = some none) (O : ExAt h a o C) (hd : o.dict = none) {us : Array Value} (hf : o.data = .fields us)
  (hq : ∀ h' tk,h'.Ns1 h.objs.size (fun y => if y = name then some v else none) -> h'.get? a = some { o with dict := some h.objs.size } -> (∀ b ob,b ≠ a -> h.get? b = some ob -> h'.get? b = some ob) -> Q () ⟨h',g,d,tk,os⟩) :
  wpAny (model prog w) A (setAttr (.ref a) name v) Q E ⟨h,g,d,t,os⟩ := by
 refine exi_set_open X I F sa nn O fun A' tk => ?_
 have hx := O.at_
 have ne : a ≠ h.objs.size := Nat.ne_of_lt (Heap.lt_size hx)
 have hx1 : (h.push { cls := .type "dict",data := .dict #[] }).get? a = some o := Heap.get?_push_of_some _ hx
 unfold storeInOwnDict
 refine wpAny_bind (wpAny_pure ?_)
 show wpAny _ _ (ownDictForStores (.ref a) >>= _) _ _ _
 refine wpAny_bind (idict_new I O hd hf ?_)
 have hgd : ((h.push { cls := .type "dict",data := .dict #[] }).update a fun ob => { ob with dict := some h.objs.size }).get? h.objs.size = some { cls := .type "dict",data := .dict #[] } :=
  (Heap.get?_update_other _ _ ne).trans (Heap.get?_push_at rfl rfl)
 have hga : ((h.push { cls := .type "dict",data := .dict #[] }).update a fun ob => { ob with dict := some h.objs.size }).get? a = some { o with dict := some h.objs.size } := by
  refine Heap.get?_update_self _ hx1 ?_
  obtain ⟨oc,od,odt,osl⟩ := o
  dsimp only at hf
  subst hf
  rfl
 have hnd : ((h.push { cls := .type "dict",data := .dict #[] }).update a fun ob => { ob with dict := some h.objs.size }).Ns h.objs.size (fun _ => none) := ⟨_,#[],_,hgd,rfl,fun e he => absurd he (by simp),fun _ => rfl⟩
 refine store_in (Heap.Ns1.of_empty hnd) (ns := []) Within.nil (by decide) fun h' tk' hn' hk => ⟨_,rfl,hq h' tk' hn' (hk a _ ne hga) fun b ob nb q => hk b ob (Nat.ne_of_lt (Heap.lt_size q)) ?_⟩
 exact (Heap.get?_update_other _ _ (Ne.symm nb)).trans (Heap.get?_push_of_some _ q)
end
structure ExF (K : Frag) (C P f : Addr) (x : Str) : Prop where
 i : ExI K C P f
 sa : findIn K (.ref C) "__setattr__" = some (some (.builtin "object.__setattr__"))
 nn : findIn K (.ref C) x = some none
def xdE (a : Addr) (fs : List (Str × V)) : HO := .ext fun h => ∃ mA,h.Ns1 a mA /\ (∀ g,RelO (fs.lookup g) (mA g)) /\ Within mA (fs.map (·.1))
theorem xdE_ok {P : Program} {w : World} {H : Hp} {h : Heap} {a : Addr} {fs : List (Str × V)} {mA : Str -> Option Value} (n : h.Ns1 a mA) (r : ∀ g,RelO (fs.lookup g) (mA g)) (wi : Within mA (fs.map (·.1))) : ObjOk P w H h a (xdE a fs) := by
 obtain ⟨o,es,ep,e,q⟩ := id n
 exact ⟨⟨mA,n,r,wi⟩,⟨o,e⟩,fun h1 h2 ⟨m,n1,r1,w1⟩ k => ⟨m,n1.at k,r1,w1⟩⟩
theorem exN_ok {P : Program} {w : World} {H : Hp} {h : Heap} {a C : Addr} {dd : Option Addr} {o : Obj} {t : Value} (e : h.get? a = some o) (c : o.cls = .ref C) (dq : o.dict = dd) (fd : o.data = .fields #[t,.none,.none,.none,.bool false,.none]) : ObjOk P w H h a (exN a C dd) :=
 ⟨⟨o,t,⟨e,c,dq⟩,fd⟩,⟨o,e⟩,fun h1 h2 ⟨o,t,⟨e1,e2,e3⟩,e4⟩ k => ⟨o,t,⟨k o e1,e2,e3⟩,e4⟩⟩
section
variable {X : Cx} {pins : List (Addr × Obj)} {σ : St} {H : Hp} {s : Shared} {o e value : Expr} {x : Str} {pos pos' : Pos} {ta tv : TE} {C P f : Addr}
theorem Inv.trackNew {s' : Shared} {H' : Hp} (I : Inv X pins σ H s) (I' : Inv X pins σ H' s') {a : Addr} {u : HO} (hex : X.ex = []) (n : s.heap.get? a = none) (hn : H' a = none) (ok : ObjOk X.prog X.w (upd H' a u) s'.heap a u) : Inv X pins σ (upd H' a u) s' := by
 refine I'.track hn (I.absent0 hex n) (fun z => ?_) (fun y c q z => ?_) (fun p q z => ?_) ok
 ·obtain ⟨m,⟨oL,_,_,hoL,_⟩,_⟩ := I.loc
  rw [<- z,n] at hoL
  cases hoL
 ·obtain ⟨v,o,ho,_⟩ := I.cell y c q
  rw [z,n] at ho
  cases ho
 ·have := (I.pin p q).1
  rw [z,n] at this
  cases this
def sExN (K : Frag) (C P f : Addr) (ta tv : TE) (x : Str) : TS := fun D σ H => tv σ H fun y H1 => ta σ H1 fun z H2 => ∃ a,z = .ref a /\ H2 a = some (exN a C none) /\ ExF K C P f x /\
 ∀ dx,H2 dx = none -> dx ≠ a -> D.nx σ (upd (upd H2 a (exN a C (some dx))) dx (xdE dx [(x,y)]))
theorem ps_exN (hex : X.ex = []) (ha : PE X o ta) (hv : PE X value tv) (hs : swapsWith value (some (.Attribute o x pos')) pos.line X.env = pure false) : PS X (.Assign [.Attribute o x pos'] value pos) (sExN X.K C P f ta tv x) := by
 intro pins s σ H D I h
 refine plainObj_wpAny_Assign_Attribute (thn (hv pins s σ H _ I h) fun u s1 ⟨y,H1,I1,ry,q⟩ => thn (ha pins s1 σ H1 _ I1 q) fun ov s2 ⟨z,H2,I2,rx,a,ez,ea,F,q2⟩ => ?_) hs
 subst ez
 obtain rfl : ov = Value.ref a := rx
 obtain ⟨⟨ob,t',⟨o1,o2,o3⟩,o4⟩,_⟩ := I2.hok _ _ ea
 have nz : s2.heap.get? s2.heap.objs.size = none := Heap.get?_none_of_le (Nat.le_refl _)
 have Hz : H2 s2.heap.objs.size = none := I2.hok.fresh (Nat.le_refl _)
 have ne : s2.heap.objs.size ≠ a := Nat.ne_of_gt (Heap.lt_size o1)
 obtain ⟨hh,g,d,tk,os⟩ := s2
 refine exi_set_new I2.kIn (clsI_of I2.kIn F.i.xi) F.i.k F.sa F.nn ⟨o1,o2⟩ o3 o4 fun h' tk' hn' ga ks => ?_
 have J1 : Inv X pins σ (upd H2 a (exN a C (some hh.objs.size))) ⟨h',g,d,tk',os⟩ := by
  refine I2.write (x := a) (e := a) (t' := tk') (by rw [ea]; exact True.intro) (.inl rfl) ks ⟨_,ga⟩ ?_
  exact exN_ok ga o2 rfl o4
 have J2 := I2.trackNew J1 (a := hh.objs.size) (u := xdE hh.objs.size [(x,y)]) hex nz (by rw [upd_ne ne]; exact Hz) (xdE_ok hn' (fun g => ?_) (fun g hg => ?_))
 ·exact ⟨σ,_,J2,q2 _ Hz ne⟩
 ·by_cases z : g = x
  ·subst z
   simp only [List.lookup,beq_self_eq_true,if_true]
   exact ry
  ·have : ([(x,y)] : List (Str × V)).lookup g = none := by
    simp only [List.lookup]
    rw [beq_eq_false_iff_ne.mpr z]
   rw [this,if_neg z]
   exact True.intro
 ·by_cases z : g = x
  ·rw [z]; simp
  ·rw [if_neg z] at hg
   exact absurd rfl hg
end
end L2
namespace L2
open PySem PySem.Spec PyProof.Rows PySem.W PySem.Builtin PySem.Builtin.ObjectAttr
section
variable {prog : Program} {w : World} {A : Around} {E : Value -> Shared -> Prop} {h : Heap} {g : Array GenState} {d : Drawn} {t : Nat} {os : OsState} {K : Frag} {C P f a : Addr} {o : Obj} {v : Value}
theorem binit_call {Q : Value -> Shared -> Prop} {rest : List Value} {us : Array Value} {a0 : Value} (I : ClsI h C P f) (O : ExAt h a o C) (hf : o.data = .fields us) (h0 : us[0]? = some a0) (hz : rest.length <= sizeLine)
  (hq : Q .none ⟨(h.push { cls := .type "tuple",data := .seq rest.toArray }).update a (Obj.mapFields (·.setIfInBounds 0 (.ref h.objs.size))),g,d,t,os⟩) :
  wpAny (model prog w) A (call (.builtin "ValueError.__init__") (.ref a :: rest)) Q E ⟨h,g,d,t,os⟩ := by
 obtain ⟨nm,q,N,bs,sn,sub,ab,col,dd,k0,k1,k2,k3,k5,mN,hC,hn,hni,T⟩ := I.ex
 have F := PySem.F.excBase_ValueError
 have z0 : 0 < us.size := (Array.getElem?_eq_some_iff.mp h0).1
 have g1 := Heap.get?_push_of_some (h := h) { cls := .type "tuple",data := .seq rest.toArray } O.at_
 refine wpAny_call (codeAny_call_builtin F.init.plain F.initEntry (wpAny_check_init_subU F T hC O.at_ O.cls ?_))
 unfold Builtin.«BaseException.__init__»
 dsimp only
 rw [if_neg (by simp)]
 unfold newTuple Builtin.BaseException.bexcPut
 refine wpAny_bind (wpAny_newObj_type ?_ (by show rest.toArray.size <= sizeLine; rw [List.size_toArray]; exact hz))
 refine wpAny_bind (wpAny_bind (wpAny_field g1 hf h0 (wpAny_bind (wpAny_setField g1 hf z0 ?_))))
 split
 ·refine wpAny_letGo ?_
  exact wpAny_pure hq
 ·exact wpAny_pure (wpAny_pure hq)
end
structure BaseI (K : Frag) (P : Addr) : Prop where
 rd : readsIn K P (.type "type") = true
 fc : findCls K (.ref P) (.type "type") "__init__" = some (.val (.builtin "ValueError.__init__"))
 ga : specialIn K (.ref P) "__getattribute__" = some (some (.builtin "type.__getattribute__"))
section
variable {X : Cx} {C P f : Addr} {x : Str} {p apos pos : Pos} {e₁ e₂ : Expr} {t : TA}
def tBInit (K : Frag) (P : Addr) (t : TA) : TE := fun σ H Q => t σ H fun vs H1 => ∃ a C dd f txt,vs = [.ref a,.str txt] /\ H1 a = some (exN a C dd) /\ ExI K C P f /\ Q .non H1
theorem upd_id {H : Hp} {a : Addr} {o : HO} (h : H a = some o) : upd H a o = H := by
 funext b
 by_cases z : b = a
 ·rw [z,upd_same,h]
 ·rw [upd_ne z]
theorem pe_binit {pl : Sem Bool} (hg : Gl X x) (hm : X.mg x = some (.ref P)) (B : BaseI X.K P) (ha : PA X [e₁,e₂] t) (hdb : (x == ("__debug__" : Str)) = false := by decide)
  (hst : starEach [e₁,e₂] X.env = (false,eval e₁ X.env) :: starEach [e₂] X.env := by rfl) (hpl : (backTo pos (starEach [e₂] X.env)).any (·.1) = false := by rfl)
  (ht : eval (.Call (.Attribute (.Name x p) "__init__" apos) [e₁,e₂] [] pos) X.env = (do
   let ov <- eval (.Name x p) X.env
   standAt apos.atName
   let (f,first) <- holding [ov] (getMethod ov "__init__" pl)
   callWith pos f first (backTo pos (starEach [e₁,e₂] X.env)) (backToKw pos (keywordEach [] X.env))) := by rfl) :
  PE X (.Call (.Attribute (.Name x p) "__init__" apos) [e₁,e₂] [] pos) (tBInit X.K P t) := by
 intro pins s σ H Q I h
 refine PySem.W.methodCall_KW (pl := pl) (ld_glob I hg hm ?_ hdb) ht
 refine method_cls I.kIn B.ga (cls_value I.kIn B.rd B.fc rfl ?_)
 have I0 := I.tok (s.toks + 1)
 have hA := ha pos pins _ σ H _ I0 h
 rw [hst] at hA ⊢
 refine Calls.callWith_builtin (by show (false || (backTo pos (starEach [e₂] X.env)).any (·.1)) = false; rw [hpl] <;> rfl) (Calls.evalArgs_plain (thn hA fun us s2 ⟨vs,H2,I2,r2,a,C,dd,f,txt,e1,ea,F,q2⟩ => ?_))
 subst e1
 obtain ⟨u1,u2,rfl,ra,rt⟩ := r2.two
 obtain rfl : u1 = Value.ref a := ra
 obtain ⟨⟨ob,t',⟨o1,o2,o3⟩,o4⟩,_⟩ := I2.hok _ _ ea
 obtain ⟨hh,g,d,tk,os⟩ := s2
 refine binit_call (clsI_of I2.kIn F.xi) ⟨o1,o2⟩ o4 rfl (by show 1 <= sizeLine; decide) ?_
 have g1 := Heap.get?_push_of_some (h := hh) { cls := .type "tuple",data := .seq [u2].toArray } o1
 have d1 := Obj.data_mapFields o4 (·.setIfInBounds 0 (Value.ref hh.objs.size))
 have g2 := Heap.get?_update_self (Obj.mapFields (·.setIfInBounds 0 (Value.ref hh.objs.size))) g1 (Obj.isFreed_of_fields d1)
 have J : Inv X pins σ (upd H2 a (exN a C dd)) ⟨(hh.push { cls := .type "tuple",data := .seq [u2].toArray }).update a (Obj.mapFields (·.setIfInBounds 0 (.ref hh.objs.size))),g,d,tk,os⟩ := by
  refine I2.write (x := a) (e := a) (t' := tk) (by rw [ea]; exact True.intro) (.inl rfl) (fun b u nb q => ?_) ⟨_,g2⟩ ?_
  ·exact (Heap.get?_update_other _ _ (Ne.symm nb)).trans (Heap.get?_push_of_some _ q)
  ·exact exN_ok g2 ((Obj.cls_mapFields _ _).trans o2) ((dict_mf _ _).trans o3) d1
 rw [upd_id ea] at J
 exact ⟨.non,H2,J,rfl,q2⟩
def tExF (K : Frag) (ta : TE) (x : Str) : TE := fun σ H Q => ta σ H fun z H1 => ∃ a C P f dx fs v,z = .ref a /\ H1 a = some (excD a C (some dx)) /\ H1 dx = some (xdE dx fs) /\ ExF K C P f x /\ fs.lookup x = some v /\ Q v H1
end
end L2
namespace L2
open PySem PySem.Spec PyProof.Rows PySem.W
def FmtV : V -> Str -> Prop
 | .int i,x => i.natAbs.log2 < 1920 /\ x = (toString i : String)
 | .str y,x => y.length <= sizeLine /\ x = y
 | .non,x => x = "None"
 | _,_ => False
def tFmt (ta : TE) : TE := fun σ H Q => ta σ H fun v H1 => ∃ x,FmtV v x /\ Q (.str x) H1
abbrev TJ := Str -> St -> Hp -> (Str -> Hp -> Prop) -> Prop
def PJ (X : Cx) (es : List Expr) (t : TJ) : Prop :=
 ∀ (acc : Str) (pins : List (Addr × Obj)) (s : Shared) (σ : St) (H : Hp) (Q : Str -> Hp -> Prop),Inv X pins σ H s -> t acc σ H Q -> wpAny (model X.prog X.w) X.A (joinParts acc (evalEach es X.env)) (EP X pins σ fun v H' => ∃ x,v = .str x /\ Q x H') X.xe s
def jNil : TJ := fun acc _ H Q => acc.length <= sizeLine /\ Q acc H
def jCons (te : TE) (tr : TJ) : TJ := fun acc σ H Q => te σ H fun v H1 => ∃ x,v = .str x /\ (acc ++ x).length <= sizeLine /\ tr (acc ++ x) σ H1 Q
def tJoin (t : TJ) : TE := fun σ H Q => t Str.empty σ H fun x H' => Q (.str x) H'
section
variable {X : Cx} {value e e' : Expr} {es : List Expr} {ta te : TE} {tr t : TJ} {pos : Pos}
theorem pe_fmt (ha : PE X value ta) : PE X (.FormattedValue value (-1) none pos) (tFmt ta) := by
 intro pins s σ H Q I h
 refine FormattedValue_plain (thn (ha pins s σ H _ I h) fun u s1 ⟨v,H1,I1,rv,x,fx,q⟩ => ?_)
 cases v with
 | int i =>
  obtain ⟨t,rfl⟩ := rv
  obtain ⟨hl,rfl⟩ := fx
  exact formatField_int_small hl ⟨.str _,H1,I1.tok _,⟨_,rfl⟩,q⟩
 | str y =>
  obtain ⟨t,rfl⟩ := rv
  obtain ⟨hl,rfl⟩ := fx
  exact formatField_str (fun t' tk => ⟨.str x,H1,I1.tok _,⟨_,rfl⟩,q⟩) hl
 | non =>
  cases rv
  cases fx
  exact wpAny_formatField_none ⟨.str _,H1,I1.tok _,⟨_,rfl⟩,q⟩
 | bl _ => exact fx.elim
 | byt _ => exact fx.elim
 | flt _ => exact fx.elim
 | ref _ => exact fx.elim
 | ty _ => exact fx.elim
theorem pj_nil : PJ X [] jNil := fun acc pins s σ H Q I h => joinParts_nil ⟨.str acc,H,I.tok _,⟨_,rfl⟩,acc,rfl,h.2⟩ h.1
theorem pj_cons (he : PE X e te) (hr : PJ X es tr) : PJ X (e :: es) (jCons te tr) := by
 intro acc pins s σ H Q I h
 show wpAny _ _ (joinParts acc (eval e X.env :: evalEach es X.env)) _ _ _
 refine joinParts_cons (thn (he pins s σ H _ I h) fun u s1 ⟨v,H1,I1,rv,x,ev,hz,q⟩ => ?_)
 subst ev
 obtain ⟨t,rfl⟩ := rv
 exact ⟨hz,hr _ pins s1 σ H1 Q I1 q⟩
theorem pe_join (h : PJ X (e :: e' :: es) t) : PE X (.JoinedStr (e :: e' :: es) pos) (tJoin t) := by
 intro pins s σ H Q I hw
 refine JoinedStr_many (thn (h _ pins s σ H _ I hw) fun u s1 ⟨v,H1,I1,rv,x,ev,q⟩ => ?_)
 subst ev
 exact ⟨.str x,H1,I1,rv,q⟩
theorem pe_join1 (h : PE X e te) : PE X (.JoinedStr [e] pos) te := fun pins s σ H Q I hw => JoinedStr_one (h pins s σ H Q I hw)
end
end L2
namespace L2
open PySem PySem.Spec PyProof.Rows PySem.W
def Its (x : Str) : It := ⟨fun i _ => ∃ c,x.cps[i]? = some c,fun i H v H' => H' = H /\ ∃ c,x.cps[i]? = some c /\ v = .str ⟨#[c]⟩,fun i _ => x.cps[i]? = none⟩
theorem turn_str {P : Program} {w : World} {K : Frag} {tg : Expr} (x : Str) (t : Tok) (it : Addr) (b : Bool) :
  Turn P w K tg (Its x) [it] it (fun i h => h.IsStrIter it (if b then "str_ascii_iterator" else "str_iterator") x t i) where
 mem := by simp
 obj := fun i h st a ha => by
  have e : a = it := by simpa using ha
  subst e
  obtain ⟨o,e,c,d⟩ := st
  exact ⟨o,e,fun v z => by rw [d] at z; cases z⟩
 keep := fun i h h' ⟨o,e,r⟩ k => ⟨o,k it (by simp) o e,r⟩
 item := by
  intro X hP hw hK hc i pins s σ H E I hf st hg
  subst hP hw hK
  obtain ⟨c,hx⟩ := hg
  obtain ⟨f0,f1,f2,f3,f4,f5⟩ := hf it (by simp)
  have go : ∀ h',h'.IsStrIter it (if b then "str_ascii_iterator" else "str_iterator") x t (i + 1) -> Heap.SameBut it s.heap h' ->
    ∃ u,(some (Value.str ⟨#[c]⟩ s.toks)) = some u /\ wpAny (model X.prog X.w) X.A (letOwnedTupleGo tg (.ref it) u) (fun _ s2 => ∃ v H',Inv X pins σ H' s2 /\ RelV v u /\ (Its x).yld i H v H' /\ s2.heap.IsStrIter it (if b then "str_ascii_iterator" else "str_iterator") x t (i + 1) /\ ∀ b ∈ [it],H' b = none) E { s with heap := h',toks := s.toks + 1 } := by
   intro h' st' sb
   have I1 : Inv X pins σ H { s with heap := h',toks := s.toks + 1 } := I.turned (t' := s.toks + 1) (fun b o hb e => (sb.2 b hb).trans e) f0 f1 f3 f4 f5
   obtain ⟨o,e,cc,d⟩ := id st'
   exact ⟨_,rfl,go_of (s := { s with heap := h',toks := s.toks + 1 }) e cc d (by cases b <;> decide) ⟨.str ⟨#[c]⟩,H,I1,⟨_,rfl⟩,⟨rfl,c,hx,rfl⟩,st',fun b hb => (hf b hb).1⟩⟩
  cases b with
  | true => exact wpAny_pyNext_ascii_item st hx go
  | false => exact wpAny_pyNext_wide_item st hx go
 done := by
  intro X hP hw hK hc i pins s σ H E I hf st hg
  subst hP hw hK
  obtain ⟨f0,f1,f2,f3,f4,f5⟩ := hf it (by simp)
  cases b with
  | true => exact wpAny_pyNext_ascii_end (I.ok.hd hc) st hg fun h' eb => ⟨rfl,I.turned (t' := s.toks) (fun b o hb e => eb b o hb e) f0 f1 f3 f4 f5⟩
  | false => exact wpAny_pyNext_wide_end (I.ok.hd hc) st hg fun h' eb => ⟨rfl,I.turned (t' := s.toks) (fun b o hb e => eb b o hb e) f0 f1 f3 f4 f5⟩
 self := fun _ _ _ _ _ st h => by
  cases b with
  | true => exact wpAny_pyIter_striter_ascii st h
  | false => exact wpAny_pyIter_striter_wide st h
def iStr (tl : TE) : TI := fun σ H R => tl σ H fun v H1 => ∃ x,v = .str x /\ R (Its x) H1
section
variable {X : Cx}
theorem pi_str {tg l : Expr} {tl : TE} (hl : PE X l tl) : PI X tg l (iStr tl) := by
 intro pins s σ H R I h
 refine thn (hl pins s σ H _ I h) fun v s1 ⟨y,H1,I1,r1,x,ey,q⟩ => ?_
 subst ey
 obtain ⟨t,rfl⟩ := r1
 have fin : ∀ b : Bool,PIE X pins σ tg R (.ref s1.heap.objs.size) { s1 with heap := s1.heap.push { cls := .type (if b then "str_ascii_iterator" else "str_iterator"),data := .fields #[.str x t,.int 0 0] } } := by
  intro b
  refine ⟨s1.heap.objs.size,[s1.heap.objs.size],_,_,H1,rfl,I1.kept (t' := s1.toks) fun b o e => Heap.get?_push_of_some _ e,turn_str x t _ b,⟨_,Heap.get?_push_size _ rfl,rfl,rfl⟩,fun b hb => ?_,q⟩
  have e : b = s1.heap.objs.size := by simpa using hb
  subst e
  exact I1.fpOk (Nat.le_refl _) (I1.hok.fresh (Nat.le_refl _))
 cases ha : x.cps.all (· < 128) with
 | true => exact wpAny_pyIter_ascii ha (fin true)
 | false => exact wpAny_pyIter_wide ha (fin false)
end
def rPart : V -> List V -> Hp -> VK -> Prop := fun z vs H Q => ∃ x y,z = .str x /\ vs = [.str y] /\ (y.length == 0) = false /\ x.length <= sizeLine /\ ∀ p,H p = none -> Q (.ref p) (upd H p (.tup [.str (Txt.partition x y).1,.str (Txt.partition x y).2.1,.str (Txt.partition x y).2.2]))
def rSplit : V -> List V -> Hp -> VK -> Prop := fun z vs H Q => ∃ x y,z = .str x /\ vs = [.str y] /\ (y.length == 0) = false /\ x.length + 2 <= sizeLine /\ ∀ p,H p = none -> Q (.ref p) (upd H p (.lst ((Txt.split x y).map V.str)))
section
variable {X : Cx}
theorem Inv.tnew {pins : List (Addr × Obj)} {σ : St} {H : Hp} {s : Shared} {its : List Value} {ys : List V} {t' : Nat} (I : Inv X pins σ H s) (hv : Vals ys its) (hz : ys.length <= sizeLine) :
  Inv X pins σ (upd H s.heap.objs.size (.tup ys)) { s with heap := s.heap.push { cls := .type "tuple",data := .seq its.toArray },toks := t' } := by
 have e : (s.heap.push { cls := .type "tuple",data := .seq its.toArray }).get? s.heap.objs.size = some { cls := .type "tuple",data := .seq its.toArray } := Heap.get?_push_size s.heap rfl
 exact I.laid (fun b u q => Heap.get?_push_of_some _ q) (Nat.le_refl _) ⟨hz,its,hv,⟨_,e,rfl,_,rfl⟩⟩
theorem mt_part : MtR X "str.partition" rPart := by
 intro pins s σ H z vs v us Q I rx rv h
 obtain ⟨x,y,rfl,rfl,hy,hz,q⟩ := h
 obtain ⟨t,rfl⟩ := rx
 obtain ⟨u,rfl,tu,rfl⟩ := rv.one
 refine call_meets PySem.F.slot_str_partition (typeIs_str _ _ _) PySem.F.entry_str_partition (PySem.F.args_str_partition_2 _ _) (meets_str_partition x y t tu hy hz) ?_
 have q' := q s.heap.objs.size (I.hok.fresh (Nat.le_refl _))
 unfold Txt.partition at q'
 revert q'
 cases Builtin.Str.occurrences x y 0 x.length 1 with
 | nil => intro q'; exact ⟨.ref _,_,I.tnew (ys := [.str _,.str _,.str _]) (.cons ⟨_,rfl⟩ (.cons ⟨_,rfl⟩ (.cons ⟨_,rfl⟩ .nil))) (by show 3 <= sizeLine; decide),rfl,q'⟩
 | cons i r => intro q'; exact ⟨.ref _,_,I.tnew (ys := [.str _,.str _,.str _]) (.cons ⟨_,rfl⟩ (.cons ⟨_,rfl⟩ (.cons ⟨_,rfl⟩ .nil))) (by show 3 <= sizeLine; decide),rfl,q'⟩
end
end L2
namespace L2
open PySem PySem.Spec PyProof.Rows PySem.W
theorem vals_strs : ∀ (tk : Nat) (xs : List Str),Vals (xs.map V.str) (strsFrom tk xs)
 | _,[] => .nil
 | tk,_ :: r => .cons ⟨_,rfl⟩ (vals_strs (tk + 1) r)
section
variable {X : Cx}
theorem mt_split : MtR X "str.split" rSplit := by
 intro pins s σ H z vs v us Q I rx rv h
 obtain ⟨x,y,rfl,rfl,hy,hz,q⟩ := h
 obtain ⟨t,rfl⟩ := rx
 obtain ⟨u,rfl,tu,rfl⟩ := rv.one
 have q' := q s.heap.objs.size (I.hok.fresh (Nat.le_refl _))
 have cnt : (Builtin.Str.partsBetween x (Builtin.Str.occurrences x y 0 x.length (x.length + 1)) y.length).length <= sizeLine := by
  have := StrLaws.occ_length_le x y 0 x.length (x.length + 1)
  rw [length_partsBetween]
  omega
 have one : ∀ ys : List Str,ys = [x] -> Q (.ref s.heap.objs.size) (upd H s.heap.objs.size (.lst (ys.map V.str))) -> EP X pins σ Q (.ref s.heap.objs.size) { s with heap := s.heap.push { cls := .type "list",data := .seq [Value.str x t].toArray } } := by
  rintro ys rfl k
  exact ⟨.ref _,_,I.lnew (ys := [.str x]) (t' := s.toks) (.cons ⟨_,rfl⟩ .nil) (by show 1 <= sizeLine; decide),rfl,k⟩
 unfold Txt.split at q'
 cases c1 : (decide (x.length < y.length) || decide (Builtin.Str.strKind x < Builtin.Str.strKind y)) with
 | true =>
  rw [if_pos c1] at q'
  exact call_meets PySem.F.slot_str_split (typeIs_str _ _ _) PySem.F.entry_str_split (PySem.F.args_str_split_2 _ _) (meets_str_split_cannot_occur x y t tu c1) (one _ rfl q')
 | false =>
  rw [if_neg (by rw [c1]; decide)] at q'
  cases c2 : (Builtin.Str.occurrences x y 0 x.length (x.length + 1)).isEmpty with
  | true =>
   rw [if_pos c2] at q'
   exact call_meets PySem.F.slot_str_split (typeIs_str _ _ _) PySem.F.entry_str_split (PySem.F.args_str_split_2 _ _) (meets_str_split_not_found x y t tu c1 hy c2) (one _ rfl q')
  | false =>
   rw [if_neg (by rw [c2]; decide)] at q'
   refine call_meets PySem.F.slot_str_split (typeIs_str _ _ _) PySem.F.entry_str_split (PySem.F.args_str_split_2 _ _) (meets_str_split_sep x y t tu c1 hy c2 (by omega) cnt) ?_
   exact ⟨.ref _,_,I.lnew (vals_strs _ _) (by rw [List.length_map]; exact cnt),rfl,q'⟩
theorem call_intS : CallR X (.type "int") (fun xs H Q => ∃ x n,xs = [.str x] /\ PySem.intText? x = some n /\ x.length <= 640 /\ Q (.int n) H) := by
 intro pins s σ H xs us Q I r h
 obtain ⟨x,n,rfl,e,hl,q⟩ := h
 obtain ⟨u,rfl,t,rfl⟩ := r.one
 exact KIN.call_text e hl ⟨.int n,H,I.tok _,⟨_,rfl⟩,q⟩
theorem truth_bl {prog : Program} {w : World} {A : Around} {b : Bool} {s : Shared} {Q : Bool -> Shared -> Prop} {E : Value -> Shared -> Prop} (h : Q b s) : wpAny (model prog w) A (truthy (.bool b)) Q E s := by
 cases b <;> exact wpAny_pure h
theorem range_any {bs : List Bool} : (List.range bs.length).any (fun i => bs.getD i false) = bs.any id := by
 rw [Bool.eq_iff_iff]
 simp only [List.any_eq_true,List.mem_range,id]
 constructor
 ·rintro ⟨i,hi,h⟩
  exact ⟨bs[i],List.getElem_mem hi,by simpa [List.getD,hi] using h⟩
 ·rintro ⟨b,hb,h⟩
  obtain ⟨i,hi,rfl⟩ := List.getElem_of_mem hb
  exact ⟨i,hi,by simpa [List.getD,hi] using h⟩
theorem range_all {bs : List Bool} : (List.range bs.length).all (fun i => bs.getD i false) = bs.all id := by
 rw [Bool.eq_iff_iff]
 simp only [List.all_eq_true,List.mem_range,id]
 constructor
 ·intro h b hb
  obtain ⟨i,hi,rfl⟩ := List.getElem_of_mem hb
  simpa [List.getD,hi] using h i hi
 ·intro h i hi
  simpa [List.getD,hi] using h bs[i] (List.getElem_mem hi)
theorem walk_bools {pins : List (Addr × Obj)} {σ : St} {H : Hp} {s : Shared} (I : Inv X pins σ H s) (hc : X.calm = true) {p : Addr} {bs : List Bool} (hq : SqL X.K H p (bs.map V.bl)) {E : Value -> Shared -> Prop} {k : (Nat -> Bool) -> Nat -> Bool} {Q : VK} (q : Q (.bl (k (fun i => bs.getD i false) bs.length)) H) :
  wpAny (model X.prog X.w) X.A.in1 (pyIter (.ref p)) (fun it s₂ => ∃ J fp wr n P St tr,it = .ref J /\ Walks X.prog X.w X.A.in1 J fp wr n P St /\ St 0 s₂.heap /\ TruthOf X.prog X.w X.A.in1 P tr /\
   ∀ h' tk,(∀ b o,b ∉ wr -> s₂.heap.get? b = some o -> h'.get? b = some o) -> EP X pins σ Q (.bool (k tr n)) { s₂ with heap := h',toks := tk }) E s := by
 obtain ⟨its,rv,pl,hz⟩ := I.list hq
 have hl := rv.length
 rw [List.length_map] at hl
 have ne : p ≠ s.heap.objs.size := by
  obtain ⟨o,n,e,_⟩ := pl
  exact Nat.ne_of_lt (Heap.lt_size e)
 refine wpAny_pyIter_list pl.isList ?_
 have keep : ∀ b o,s.heap.get? b = some o -> (s.heap.push { cls := .type "list_iterator",data := .fields #[.ref p,.int 0 0] }).get? b = some o := fun b o e => Heap.get?_push_of_some _ e
 refine ⟨s.heap.objs.size,_,_,_,_,_,fun i => bs.getD i false,rfl,Walks.list (A := X.A.in1) (show X.A.in1.handled = none from I.ok.hd hc) s.heap.objs.size p ne its.toArray,⟨⟨_,Heap.get?_push_size _ rfl,rfl,rfl⟩,pl.isList.at fun o e => keep p o e⟩,?_,?_⟩
 ·intro i v s' Q' E' hv hQ
  have hv' : its[i]? = some v := by simpa using hv
  have hi : i < bs.length := by rw [hl]; exact (List.getElem?_eq_some_iff.mp hv').1
  obtain ⟨u,hu,ru⟩ := rv.get (show (bs.map V.bl)[i]? = some (.bl bs[i]) by simp [hi])
  rw [hv'] at hu
  cases hu
  cases ru
  have e : bs.getD i false = bs[i] := by simp [List.getD,hi]
  dsimp only at hQ
  rw [e] at hQ
  exact truth_bl hQ
 ·intro h' tk kp
  have J : Inv X pins σ H { s with heap := h',toks := tk } := I.kept (t' := tk) fun b o e => kp b o (by
   have lt := Heap.lt_size e
   intro z
   have z' : b = s.heap.objs.size := by simpa using z
   rw [z'] at lt
   exact Nat.lt_irrefl _ lt) (keep b o e)
  have es : its.toArray.size = bs.length := by rw [List.size_toArray]; omega
  rw [es]
  exact ⟨.bl _,H,J,rfl,q⟩
theorem call_anyB (hc : X.calm = true) : CallR X (.builtin "any") (fun xs H Q => ∃ p,∃ bs : List Bool,xs = [.ref p] /\ SqL X.K H p (bs.map V.bl) /\ Q (.bl (bs.any id)) H) := by
 intro pins s σ H xs us Q I r h
 obtain ⟨p,bs,rfl,hq,q⟩ := h
 obtain ⟨u,rfl,rx⟩ := vals1 r
 cases rx
 exact call_any_walk (walk_bools I hc hq (k := fun tr n => (List.range n).any tr) (by rw [range_any]; exact q))
theorem call_allB (hc : X.calm = true) : CallR X (.builtin "all") (fun xs H Q => ∃ p,∃ bs : List Bool,xs = [.ref p] /\ SqL X.K H p (bs.map V.bl) /\ Q (.bl (bs.all id)) H) := by
 intro pins s σ H xs us Q I r h
 obtain ⟨p,bs,rfl,hq,q⟩ := h
 obtain ⟨u,rfl,rx⟩ := vals1 r
 cases rx
 exact call_all_walk (walk_bools I hc hq (k := fun tr n => (List.range n).all tr) (by rw [range_all]; exact q))
theorem sl_str : SlR X (fun x lo hi H Q => ∃ a,x = .str a /\ a.length <= sizeLine /\ Q (.str (Txt.slice a lo hi)) H) := by
 intro pins s σ H x v vl vu lo hi sl Q I rx hs pl pu h
 obtain ⟨a,rfl,hz,q⟩ := h
 obtain ⟨t,rfl⟩ := rx
 refine ⟨"str",_,PySem.F.slot_str_getitem.lookup,typeIs_str _ _ _,?_⟩
 have fin : ∀ t' k,EP X pins σ Q (.str (Txt.slice a lo hi) t') { s with toks := k } := fun t' k => ⟨.str _,H,I.tok _,⟨_,rfl⟩,q⟩
 cases pl with
 | none => cases pu with
  | none => exact wpAny_getItem_str_slice (l := none) (u := none) (st := none) hs rfl (post_val_or_str ⟨Nat.le_trans (Txt.slice_le a _ _) hz,fin⟩)
  | int j tj => exact wpAny_getItem_str_slice (l := none) (u := some (j,tj)) (st := none) hs rfl (post_val_or_str ⟨Nat.le_trans (Txt.slice_le a _ _) hz,fin⟩)
 | int i ti => cases pu with
  | none => exact wpAny_getItem_str_slice (l := some (i,ti)) (u := none) (st := none) hs rfl (post_val_or_str ⟨Nat.le_trans (Txt.slice_le a _ _) hz,fin⟩)
  | int j tj => exact wpAny_getItem_str_slice (l := some (i,ti)) (u := some (j,tj)) (st := none) hs rfl (post_val_or_str ⟨Nat.le_trans (Txt.slice_le a _ _) hz,fin⟩)
theorem op_neE (hu : X.A.units + 64 < cLine) : OpR X (compareOp .NotEq) (fun x y H Q => ∃ a b xs,x = .ref a /\ y = .ref b /\ SqL X.K H a xs /\ SqL X.K H b [] /\ Q (.bl (!xs.isEmpty)) H) := by
 intro pins s σ H x y v u Q I rx ry h
 obtain ⟨a,b,xs,rfl,rfl,ha,hb,q⟩ := h
 cases rx
 cases ry
 obtain ⟨its,r,p,_⟩ := I.list ha
 obtain ⟨its',r',p',_⟩ := I.list hb
 cases r'
 cases r with
 | nil => exact SeqAt.RcNeAt.lists (A := X.A) (e := fun _ => true) p.isList p'.isList rfl (by omega) (fun j h1 => absurd h1 (by simp)) X.prog X.w X.xe _ ⟨.bl _,H,I,rfl,q⟩
 | cons r t => exact SeqAt.RcNeAt.lists_lengths (A := X.A) p.isList p'.isList rfl (by omega) X.prog X.w X.xe _ ⟨.bl _,H,I,rfl,q⟩
end
end L2
namespace TM
open PySem PySem.NumText
theorem dc : ∀ d : Nat,d < 10 -> (Nat.digitChar d).toNat = 48 + d := by decide
def dg (n : Nat) : List Nat := (Nat.toDigits 10 n).map Char.toNat
theorem dg_lt {n : Nat} (h : n < 10) : dg n = [48 + n] := by
 unfold dg
 rw [Nat.toDigits_of_lt_base h,List.map_cons,dc n h]
 rfl
theorem dg_snoc {n k : Nat} (h : 0 < n) (hk : k < 10) : dg (n * 10 + k) = dg n ++ [48 + k] := by
 have t : Nat.toDigits 10 n ++ Nat.toDigits 10 k = Nat.toDigits 10 (10 * n + k) := Nat.toDigits_append_toDigits (by decide) h hk
 have e : n * 10 + k = 10 * n + k := by omega
 unfold dg
 rw [e,<- t,List.map_append,Nat.toDigits_of_lt_base hk,List.map_cons,dc k hk]
 rfl
theorem dg_val (n : Nat) : digitsVal (dg n) = n := PySem.W.KIN.val_back n
theorem dg_inj {a b : Nat} (h : dg a = dg b) : a = b := by rw [<- dg_val a,<- dg_val b,h]
theorem dg_shape (n : Nat) : AllDigits (dg n) /\ dg n ≠ [] /\ ((dg n).head? = some 48 -> n = 0) := by
 induction n using Nat.strongRecOn with
 | _ n ih =>
  by_cases h : n < 10
  ·rw [dg_lt h]
   refine ⟨fun c hc => ?_,by simp,fun e => ?_⟩
   ·have : c = 48 + n := by simpa using hc
    omega
   ·have : 48 + n = 48 := by simpa using e
    omega
  ·have e : n = n / 10 * 10 + n % 10 := by omega
   obtain ⟨a,b,c⟩ := ih (n / 10) (by omega)
   rw [e,dg_snoc (by omega) (by omega)]
   refine ⟨fun d hd => ?_,by simp,fun z => ?_⟩
   ·rcases List.mem_append.mp hd with q | q
    ·exact a d q
    ·have : d = 48 + n % 10 := by simpa using q
     omega
   ·exfalso
    have hh : (dg (n / 10)).head? = some 48 := by
     cases q : dg (n / 10) with
     | nil => exact absurd q b
     | cons x xs => rw [q] at z; simpa using z
    have := c hh
    omega
theorem dg_zero : dg 0 = [48] := dg_lt (by decide)
theorem dg_len {n : Nat} (h : n < 10 ^ 60) : (dg n).length <= 60 := by
 unfold dg
 rw [List.length_map]
 exact PyProof.Rows.digits10_le (by decide) h
theorem val_snoc (cs : List Nat) (d : Nat) : digitsVal (cs ++ [d]) = digitsVal cs * 10 + (d - 48) := by
 unfold digitsVal
 rw [List.foldl_append]
 rfl
structure Fig (cs : List Nat) : Prop where
 ne : cs ≠ []
 len : cs.length <= 60
 all : AllDigits cs
 no : cs.head? = some 48 -> cs.length = 1
theorem canon : ∀ (m : Nat) (cs : List Nat),cs.length = m -> cs ≠ [] -> AllDigits cs -> (cs.head? = some 48 -> cs.length = 1) -> dg (digitsVal cs) = cs /\ (cs.head? ≠ some 48 -> 0 < digitsVal cs) := by
 intro m
 induction m with
 | zero =>
  intro cs hl hn
  exact absurd (List.length_eq_zero_iff.mp hl) hn
 | succ m ih =>
  intro cs hl hn ha hh
  obtain ⟨ds,d,rfl⟩ : ∃ ds d,cs = ds ++ [d] := ⟨cs.dropLast,cs.getLast hn,(List.dropLast_concat_getLast hn).symm⟩
  have hd := ha d (by simp)
  rw [val_snoc]
  cases ds with
  | nil =>
   show dg (digitsVal [] * 10 + (d - 48)) = [d] /\ _
   have e : digitsVal [] * 10 + (d - 48) = d - 48 := by simp [digitsVal]
   rw [e,dg_lt (by omega)]
   refine ⟨by rw [show 48 + (d - 48) = d by omega],fun z => ?_⟩
   have : d ≠ 48 := by simpa using z
   omega
  | cons x xs =>
   have hx : x ≠ 48 := fun z => by
    have := hh (by rw [z]; rfl)
    simp at this
   have lm : (x :: xs).length = m := by simpa using hl
   obtain ⟨e1,e2⟩ := ih (x :: xs) lm (by simp) (fun c hc => ha c (List.mem_append_left _ hc)) (fun z => absurd (by simpa using z) hx)
   have p := e2 (by simpa using hx)
   rw [dg_snoc p (by omega),e1]
   exact ⟨by rw [show 48 + (d - 48) = d by omega],fun _ => by omega⟩
theorem Fig.dg {cs : List Nat} (h : Fig cs) : dg (digitsVal cs) = cs := (canon _ cs rfl h.ne h.all h.no).1
theorem fig_dg {n : Nat} (h : n < 10 ^ 60) : Fig (TM.dg n) := by
 obtain ⟨a,b,c⟩ := dg_shape n
 refine ⟨b,dg_len h,a,fun z => ?_⟩
 rw [c z,dg_zero]
 rfl
theorem Fig.no47 {cs : List Nat} (h : Fig cs) : 47 ∉ cs := fun z => by
 have := h.all 47 z
 omega
theorem dg_no47 (n : Nat) : 47 ∉ dg n := fun z => by
 have := (dg_shape n).1 47 z
 omega
def Reads (L : List Nat) (t b : Nat) : Prop :=
 (Fig L /\ t = digitsVal L /\ b = 1) \/ ∃ p q,L = p ++ 47 :: q /\ Fig p /\ Fig q /\ t = digitsVal p /\ b = digitsVal q /\ 2 <= b /\ Nat.gcd t b = 1
def showL (t b : Nat) : List Nat := if b = 1 then dg t else dg t ++ 47 :: dg b
theorem cut_unique {p q p' q' : List Nat} (h : 47 ∉ p) (h' : 47 ∉ p') (e : p ++ 47 :: q = p' ++ 47 :: q') : p = p' /\ q = q' := by
 induction p generalizing p' with
 | nil =>
  cases p' with
  | nil => exact ⟨rfl,by simpa using e⟩
  | cons x xs =>
   have : (47 : Nat) = x := by simpa using (List.cons.inj e).1
   exact absurd (by rw [this]; simp) h'
 | cons y ys ih =>
  cases p' with
  | nil =>
   have : y = (47 : Nat) := (List.cons.inj e).1
   exact absurd (by rw [this]; simp) h
  | cons x xs =>
   obtain ⟨e1,e2⟩ := List.cons.inj e
   obtain ⟨e3,e4⟩ := ih (fun z => h (List.mem_cons_of_mem _ z)) (fun z => h' (List.mem_cons_of_mem _ z)) e2
   exact ⟨by rw [e1,e3],e4⟩
theorem show_inj {t b t' b' : Nat} (h : showL t b = showL t' b') : t = t' /\ b = b' := by
 unfold showL at h
 have in47 : ∀ (x y : Nat),47 ∈ dg x ++ 47 :: dg y := fun x y => by simp
 split at h
 ·split at h
  ·rename_i e1 e2
   exact ⟨dg_inj h,by omega⟩
  ·exact absurd (h ▸ in47 t' b') (dg_no47 t)
 ·split at h
  ·exact absurd (h ▸ in47 t b) (dg_no47 t')
  ·obtain ⟨e1,e2⟩ := cut_unique (dg_no47 t) (dg_no47 t') h
   exact ⟨dg_inj e1,dg_inj e2⟩
theorem reads_show {L : List Nat} {t b : Nat} (h : Reads L t b) : showL t b = L := by
 rcases h with ⟨f,rfl,rfl⟩ | ⟨p,q,rfl,fp,fq,rfl,rfl,h2,_⟩
 ·unfold showL
  rw [if_pos rfl,f.dg]
 ·unfold showL
  rw [if_neg (by omega),fp.dg,fq.dg]
theorem show_reads {t b : Nat} (ht : t < 10 ^ 60) (hb : b < 10 ^ 60) (h1 : 1 <= b) (g : Nat.gcd t b = 1) : Reads (showL t b) t b := by
 unfold showL
 split
 ·rename_i e
  exact .inl ⟨fig_dg ht,(dg_val t).symm,e⟩
 ·exact .inr ⟨_,_,rfl,fig_dg ht,fig_dg hb,(dg_val t).symm,(dg_val b).symm,by omega,g⟩
theorem reads_unique {L : List Nat} {t b t' b' : Nat} (h : Reads L t b) (h' : Reads L t' b') : t = t' /\ b = b' := show_inj ((reads_show h).trans (reads_show h').symm)
theorem reads_one {L : List Nat} (h : 47 ∉ L) {t b : Nat} : Reads L t b ↔ Fig L /\ t = digitsVal L /\ b = 1 := by
 refine ⟨fun z => ?_,.inl⟩
 rcases z with z | ⟨p,q,rfl,_⟩
 ·exact z
 ·exact absurd (by simp) h
theorem reads_two {p q : List Nat} (h : 47 ∉ p) {t b : Nat} : Reads (p ++ 47 :: q) t b ↔ Fig p /\ Fig q /\ t = digitsVal p /\ b = digitsVal q /\ 2 <= b /\ Nat.gcd t b = 1 := by
 refine ⟨fun z => ?_,fun ⟨a1,a2,a3,a4,a5,a6⟩ => .inr ⟨p,q,rfl,a1,a2,a3,a4,a5,a6⟩⟩
 rcases z with ⟨f,_⟩ | ⟨p',q',e,a1,a2,a3,a4,a5,a6⟩
 ·exact absurd (by simp) f.no47
 ·obtain ⟨rfl,rfl⟩ := cut_unique h a1.no47 e
  exact ⟨a1,a2,a3,a4,a5,a6⟩
theorem low_shown {p q : List Nat} (fp : Fig p) (fq : Fig q) (h0 : digitsVal q ≠ 0) :
  showL (digitsVal p / Nat.gcd (digitsVal p) (digitsVal q)) (digitsVal q / Nat.gcd (digitsVal p) (digitsVal q)) = p ++ 47 :: q ↔ 2 <= digitsVal q /\ Nat.gcd (digitsVal p) (digitsVal q) = 1 := by
 constructor
 ·intro e
  have gp : 0 < Nat.gcd (digitsVal p) (digitsVal q) := Nat.gcd_pos_of_pos_right _ (by omega)
  unfold showL at e
  split at e
  ·exact absurd (e ▸ (show 47 ∈ p ++ 47 :: q by simp)) (dg_no47 _)
  ·rename_i hb
   obtain ⟨e1,e2⟩ := cut_unique (dg_no47 _) fp.no47 e
   have v2 : digitsVal q / Nat.gcd (digitsVal p) (digitsVal q) = digitsVal q := by rw [<- dg_val (digitsVal q / _),e2]
   have g1 : Nat.gcd (digitsVal p) (digitsVal q) = 1 := by
    have dv := Nat.gcd_dvd_right (digitsVal p) (digitsVal q)
    have := Nat.div_mul_cancel dv
    rw [v2] at this
    exact Nat.eq_of_mul_eq_mul_left (show 0 < digitsVal q by omega) (by omega)
   rw [v2] at hb
   exact ⟨by omega,g1⟩
 ·rintro ⟨h2,g⟩
  rw [g,Nat.div_one,Nat.div_one]
  exact reads_show (.inr ⟨p,q,rfl,fp,fq,rfl,rfl,h2,g⟩)
end TM
namespace TM
open PySem PySem.StrLaws PySem.Builtin PySem.Builtin.Str
abbrev cps (x : Str) : List Nat := x.cps.toList
abbrev sl : Str := ⟨#[47]⟩
theorem ext {x y : Str} (h : cps x = cps y) : x = y := by
 obtain ⟨⟨a⟩⟩ := x
 obtain ⟨⟨b⟩⟩ := y
 have h' : a = b := h
 rw [h']
theorem at_iff (x : Str) (i : Nat) : At x sl x.length i ↔ (cps x)[i]? = some 47 := subAt_one x 47 i
theorem part_cases (x : Str) : (47 ∉ cps x /\ Txt.partition x sl = (x,Str.empty,Str.empty)) \/
  ∃ p q : Str,cps x = cps p ++ 47 :: cps q /\ 47 ∉ cps p /\ Txt.partition x sl = (p,sl,q) := by
 rcases occ_head x sl 1 (by decide) with ⟨e,n⟩ | ⟨i,r,e,a,n⟩
 ·refine .inl ⟨fun z => ?_,by unfold Txt.partition; rw [e]⟩
  obtain ⟨i,hi,e'⟩ := List.getElem_of_mem z
  exact n i ((at_iff x i).mpr (by rw [List.getElem?_eq_getElem hi,e']))
 ·have ai := (at_iff x i).mp a
  obtain ⟨hi,ei⟩ := List.getElem?_eq_some_iff.mp ai
  refine .inr ⟨strSub x 0 i,strSub x (i + sl.length) x.length,?_,fun z => ?_,by unfold Txt.partition; rw [e]⟩
  ·have hl : x.length = (cps x).length := by simp [Str.length]
   show cps x = (strSub x 0 i).cps.toList ++ 47 :: (strSub x (i + 1) x.length).cps.toList
   rw [strSub_toList,strSub_toList,hl]
   show cps x = (cps x).take i ++ 47 :: ((cps x).drop (i + 1)).take ((cps x).length - (i + 1))
   rw [List.take_of_length_le (l := (cps x).drop (i + 1)) (by simp),<- ei,<- List.drop_eq_getElem_cons hi,List.take_append_drop]
  ·have z' : 47 ∈ (cps x).take i := by
    have := strSub_toList x 0 i
    rw [cps,this] at z
    simpa using z
   obtain ⟨k,hk,ek⟩ := List.getElem_of_mem z'
   rw [List.getElem_take] at ek
   have hk' : k < i := by simp at hk; omega
   exact n k hk' ((at_iff x k).mpr (by rw [List.getElem?_eq_getElem (by simp at hk; omega),ek]))
theorem cps_append' (x y : Str) : cps (x ++ y) = cps x ++ cps y := by
 show (x.cps ++ y.cps).toList = _
 rw [Array.toList_append]
end TM
namespace L2
open PySem PySem.Spec PyProof.Rows PySem.W
def rCount : V -> List V -> Hp -> VK -> Prop := fun x vs H Q => ∃ l xs y,x = .ref l /\ vs = [y] /\ H l = some (.lst xs) /\ flatV y = true /\ xs.all flatV = true /\ Q (.int ((xs.countP fun z => eqV z y : Nat) : Int)) H
def rIndex : V -> List V -> Hp -> VK -> Prop := fun x vs H Q => ∃ l xs y,∃ j : Nat,∃ z,x = .ref l /\ vs = [y] /\ H l = some (.lst xs) /\ flatV y = true /\ xs.all flatV = true /\ xs[j]? = some z /\ eqV z y = true /\
 (∀ m z,m < j -> xs[m]? = some z -> eqV z y = false) /\ Q (.int (j : Int)) H
section
variable {X : Cx}
end
def Nx (n i : Nat) (P : Prop) : Prop := ∃ m',m' < n - i /\ m' = n - (i + 1) /\ i + 1 <= n /\ P
theorem Nx.mk {n i : Nat} {P : Prop} (h : i < n) (p : P) : Nx n i P := ⟨n - (i + 1),by omega,rfl,h,p⟩
theorem blkN_none {X : Cx} {scope : Scope} {N' : List Str} {cl : List (Str × Addr)} {σ : St} : BlkN X N' scope cl σ (List.replicate N'.length none) := by
 refine ⟨by simp,fun i x v h1 h2 => ?_⟩
 rw [List.getElem?_replicate] at h2
 split at h2 <;> cases h2
theorem comp_str {D : Addr} {x : Str} {g : TG} {tt : TT} {te : TE} {σ0 : St} {QD : Hp -> Prop} {H1 : Hp} (Pv : Nat -> List V -> Hp -> Prop) (h0 : Pv 0 [] (upd H1 D (.lst [])))
  (hl : ∀ i ys H,i <= x.cps.toList.length -> Pv i ys H -> H D = some (.lst ys) /\ ys.length < sizeLine)
  (hs : ∀ i c ys H,x.cps.toList[i]? = some c -> Pv i ys H -> g (.str ⟨#[c]⟩) σ0 H fun σ2 H2 => Keep σ0 σ2 /\ tt σ2 H2 fun b H3 => if b = true then te σ2 H3 fun y H4 => H4 D = some (.lst ys) /\ Nx x.cps.toList.length i (Pv (i + 1) (ys ++ [y]) (upd H4 D (.lst (ys ++ [y])))) else Nx x.cps.toList.length i (Pv (i + 1) ys H3))
  (hd : ∀ ys H,Pv x.cps.toList.length ys H -> QD H) :
  ∃ W : Nat -> Nat -> List V -> Hp -> Prop,(∃ m,W 0 m [] (upd H1 D (.lst []))) /\
   ∀ i m ys H,W i m ys H -> H D = some (.lst ys) /\ ys.length < sizeLine /\
    (((Its x).stop i H /\ QD H) \/ ((Its x).go i H /\ ∀ v H',(Its x).yld i H v H' -> g v σ0 H' fun σ2 H2 => Keep σ0 σ2 /\ tt σ2 H2 fun b H3 =>
     if b = true then te σ2 H3 fun y H4 => H4 D = some (.lst ys) /\ ∃ m',m' < m /\ W (i + 1) m' (ys ++ [y]) (upd H4 D (.lst (ys ++ [y]))) else ∃ m',m' < m /\ W (i + 1) m' ys H3)) := by
 refine ⟨fun i m ys H => m = x.cps.toList.length - i /\ i <= x.cps.toList.length /\ Pv i ys H,⟨x.cps.toList.length,by simp,Nat.zero_le _,h0⟩,?_⟩
 rintro i m ys H ⟨rfl,hi,p⟩
 obtain ⟨hD,hz⟩ := hl i ys H hi p
 refine ⟨hD,hz,?_⟩
 by_cases hlt : i < x.cps.toList.length
 ·have e : x.cps[i]? = some x.cps.toList[i] := by rw [<- Array.getElem?_toList]; exact List.getElem?_eq_getElem hlt
  refine .inr ⟨⟨_,e⟩,fun v H' y => ?_⟩
  obtain ⟨rfl,c,hc,rfl⟩ := y
  exact hs i c ys _ (by rw [Array.getElem?_toList]; exact hc) p
 ·have e : i = x.cps.toList.length := by omega
  subst e
  refine .inl ⟨?_,hd ys H p⟩
  show x.cps[x.cps.toList.length]? = none
  rw [<- Array.getElem?_toList]
  exact List.getElem?_eq_none (Nat.le_refl _)
end L2
namespace L2
open PySem PySem.Spec PyProof.Rows
def dcE (a : Addr) : HO := .ext fun h => ∃ o,h.get? a = some o /\ o.cls = .type "dict"
def tDict0 : TE := fun _ H Q => ∀ p,H p = none -> Q (.ref p) (upd H p (dcE p))
section
variable {X : Cx} {pos : Pos}
def IsiD (K : PySem.W.Frag) (H : Hp) (v : V) (T : String) (b : Bool) : Prop := Isi K H v T b \/ ∃ a,v = .ref a /\ H a = some (dcE a) /\ T = "str" /\ b = false
theorem call_isiZ : CallR X (.builtin "isinstance") (fun xs H Q => ∃ x T b,xs = [x,.ty T] /\ IsiD X.K H x T b /\ Q (.bl b) H) := by
 intro pins s σ H xs us Q I r h
 obtain ⟨x,T,b,rfl,hi | ⟨a,rfl,hH,rfl,rfl⟩,q⟩ := h
 ·exact call_isi pins s σ H _ us Q I r ⟨x,T,b,rfl,hi,q⟩
 ·obtain ⟨u,w',rfl,rx,ry⟩ := vals2 r
  cases ry
  cases rx
  obtain ⟨⟨o,e,c⟩,_⟩ := I.hok a _ hH
  exact IsiPair.dict_str e c ⟨.bl false,H,I.tok _,rfl,q⟩
end
end L2
namespace L2
open PySem PySem.Spec PyProof.Rows
def rEqL (K : PySem.W.Frag) : R2 := fun x y H Q => ∃ a b xs ys,∃ e : Nat -> Bool,x = .ref a /\ y = .ref b /\ SqL K H a xs /\ SqL K H b ys /\ (∀ (j : Nat) x y,xs[j]? = some x -> ys[j]? = some y -> DEq K H 40 x y (e j)) /\
 Q (.bl ((List.range (min xs.length ys.length)).all e && xs.length == ys.length)) H
def rNeL (K : PySem.W.Frag) : R2 := fun x y H Q => ∃ a b xs ys,∃ e : Nat -> Bool,x = .ref a /\ y = .ref b /\ SqL K H a xs /\ SqL K H b ys /\ (∀ (j : Nat) x y,xs[j]? = some x -> ys[j]? = some y -> DEq K H 40 x y (e j)) /\
 Q (.bl (!((List.range (min xs.length ys.length)).all e && xs.length == ys.length))) H
section
variable {X : Cx}
theorem op_eqL (hu : X.A.units + 64 < cLine) : OpR X (compareOp .Eq) (rEqL X.K) := by
 intro pins s σ H x y v u Q I rx ry h
 obtain ⟨a,b,xs,ys,e,rfl,rfl,hx,hy,hd,q⟩ := h
 cases rx; cases ry
 exact lsts_at I hx hy (by omega) (fun j x y u v h1 h2 r1 r2 => (hd j x y h1 h2).at I (by show X.A.units + 1 + 40 < cLine; omega) r1 r2) X.prog X.w X.xe _ ⟨.bl _,H,I,rfl,q⟩
end
def Sf (v : V) : Prop := flatV v = true \/ ∃ a,v = .ref a
def rNeLs (K : PySem.W.Frag) : R2 := fun x y H Q => ∃ a b xs,x = .ref a /\ y = .ref b /\ SqL K H a xs /\ SqL K H b xs /\ (∀ v ∈ xs,Sf v) /\ Q (.bl false) H
end L2
namespace L2
open PySem PySem.Spec PyProof.Rows
theorem bt_list : bootBuiltins "list" = some (.type "list") := by decide +kernel
def Tk (H H' : Hp) : Prop := ∀ b ys,H b = some (.tup ys) -> H' b = some (.tup ys)
theorem Same.tk {H H' : Hp} (s : Same H H') : Tk H H' := fun b ys e => s b _ e
theorem Tk.trans {H H1 H2 : Hp} (h : Tk H H1) (k : Tk H1 H2) : Tk H H2 := fun b ys e => k b ys (h b ys e)
theorem Tk.lst {H : Hp} {l : Addr} {xs : List V} {o : HO} (h : H l = some (.lst xs)) : Tk H (upd H l o) := fun b ys e => by
 have ne : b ≠ l := fun z => by rw [z,h] at e; cases e
 rw [upd_ne ne]
 exact e
theorem sz1000 {n : Nat} (h : n <= 1000) : n <= sizeLine := Nat.le_trans h (by decide)
def starFree : Expr -> Bool
 | .Starred .. => false
 | _ => true
end L2
namespace L2
open PySem PySem.Spec PyProof.Rows
inductive Dt where
 | i (n : Int)
 | s (x : Str)
 | b (k : Bool)
 | n
 | t (l : List Dt)
def SqZ (K : PySem.W.Frag) (H : Hp) (a : Addr) (xs : List V) : Prop := H a = some (.tup xs) \/ ∃ (o : Obj) (its : Array Value) (n : Nat),K.lookup a = some o /\ o.cls = .type "tuple" /\ o.data = .seq its n /\ its.size <= sizeLine /\ Vals xs its.toList
theorem SqZ.of {K : PySem.W.Frag} {H : Hp} {a : Addr} {xs : List V} (h : H a = some (.tup xs)) : SqZ K H a xs := .inl h
theorem SqZ.sq {K : PySem.W.Frag} {H : Hp} {a : Addr} {xs : List V} (h : SqZ K H a xs) : SqT K H a xs := by
 rcases h with h | h
 ·exact .inl (.inl h)
 ·exact .inr h
theorem Tk.sqz {K : PySem.W.Frag} {H H' : Hp} {a : Addr} {xs : List V} (e : Tk H H') (h : SqZ K H a xs) : SqZ K H' a xs := by
 rcases h with h | h
 ·exact .inl (e _ _ h)
 ·exact .inr h
inductive Dv (K : PySem.W.Frag) (H : Hp) : Nat -> V -> Dt -> Prop where
 | i {n m} : Dv K H n (.int m) (.i m)
 | s {n x} : Dv K H n (.str x) (.s x)
 | b {n k} : Dv K H n (.bl k) (.b k)
 | n {n} : Dv K H n .non .n
 | t {n a xs ds} : SqZ K H a xs -> xs.length = ds.length -> (∀ (j : Nat) x d,xs[j]? = some x -> ds[j]? = some d -> Dv K H n x d) -> Dv K H (n + 1) (.ref a) (.t ds)
theorem Dv.keep {K : PySem.W.Frag} {H H' : Hp} {n : Nat} {v : V} {d : Dt} (h : Dv K H n v d) (k : Tk H H') : Dv K H' n v d := by
 induction h with
 | i => exact .i
 | s => exact .s
 | b => exact .b
 | n => exact .n
 | t h1 h2 _ ih => exact .t (k.sqz h1) h2 ih
def DL (K : PySem.W.Frag) (H : Hp) (n : Nat) (xs : List V) (ds : List Dt) : Prop := xs.length = ds.length /\ ∀ (j : Nat) x d,xs[j]? = some x -> ds[j]? = some d -> Dv K H n x d
theorem DL.nil {K : PySem.W.Frag} {H : Hp} {n : Nat} : DL K H n [] [] := ⟨rfl,fun j x d h => by simp at h⟩
theorem DL.cons {K : PySem.W.Frag} {H : Hp} {n : Nat} {x : V} {d : Dt} {xs : List V} {ds : List Dt} (h : Dv K H n x d) (k : DL K H n xs ds) : DL K H n (x :: xs) (d :: ds) := by
 refine ⟨by rw [List.length_cons,List.length_cons,k.1],fun j y e hy he => ?_⟩
 cases j with
 | zero =>
  simp at hy he
  subst hy he
  exact h
 | succ j => exact k.2 j y e (by simpa using hy) (by simpa using he)
theorem Dv.tup {K : PySem.W.Frag} {H : Hp} {n : Nat} {a : Addr} {xs : List V} {ds : List Dt} (h : SqZ K H a xs) (k : DL K H n xs ds) : Dv K H (n + 1) (.ref a) (.t ds) := .t h k.1 k.2
def rEqDL (K : PySem.W.Frag) : R2 := fun x y H Q => ∃ a b xs ys ds,x = .ref a /\ y = .ref b /\ SqL K H a xs /\ SqL K H b ys /\ DL K H 40 xs ds /\ DL K H 40 ys ds /\ Q (.bl true) H
def rNeDL (K : PySem.W.Frag) : R2 := fun x y H Q => ∃ a b xs ys ds,x = .ref a /\ y = .ref b /\ SqL K H a xs /\ SqL K H b ys /\ DL K H 40 xs ds /\ DL K H 40 ys ds /\ Q (.bl false) H
def rEqDT (K : PySem.W.Frag) : R2 := fun x y H Q => ∃ a b xs ys ds,x = .ref a /\ y = .ref b /\ SqT K H a xs /\ SqT K H b ys /\ DL K H 40 xs ds /\ DL K H 40 ys ds /\ Q (.bl true) H
def rNeDT (K : PySem.W.Frag) : R2 := fun x y H Q => ∃ a b xs ys ds,x = .ref a /\ y = .ref b /\ SqT K H a xs /\ SqT K H b ys /\ DL K H 40 xs ds /\ DL K H 40 ys ds /\ Q (.bl false) H
section
variable {X : Cx}
end
end L2
namespace L2
open PySem PySem.Spec PyProof.Rows
theorem closure_go {env : Env} : ∀ (names : List (Str × NameKind)) (acc : List (Str × Addr)),(∀ y ∈ names,y.2 = NameKind.free -> ∃ c,env.cells.lookup y.1 = some c) -> (∀ x c,acc.lookup x = some c -> env.cells.lookup x = some c) ->
  ∃ cl,(forIn (m := Sem) names acc (fun x r => do if (x.2 == NameKind.free) = true then do let c <- cellOf env x.1; pure (ForInStep.yield ((x.1,c) :: r)) else pure (ForInStep.yield r))) = pure cl /\
   (∀ x c,cl.lookup x = some c -> env.cells.lookup x = some c) /\ (∀ y ∈ names,y.2 = NameKind.free -> ∃ c,cl.lookup y.1 = some c) /\ ∀ x,(∃ c,acc.lookup x = some c) -> ∃ c,cl.lookup x = some c
 | [],acc,_,h2 => ⟨acc,rfl,h2,(fun y hy => by simp at hy),fun _ h => h⟩
 | y :: r,acc,h1,h2 => by
  by_cases e : y.2 = NameKind.free
  ·obtain ⟨c,hc⟩ := h1 y List.mem_cons_self e
   obtain ⟨cl,e1,e2,e3,e4⟩ := closure_go r ((y.1,c) :: acc) (fun z hz => h1 z (List.mem_cons_of_mem _ hz)) (fun x d hx => by
    rw [List.lookup_cons] at hx
    split at hx
    ·rename_i hb
     have : x = y.1 := eq_of_beq hb
     rw [this,hc]
     exact hx
    ·exact h2 x d hx)
   refine ⟨cl,?_,e2,fun z hz ez => ?_,fun x hx => e4 x ?_⟩
   ·rw [List.forIn_cons,if_pos (by rw [e]; rfl)]
    unfold cellOf
    rw [hc]
    simp only [pure_bind]
    exact e1
   ·rcases List.mem_cons.mp hz with rfl | hz
    ·exact e4 z.1 ⟨c,by rw [List.lookup_cons,beq_self_eq_true]⟩
    ·exact e3 z hz ez
   ·obtain ⟨d,hd⟩ := hx
    rw [List.lookup_cons]
    split
    ·exact ⟨c,rfl⟩
    ·exact ⟨d,hd⟩
  ·obtain ⟨cl,e1,e2,e3,e4⟩ := closure_go r acc (fun z hz => h1 z (List.mem_cons_of_mem _ hz)) h2
   refine ⟨cl,?_,e2,fun z hz ez => ?_,e4⟩
   ·rw [List.forIn_cons,if_neg (by intro z; exact e (eq_of_beq z))]
    simp only [pure_bind]
    exact e1
   ·rcases List.mem_cons.mp hz with rfl | hz
    ·exact absurd ez e
    ·exact e3 z hz ez
theorem closure_ok {scope : Scope} {env : Env} (h : ∀ y ∈ scope.names,y.2 = NameKind.free -> ∃ c,env.cells.lookup y.1 = some c) :
  ∃ cl,closureFor scope env = pure cl /\ (∀ x c,cl.lookup x = some c -> env.cells.lookup x = some c) /\ ∀ y ∈ scope.names,y.2 = NameKind.free -> ∃ c,cl.lookup y.1 = some c := by
 obtain ⟨cl,e1,e2,e3,_⟩ := closure_go (env := env) scope.names [] h (fun x c e => by simp at e)
 refine ⟨cl,?_,e2,e3⟩
 simp only [closureFor]
 rw [show (forIn (m := Sem) scope.names [] fun x r => if (x.2 == NameKind.free) = true then (do let c <- cellOf env x.1; pure (ForInStep.yield ((x.1,c) :: r))) else pure (ForInStep.yield r)) = pure cl from e1]
 rfl
theorem relabel_from {scope : Scope} {env : Env} {x : Str} (hc : ∀ y ∈ scope.names,y.2 ≠ NameKind.cell) (h : (relabel scope env).names.lookup x = some .cell \/ (relabel scope env).names.lookup x = some .free) : ∃ y ∈ scope.names,y.1 = x /\ y.2 = NameKind.free := by
 have e' : ∃ k,(k = NameKind.cell \/ k = NameKind.free) /\ (relabel scope env).names.lookup x = some k := by
  rcases h with e | e
  ·exact ⟨_,.inl rfl,e⟩
  ·exact ⟨_,.inr rfl,e⟩
 obtain ⟨k,hk,e⟩ := e'
 have hm := PySem.mem_of_lookup e
 obtain ⟨y,hy,hy2⟩ := List.mem_map.mp hm
 obtain ⟨n,kk⟩ := y
 have hn := hc _ hy
 simp only at hy2 hn
 split at hy2
 ·rename_i hf
  injection hy2 with a1 a2
  subst a1
  simp only [Bool.and_eq_true] at hf
  exact ⟨(n,kk),hy,rfl,eq_of_beq hf.1.1⟩
 ·injection hy2 with a1 a2
  subst a1 a2
  rcases hk with rfl | rfl
  ·exact absurd rfl hn
  ·exact ⟨_,hy,rfl,rfl⟩
theorem clOk_of {X : Cx} (ok : X.Ok) {scope : Scope} (hc : ∀ y ∈ scope.names,y.2 ≠ NameKind.cell) (h : ∀ y ∈ scope.names,y.2 = NameKind.free -> X.env.kindOf y.1 = some .cell \/ X.env.kindOf y.1 = some .free) : ∃ cl,ClOk X scope cl := by
 obtain ⟨cl,e1,e2,e3⟩ := closure_ok (scope := scope) (env := X.env) fun y hy ey => ok.has y.1 (h y hy ey)
 refine ⟨cl,e1,e2,fun x hx => ?_⟩
 obtain ⟨y,hy,rfl,ey⟩ := relabel_from hc hx
 exact e3 y hy ey
theorem pe_compC {X : Cx} {elt tg iter : Expr} {ifs : List Expr} {scope : Scope} {pos : Pos} {N' : List Str} {wi : TI} {g : TG} {tt : TT} {te : TE} (σf : St -> St)
  (hc : X.calm = true) (hkind : scope.kind = .function) (hcell : ∀ y ∈ scope.names,y.2 ≠ .cell) (hnames : ∀ y ∈ scope.names,y.2 = .local -> scope.names.lookup y.1 = some .local)
  (hk : ∀ y ∈ scope.names,y.2 = NameKind.free -> X.env.kindOf y.1 = some .cell \/ X.env.kindOf y.1 = some .free)
  (hN : ∀ cl (σ : St),σ.length = X.N.length -> BlkN X N' scope cl σ (σf σ)) (hi : PI X tg iter wi)
  (hg : ∀ cl C s₀ H₀ ex pn,PG (blk X N' scope cl C s₀ H₀ ex pn) tg g) (ht : ∀ cl C s₀ H₀ ex pn,PIfs (blk X N' scope cl C s₀ H₀ ex pn) ifs tt) (he : ∀ cl C s₀ H₀ ex pn,PE (blk X N' scope cl C s₀ H₀ ex pn) elt te)
  (hs : ∀ x,foldedSetIterable iter X.env x = pure x := by intro _; rfl) : PE X (.ListComp elt [⟨tg,iter,ifs,0⟩] scope pos) (tComp σf wi g tt te) := by
 intro pins s σ H Q I h
 obtain ⟨cl,hcl⟩ := clOk_of I.ok hcell hk
 exact pe_comp σf hc hkind hcell hnames hcl (hN cl) hi (hg cl) (ht cl) (he cl) hs pins s σ H Q I h
theorem hk_of {X : Cx} {scope sc : Scope} (hs : X.env.scope = sc) (h : (scope.names.all fun y => y.2 != NameKind.free || sc.names.lookup y.1 == some NameKind.cell || sc.names.lookup y.1 == some NameKind.free) = true) :
  ∀ y ∈ scope.names,y.2 = NameKind.free -> X.env.kindOf y.1 = some .cell \/ X.env.kindOf y.1 = some .free := fun y hy ey => by
 have q := List.all_eq_true.mp h y hy
 unfold Env.kindOf
 rw [hs]
 rw [ey] at q
 simp only [bne_self_eq_false,Bool.false_or,Bool.or_eq_true] at q
 rcases q with q | q
 ·exact .inl (eq_of_beq q)
 ·exact .inr (eq_of_beq q)
theorem lookup_relabel_free {env : Env} {x : Str} (hk : env.scope.kind = .function) (hx : env.kindOf x = some .cell) : ∀ {names : List (Str × NameKind)},names.lookup x = some .free ->
    (names.map fun (n,k) => if (k == NameKind.free && env.scope.kind == .function && env.kindOf n == some .cell) then (n,NameKind.cell) else (n,k)).lookup x = some .cell
  | [],h => by simp at h
  | (n,k) :: r,h => by
    rw [List.map_cons]
    rw [List.lookup_cons] at h
    by_cases e : (x == n) = true
    · rw [e] at h
      have e' : x = n := eq_of_beq e
      subst e'
      have hf : k = NameKind.free := Option.some.inj h
      subst hf
      have c : (NameKind.free == NameKind.free && env.scope.kind == .function && env.kindOf x == some .cell) = true := by rw [hk,hx]; rfl
      rw [show (match ((x,NameKind.free) : Str × NameKind) with | (n,k) => if (k == NameKind.free && env.scope.kind == .function && env.kindOf n == some .cell) = true then (n,NameKind.cell) else (n,k)) = (x,NameKind.cell) from if_pos c]
      rw [List.lookup_cons,beq_self_eq_true]
    · have e0 : (x == n) = false := by simpa using e
      rw [e0] at h
      have ih := lookup_relabel_free hk hx h
      have en : ∀ q : Str × NameKind,q.1 = n -> (q :: (r.map fun (n,k) => if (k == NameKind.free && env.scope.kind == .function && env.kindOf n == some .cell) then (n,NameKind.cell) else (n,k))).lookup x = some .cell := fun q hq => by
        obtain ⟨q1,q2⟩ := q
        simp only at hq
        subst hq
        rw [List.lookup_cons,e0]
        exact ih
      refine en _ ?_
      show (if _ then (n,NameKind.cell) else (n,k)).1 = n
      split <;> rfl
theorem blkN_by {X : Cx} {N' N : List Str} {scope sc : Scope} {cl : List (Str × Addr)} {σ : St} (ts : List (Option Nat)) (hN : X.N = N) (hsc : X.env.scope = sc) (hl : ts.length = N'.length) (hk : sc.kind = .function)
  (h : ((ts.zip N').all fun p => match p.1 with | none => true | some j => N[j]? == some p.2 && sc.names.lookup p.2 == some NameKind.cell && scope.names.lookup p.2 == some NameKind.free) = true) :
  BlkN X N' scope cl σ (ts.map fun t => t.bind fun j => (σ[j]?).join) := by
 refine ⟨by rw [List.length_map,hl],fun i x v h1 h2 => ?_⟩
 rw [List.getElem?_map] at h2
 cases ht : ts[i]? with
 | none => rw [ht] at h2; cases h2
 | some t =>
  rw [ht] at h2
  have h2' : (t.bind fun j => (σ[j]?).join) = some v := Option.some.inj h2
  cases t with
  | none => cases h2'
  | some j =>
   have hm : (some j,x) ∈ ts.zip N' := List.mem_of_getElem? (by rw [List.getElem?_zip_eq_some]; exact ⟨ht,h1⟩ : (ts.zip N')[i]? = some (some j,x))
   have q := List.all_eq_true.mp h _ hm
   simp only [Bool.and_eq_true] at q
   obtain ⟨⟨q1,q2⟩,q3⟩ := q
   have q1' := eq_of_beq q1
   have q2' := eq_of_beq q2
   have q3' := eq_of_beq q3
   have kd : X.env.kindOf x = some .cell := by
    unfold Env.kindOf
    rw [hsc]
    exact q2'
   refine ⟨j,by rw [hN]; exact q1',?_,by rw [hsc]; exact .inr (.inl q2'),(by rw [kd]; decide),.inl (lookup_relabel_free (by rw [hsc]; exact hk) kd q3')⟩
   have h3 : (σ[j]?).join = some v := h2'
   cases hj : σ[j]? with
   | none => rw [hj] at h3; cases h3
   | some o => rw [hj] at h3; cases o with
    | none => cases h3
    | some u => cases h3; rfl
end L2
namespace L2
open PySem PySem.Spec PyProof.Rows
section
variable {κ : Type} [DecidableEq κ]
def valV (kvs : List (κ × V)) (k : κ) : Option V := (kvs.find? fun kv => decide (kv.1 = k)).map (·.2)
def putK (kvs : List (κ × V)) (k : κ) (v : V) : List (κ × V) :=
 if (kvs.any fun kv => decide (kv.1 = k)) = true then kvs.map (fun kv => if kv.1 = k then (kv.1,v) else kv) else kvs ++ [(k,v)]
def dropK (kvs : List (κ × V)) (k : κ) : List (κ × V) := kvs.filter fun kv => decide (kv.1 ≠ k)
end
abbrev KT (H : Hp) : List (List Key × V) -> List (List Key × Addr × Value) -> Prop := Paired fun p q => p.1 = q.1 /\ H q.2.1 = some (.tup (p.1.map kV)) /\ RelV p.2 q.2.2
section
variable {P : Program} {w : World} {H : Hp} {h : Heap} {a : Addr}
end
def DGet (H : Hp) (a : Addr) (y : V) (r : Option V) : Prop :=
 (∃ kvs k,Rd H a (.dK kvs) /\ y = kV k /\ r = valV kvs k) \/ ∃ kvs k b,Rd H a (.dT kvs) /\ y = .ref b /\ H b = some (.tup (k.map kV)) /\ r = valV kvs k
def DPut (H : Hp) (a : Addr) (y v : V) (H' : Hp) : Prop :=
 (∃ kvs k,H a = some (.dK kvs) /\ y = kV k /\ kvs.length < sizeLine /\ H' = upd H a (.dK (putK kvs k v))) \/
 ∃ kvs k b,H a = some (.dT kvs) /\ y = .ref b /\ H b = some (.tup (k.map kV)) /\ kvs.length < sizeLine /\ H' = upd H a (.dT (putK kvs k v))
section
variable {X : Cx} {pins : List (Addr × Obj)} {σ : St} {H : Hp} {s : Shared} {a : Addr} {y v : V} {u r : Value} {o : Option V} {A : Around} {E : Value -> Shared -> Prop}
end
section
variable {X : Cx} {pins : List (Addr × Obj)} {σ : St} {H : Hp} {s : Shared} {a : Addr} {kvs : List (Key × V)} {k : Key} {u : Value} {A : Around} {E : Value -> Shared -> Prop}
end
def NoSl (i : Expr) : Prop := ∀ ov iv,subscripted i false ov iv = operate [ov,iv] (getItem ov iv)
def tDGet (td ty : TE) : TE := fun σ H Q => td σ H fun x H1 => ty σ H1 fun y H2 => ∃ a v,x = .ref a /\ DGet H2 a y (some v) /\ Q v H2
def tDIn (ty td : TE) : TE := fun σ H Q => ty σ H fun y H1 => td σ H1 fun x H2 => ∃ a o,x = .ref a /\ DGet H2 a y o /\ Q (.bl o.isSome) H2
def tDNotIn (ty td : TE) : TE := fun σ H Q => ty σ H fun y H1 => td σ H1 fun x H2 => ∃ a o,x = .ref a /\ DGet H2 a y o /\ Q (.bl (!o.isSome)) H2
def sDPut (td ty tv : TE) : TS := fun D σ H => tv σ H fun v H1 => td σ H1 fun x H2 => ty σ H2 fun y H3 => ∃ a H4,x = .ref a /\ DPut H3 a y v H4 /\ D.nx σ H4
def sDAug (td ty tv : TE) (rd : V -> V -> Hp -> VK -> Prop) : TS := fun D σ H => td σ H fun x H1 => ty σ H1 fun y H2 => ∃ a v,x = .ref a /\ DGet H2 a y (some v) /\
 tv σ H2 fun y2 H3 => rd v y2 H3 fun z H4 => ∃ H5,DPut H4 a y z H5 /\ D.nx σ H5
def sDDel (td ty : TE) : TS := fun D σ H => td σ H fun x H1 => ty σ H1 fun y H2 => ∃ a kvs k,x = .ref a /\ H2 a = some (.dK kvs) /\ y = kV k /\ (valV kvs k).isSome = true /\ D.nx σ (upd H2 a (.dK (dropK kvs k)))
section
variable {X : Cx} {o i e value : Expr} {pos pos' tpos : Pos} {td ty tv : TE}
end
def tDNewK : TE := fun _ H Q => ∀ p,H p = none -> Q (.ref p) (upd H p (.dK []))
def tDNewT : TE := fun _ H Q => ∀ p,H p = none -> Q (.ref p) (upd H p (.dT []))
section
variable {X : Cx} {pos : Pos}
end
def tPairs : List (TE × TE) -> St -> Hp -> (List (V × V) -> Hp -> Prop) -> Prop
  | [],_,H,Q => Q [] H
  | (tk,tv) :: r,σ,H,Q => tk σ H fun x H1 => tv σ H1 fun y H2 => tPairs r σ H2 fun ps H3 => Q ((x,y) :: ps) H3
abbrev VV : List (V × V) -> List (Value × Value) -> Prop := Paired fun p q => RelV p.1 q.1 /\ RelV p.2 q.2
def PPs (X : Cx) (pos : Pos) (keys : List (Option Expr)) (values : List Expr) (trs : List (TE × TE)) : Prop :=
 ∀ (pins : List (Addr × Obj)) (s : Shared) (σ : St) (H : Hp) (Q : List (V × V) -> Hp -> Prop),Inv X pins σ H s -> tPairs trs σ H Q ->
  wpAny (model X.prog X.w) X.A (evalPairs (pairTrees keys values X.env pos)) (fun vs s' => ∃ ps H',Inv X pins σ H' s' /\ VV ps vs /\ Q ps H') X.xe s
def mergeK (kvs more : List (Key × V)) : List (Key × V) := more.foldl (fun acc kv => putK acc kv.1 kv.2) kvs
def tDisp (trs : List (TE × TE)) : TE := fun σ H Q => ∀ p,H p = none -> tPairs trs σ (upd H p (.dK [])) fun ps H2 => H2 p = some (.dK []) /\ ∃ kvs : List (Key × V),ps = kvs.map (fun kv => (kV kv.1,kv.2)) /\ kvs.length <= 15 /\ Q (.ref p) (upd H2 p (.dK (mergeK [] kvs)))
structure M1 (X : Cx) (o : Expr) (m : Str) (apos : Pos) (e : Expr) (cpos : Pos) : Prop where
 base : attributeBase o m X.env (eval o X.env) = eval o X.env
 few : ((backTo cpos (starEach [e] X.env)).all (fun x => !x.1) && (backToKw cpos (keywordEach [] X.env)).all (fun x => x.1.isSome)
  && decide (([e] : List Expr).length + ([] : List Keyword).length + (if ([] : List Keyword).isEmpty then 0 else 1) < 30)) = true
 line : (apos.endLine == cpos.line) = true
 trees : backTo cpos (starEach [e] X.env) = [(false,eval e X.env)]
structure M2 (X : Cx) (o : Expr) (m : Str) (apos : Pos) (e f : Expr) (cpos : Pos) : Prop where
 base : attributeBase o m X.env (eval o X.env) = eval o X.env
 few : ((backTo cpos (starEach [e,f] X.env)).all (fun x => !x.1) && (backToKw cpos (keywordEach [] X.env)).all (fun x => x.1.isSome)
  && decide (([e,f] : List Expr).length + ([] : List Keyword).length + (if ([] : List Keyword).isEmpty then 0 else 1) < 30)) = true
 line : (apos.endLine == cpos.line) = true
 trees : backTo cpos (starEach [e,f] X.env) = [(false,eval e X.env),(false,eval f X.env)]
def IsD (H : Hp) (a : Addr) : Prop := (∃ kvs,Rd H a (.dK kvs)) \/ ∃ kvs,Rd H a (.dT kvs)
section
variable {X : Cx} {pins : List (Addr × Obj)} {σ : St} {H : Hp} {s : Shared} {a : Addr} {y d : V} {u r : Value} {o : Option V} {A : Around} {E : Value -> Shared -> Prop}
end
def tDGet1 (td ty : TE) : TE := fun σ H Q => td σ H fun x H1 => ∃ a,x = .ref a /\ IsD H1 a /\ ty σ H1 fun y H2 => ∃ o,DGet H2 a y o /\ Q (o.getD .non) H2
def tDGet2 (td ty tx : TE) : TE := fun σ H Q => td σ H fun x H1 => ∃ a,x = .ref a /\ IsD H1 a /\ ty σ H1 fun y H2 => tx σ H2 fun z H3 => ∃ o,DGet H3 a y o /\ Q (o.getD z) H3
def tDPop1 (td ty : TE) : TE := fun σ H Q => td σ H fun x H1 => ∃ a,x = .ref a /\ IsD H1 a /\ ty σ H1 fun y H2 => ∃ kvs k v,H2 a = some (.dK kvs) /\ y = kV k /\ valV kvs k = some v /\ Q v (upd H2 a (.dK (dropK kvs k)))
def tDPop2 (td ty tx : TE) : TE := fun σ H Q => td σ H fun x H1 => ∃ a,x = .ref a /\ IsD H1 a /\ ty σ H1 fun y H2 => tx σ H2 fun z H3 => ∃ kvs k,H3 a = some (.dK kvs) /\ y = kV k /\
 (∀ v,valV kvs k = some v -> Q v (upd H3 a (.dK (dropK kvs k)))) /\ (valV kvs k = none -> Q z H3)
section
variable {X : Cx} {o e f : Expr} {apos cpos : Pos} {td ty tx : TE}
end
section
variable {X : Cx} {pins : List (Addr × Obj)} {σ : St} {H : Hp} {s : Shared} {a : Addr} {kvs : List (Key × V)} {A : Around} {E : Value -> Shared -> Prop}
end
section
variable {X : Cx} {pins : List (Addr × Obj)} {σ : St} {H : Hp} {s : Shared} {a : Addr} {y : V} {u : Value} {A : Around} {E : Value -> Shared -> Prop}
end
end L2
namespace L2
open PySem PySem.Spec PyProof.Rows
section
variable {X : Cx}
def rSortS (K : PySem.W.Frag) : List V -> Hp -> VK -> Prop := fun xs H Q => ∃ a,∃ ss : List Str,xs = [.ref a] /\ SqL K H a (ss.map V.str) /\ ss.length < 64 /\ ∀ (p : Addr) (ss' : List Str),ss'.Perm ss -> sortedS ss' = true -> H p = none -> Q (.ref p) (upd H p (.lst (ss'.map V.str)))
def rSortI (K : PySem.W.Frag) : List V -> Hp -> VK -> Prop := fun xs H Q => ∃ a,∃ ns : List Int,xs = [.ref a] /\ SqL K H a (ns.map V.int) /\ ns.length < 64 /\ ∀ (p : Addr) (ns' : List Int),ns'.Perm ns -> ns'.Pairwise (· <= ·) -> H p = none -> Q (.ref p) (upd H p (.lst (ns'.map V.int)))
def rSortDS : List V -> Hp -> VK -> Prop := fun xs H Q => ∃ a kvs,∃ ss : List Str,xs = [.ref a] /\ H a = some (.dK kvs) /\ kvs.map (·.1) = ss.map Sum.inr /\ kvs.length < 64 /\ ∀ (p : Addr) (ss' : List Str),ss'.Perm ss -> sortedS ss' = true -> H p = none -> Q (.ref p) (upd H p (.lst (ss'.map V.str)))
def rSortDI : List V -> Hp -> VK -> Prop := fun xs H Q => ∃ a kvs,∃ ns : List Int,xs = [.ref a] /\ H a = some (.dK kvs) /\ kvs.map (·.1) = ns.map Sum.inl /\ kvs.length < 64 /\ ∀ (p : Addr) (ns' : List Int),ns'.Perm ns -> ns'.Pairwise (· <= ·) -> H p = none -> Q (.ref p) (upd H p (.lst (ns'.map V.int)))
end
end L2
namespace L2
open PySem PySem.Spec PyProof.Rows
theorem ps_comp {X : Cx} {iy : Nat} {y : Str} {py spos : Pos} {elt tg iter : Expr} {ifs : List Expr} {scope : Scope} {pos : Pos} {N' : List Str} {cl : List (Str × Addr)} {wi : TI} {g : TG} {tt : TT} {te : TE} (σf : St -> St)
  (hc : X.calm = true) (hkind : scope.kind = .function) (hcell : ∀ y ∈ scope.names,y.2 ≠ .cell) (hnames : ∀ y ∈ scope.names,y.2 = .local -> scope.names.lookup y.1 = some .local) (hcl : ClOk X scope cl)
  (hN : ∀ σ : St,σ.length = X.N.length -> BlkN X N' scope cl σ (σf σ)) (hi : PI X tg iter wi)
  (hg : ∀ C s₀ H₀ ex pn,PG (blk X N' scope cl C s₀ H₀ ex pn) tg g) (ht : ∀ C s₀ H₀ ex pn,PIfs (blk X N' scope cl C s₀ H₀ ex pn) ifs tt) (he : ∀ C s₀ H₀ ex pn,PE (blk X N' scope cl C s₀ H₀ ex pn) elt te)
  (hnd : X.N.Nodup) (hiy : X.N[iy]? = some y) (hy : Loc X.env.scope y) (hfy : X.fn y = true \/ X.env.scope.names.lookup y = some .local)
  (hsw : swapsWith (.ListComp elt [⟨tg,iter,ifs,0⟩] scope pos) (some (.Name y py)) spos.line X.env = pure true)
  (hs : ∀ x,foldedSetIterable iter X.env x = pure x := by intro _; rfl) : PS X (.Assign [.Name y py] (.ListComp elt [⟨tg,iter,ifs,0⟩] scope pos) spos) (tAsg (tComp σf wi g tt te) (gName iy)) := by
 intro pins s σ H Dn I h
 rw [exec_Assign_Name_used _ _ _ _ hsw]
 refine wpAny_bind (wpAny_standAt (wpAny_bind ?_))
 show wpAny _ X.A (do let _ <- comprehension (.ListComp elt [⟨tg,iter,ifs,0⟩] scope pos) scope X.env _ (newList []) false (eval iter X.env) (some (assign (.Name y py) X.env))) _ _ s
 refine wpAny_bind (wpAny_mono (wpAny_comprehension_free (use := some (assign (.Name y py) X.env)) (Q := fun _ s' => SP X pins Dn .next s') rfl hs hcl.run hkind hnames
  (thn (hi pins s σ H _ I h) fun v s1 h1 => thn h1 fun itv s2 h2 => ?_)) (fun _ s' hq => wpAny_pure (wpAny_pure hq)) fun _ _ e => e)
 obtain ⟨it,fp,tn,J,H2,rfl,I2,T,st2,f2,q⟩ := h2
 refine wpAny_newObj_type (wpAny_newFunctionEnv hcell (by intro y hy; simp at hy) (fun h₁ hns₁ hsb₁ => ?_) hkind)
 dsimp only at hns₁ hsb₁ ⊢
 have hfo : ∀ b ∈ fp,b < s2.heap.objs.size := fun b hb => by
  obtain ⟨o,e,_⟩ := T.obj _ _ st2 b hb
  exact Heap.lt_size e
 have hDf : H2 s2.heap.objs.size = none := I2.hok.fresh (Nat.le_refl _)
 obtain ⟨W,⟨m0,w0⟩,turn⟩ := q s2.heap.objs.size hDf
 have I3 : Inv X pins σ (upd H2 s2.heap.objs.size (.lst [])) { s2 with heap := s2.heap.push { cls := .type "list",data := .seq ([] : List Value).toArray } } := I2.lnew (its := []) (t' := s2.toks) .nil (Nat.zero_le _)
 have f3 : ∀ b ∈ fp,FpOk X pins (upd H2 s2.heap.objs.size (.lst [])) b := fun b hb => ⟨by rw [upd_ne (Nat.ne_of_lt (hfo b hb))]; exact (f2 b hb).1,(f2 b hb).2⟩
 generalize hD : s2.heap.objs.size = D at *
 generalize hs3 : ({ s2 with heap := s2.heap.push { cls := .type "list",data := .seq ([] : List Value).toArray } } : Shared) = s3 at *
 have hh3 : s3.heap = s2.heap.push { cls := .type "list",data := .seq ([] : List Value).toArray } := by rw [<- hs3]
 have hsz3 : s2.heap.objs.size < s3.heap.objs.size := by rw [hh3,Heap.size_push]; exact Nat.lt_succ_self _
 have e3 : ∀ h t,({ s2 with heap := h,toks := t } : Shared) = { s3 with heap := h,toks := t } := fun h t => by rw [<- hs3]
 rw [<- hh3] at hns₁ hsb₁ ⊢
 have hk3 : ∀ b o,s3.heap.get? b = some o -> h₁.get? b = some o := fun b o e => hsb₁.extBut b o (Nat.ne_of_lt (Heap.lt_size e)) (Heap.get?_push_of_some _ e)
 have I4 := blk_start (t' := s3.toks) I3 hkind hcl (hN σ I.len) f3 (fun b hb => Nat.lt_trans (hfo b hb) (hD ▸ hsz3)) (hns := by simpa using hns₁) hk3
 generalize hB : blk X N' scope cl s3.heap.objs.size s3 (upd H2 D (.lst [])) fp (X.pn ++ pins) = B at *
 have hBp : B.prog = X.prog := by rw [<- hB]; rfl
 have hBw : B.w = X.w := by rw [<- hB]; rfl
 have hBK : B.K = X.K := by rw [<- hB]; rfl
 have hBA : B.A = X.A := by rw [<- hB]; rfl
 have hBc : B.calm = true := by rw [<- hB]; exact hc
 have hBe : B.env = compEnvC scope cl s3.heap.objs.size X.env := by rw [<- hB]; rfl
 have hBx : B.xe = fun _ _ => False := by rw [<- hB]; rfl
 have hGB : PG B tg g := hB ▸ hg _ _ _ _ _
 have hTB : PIfs B ifs tt := hB ▸ ht _ _ _ _ _
 have hEB : PE B elt te := hB ▸ he _ _ _ _ _
 have stat : ∀ {H' : Hp},(∀ b ∈ fp,H' b = none) -> ∀ b ∈ fp,FpOk B [] H' b := fun {H'} hn b hb => by
  obtain ⟨f0,f1,f2',f3',f4,f5⟩ := f3 b hb
  rw [<- hB]
  refine ⟨hn b hb,Nat.ne_of_lt (Nat.lt_trans (hfo b hb) (hD ▸ hsz3)),fun z => ?_,.inl hb,fun x c e => f4 x c (hcl.sub x c e),fun p hp => ?_⟩
  ·rcases List.mem_cons.mp (I.stkSub b z) with z | z
   ·exact f1 z
   ·exact f2' z
  ·rw [show (blk X N' scope cl s3.heap.objs.size s3 (upd H2 D (.lst [])) fp (X.pn ++ pins)).pn = X.pn ++ pins from rfl,List.append_nil] at hp
   exact f5 p hp
 have loop : ∀ s4 : Shared,Inv B [] (σf σ) (upd H2 D (.lst [])) s4 -> tn 0 s4.heap ->
   codeAny (model X.prog X.w) X.A (.compLoop (.ListComp elt [⟨tg,iter,ifs,0⟩] scope pos) 0 (.ref it) (.ref D) (compEnvC scope cl s3.heap.objs.size X.env)) (compPost (model X.prog X.w) X.A X.xe (some (assign (.Name y py) X.env)) (fun _ s' => SP X pins Dn .next s') (.ref D) s3.heap.objs.size) s4 := by
  intro s4 I4 st4
  refine compLoop_gen (I := fun n s' => ∃ i ys H',Inv B [] (σf σ) H' s' /\ tn i s'.heap /\ (∀ b ∈ fp,H' b = none) /\ W i n ys H') ?_ m0 ⟨0,[],_,I4,st4,fun b hb => (f3 b hb).1,w0⟩
  rintro n s5 ⟨i,ys,H5,I5,st5,fr5,w5⟩
  obtain ⟨hD5,hlen5,alt⟩ := turn i n ys H5 w5
  rcases alt with ⟨stop,qn⟩ | ⟨go,step⟩
  ·have z := T.done B hBp hBw hBK hBc i [] s5 (σf σ) H5 (fun _ _ => False) I5 (stat fr5) st5 stop
   rw [hBA] at z
   refine thn z fun r s6 ⟨hr,I6⟩ => ?_
   subst hr
   obtain ⟨m6,hn6,_⟩ := I6.loc
   rw [hBe] at hn6
   subst hB
   have I6x : Inv X pins σ H5 s6 := blk_end I3 f3 I6 (h'' := s6.heap) ⟨rfl,fun _ _ => rfl⟩
   have fC : FpOk X pins H5 s3.heap.objs.size := I3.fpOk (Nat.le_refl _) I6.free
   obtain ⟨g0,g1,g2,g3,g4,g5⟩ := id fC
   obtain ⟨oC,es,ep,hoC,hdC,rest⟩ := hn6
   have I6p := I6x.pinned (fp := [s3.heap.objs.size]) (fun b hb => by rw [List.mem_singleton.mp hb]; exact fC) (fun b hb => ⟨oC,by rw [List.mem_singleton.mp hb]; exact hoC,fun v e => by rw [hdC] at e; cases e⟩)
   show wpAny (model X.prog X.w) X.A (assign (.Name y py) X.env (.ref D)) _ X.xe s6
   refine thn (pg_name (i := iy) (pos := py) hnd hiy hy hfy _ s6 σ H5 (.ref D) (.ref D) (fun σ' H' => Dn.nx σ' H') I6p rfl qn) fun _ s7 ⟨σ7,H7,I7,q7⟩ => ?_
   have pc := I7.pin (s3.heap.objs.size,oC) (List.mem_append_right _ (List.mem_append_right _ (mem_pinsAt (by simp) hoC)))
   refine ⟨m6,⟨oC,es,ep,pc.1,hdC,rest⟩,fun h' hs' => ⟨σ7,H7,?_,q7⟩⟩
   exact I7.unpinned.turned (t' := s7.toks) (fun b o hb e => hs'.extBut b o hb e) pc.2.1 g1 g3 g4 g5
  ·have z := T.item B hBp hBw hBK hBc i [] s5 (σf σ) H5 (fun _ _ => False) I5 (stat fr5) st5 go
   rw [hBA] at z
   refine thn z fun r s6 ⟨u,hr,h6⟩ => ?_
   subst hr
   refine thn h6 fun _ s7 ⟨x,H7,I7,r7,y7,st7,fr7⟩ => ?_
   have I7' := I7.pinned (stat fr7) (T.obj _ _ st7)
   have z8 := hGB _ s7 (σf σ) H7 x u _ I7' r7 (step x H7 y7)
   rw [hBp,hBw,hBA,hBe,hBx] at z8
   refine thn z8 fun _ s8 ⟨σ8,H8,I8,k8,q8⟩ => ?_
   have z9 := hTB _ s8 σ8 H8 _ I8 q8
   rw [hBp,hBw,hBA,hBe,hBx] at z9
   refine thn z9 fun ok s9 ⟨H9,I9,q9⟩ => ?_
   have again : ∀ {ys' : List V} {H' : Hp} {s' : Shared},Inv B ([] ++ pinsAt fp s7.heap) σ8 H' s' -> (∃ m',m' < n /\ W (i + 1) m' ys' H') -> ∃ m,m < n /\ ∃ i ys H',Inv B [] (σf σ) H' s' /\ tn i s'.heap /\ (∀ b ∈ fp,H' b = none) /\ W i m ys H' := fun {ys' H' s'} J ⟨m',hm,w'⟩ => by
    refine ⟨m',hm,i + 1,ys',H',J.unpinned.weak k8.len.symm k8.at',T.keep _ _ _ st7 fun b hb o e => (J.pin (b,o) (List.mem_append_right _ (List.mem_append_right _ (mem_pinsAt hb e)))).1,fun b hb => ?_,w'⟩
    obtain ⟨o,e,d⟩ := T.obj _ _ st7 b hb
    exact (J.pin (b,o) (List.mem_append_right _ (List.mem_append_right _ (mem_pinsAt hb e)))).2.1
   cases ok with
   | false => exact again I9 q9
   | true =>
    have z10 := hEB _ s9 σ8 H9 _ I9 q9
    rw [hBp,hBw,hBA,hBe,hBx] at z10
    refine thn z10 fun y10 s10 ⟨y,H10,I10,r10,hD10,q10⟩ => ?_
    have z11 := mt_append (X := B) _ s10 σ8 H10 (.ref D) [y] (.ref D) [y10] (fun _ H' => ∃ m',m' < n /\ W (i + 1) m' (ys ++ [y]) H') I10 rfl (.cons r10 .nil) ⟨D,ys,y,rfl,rfl,hD10,hlen5,q10⟩
    rw [hBp,hBw,hBA,hBx] at z11
    refine thn z11 fun _ s11 ⟨_,H11,I11,_,q11⟩ => again I11 q11
 have st4 : tn 0 ({ s3 with heap := h₁,toks := s3.toks } : Shared).heap := T.keep _ _ _ st2 fun b hb o e => hk3 b o (by rw [hh3]; exact Heap.get?_push_of_some _ e)
 have L4 := loop _ I4 st4
 subst hs3
 exact codeAny_compStart_list L4 (T.self _ 0 _ _ _ st4 L4)
end L2
namespace L2
open PySem PySem.Spec PyProof.Rows
structure Ys (J : It) (xs : List V) (H1 : Hp) : Prop where
 go : ∀ i H,Same H1 H -> i < xs.length -> J.go i H
 yld : ∀ i H x H',Same H1 H -> i < xs.length -> J.yld i H x H' -> H' = H /\ xs[i]? = some x
 stop : ∀ i H,Same H1 H -> xs.length <= i -> J.stop i H
theorem Ys.list {K : PySem.W.Frag} {a : Addr} {xs : List V} {H1 : Hp} (h : SqL K H1 a xs) : Ys (Itl K a) xs H1 where
 go := fun i H s hi => ⟨xs,xs[i],s.seq h,List.getElem?_eq_getElem hi⟩
 yld := fun i H x H' s _ y => ⟨y.1,y.2 xs (s.seq h)⟩
 stop := fun i H s hi => ⟨xs,s.seq h,hi⟩
theorem Ys.tup {K : PySem.W.Frag} {a : Addr} {xs : List V} {H1 : Hp} (h : SqT K H1 a xs) : Ys (Itt K a) xs H1 where
 go := fun i H s hi => ⟨xs,xs[i],s.tup h,List.getElem?_eq_getElem hi⟩
 yld := fun i H x H' s _ y => ⟨y.1,y.2 xs (s.tup h)⟩
 stop := fun i H s hi => ⟨xs,s.tup h,hi⟩
def rngV (lo : Int) (n : Nat) : List V := (List.range n).map fun (i : Nat) => V.int (lo + (i : Int))
theorem rngV_len (lo : Int) (n : Nat) : (rngV lo n).length = n := by unfold rngV; rw [List.length_map,List.length_range]
theorem rngV_get {lo : Int} {n i : Nat} {x : V} (h : (rngV lo n)[i]? = some x) : i < n /\ x = .int (lo + i) := by
 have hi : i < n := by rw [<- rngV_len lo n]; exact (List.getElem?_eq_some_iff.mp h).1
 unfold rngV at h
 rw [List.getElem?_map,List.getElem?_range hi] at h
 exact ⟨hi,(Option.some.inj h).symm⟩
theorem Ys.rng {lo : Int} {n : Nat} {H1 : Hp} : Ys (Itr lo n) (rngV lo n) H1 where
 go := fun i H _ hi => by rw [rngV_len] at hi; exact hi
 yld := fun i H x H' _ hi y => ⟨y.1,by
  obtain ⟨_,rfl⟩ := y
  rw [rngV_len] at hi
  unfold rngV
  rw [List.getElem?_map,List.getElem?_range hi]
  rfl⟩
 stop := fun i H _ hi => by rw [rngV_len] at hi; exact hi
theorem snoc_get {α : Type} {ys : List α} {y z : α} {j : Nat} (h : (ys ++ [y])[j]? = some z) : (j < ys.length /\ ys[j]? = some z) \/ (j = ys.length /\ z = y) := by
 by_cases hj : j < ys.length
 ·rw [List.getElem?_append_left hj] at h
  exact .inl ⟨hj,h⟩
 ·rw [List.getElem?_append_right (by omega)] at h
  have e0 : j - ys.length = 0 := by
   cases hz : j - ys.length with
   | zero => rfl
   | succ n => rw [hz] at h; simp at h
  rw [e0] at h
  exact .inr ⟨by omega,by simpa using h.symm⟩
theorem comp_rel {J : It} {xs : List V} {D : Addr} {g : TG} {te : TE} {σ0 : St} {QD : Hp -> Prop} {H1 : Hp} (Y : Ys J xs H1) (Pr : Nat -> V -> V -> Hp -> Prop) (hP : ∀ i x y H H',Pr i x y H -> Tk H H' -> Pr i x y H') (hD : H1 D = none) (hl : xs.length <= 1000)
  (hs : ∀ i x H' (R : VK),xs[i]? = some x -> Same H1 H' -> (∀ y H4,Same H' H4 -> Pr i x y H4 -> R y H4) -> g x σ0 H' fun σ2 H2 => Keep σ0 σ2 /\ te σ2 H2 R)
  (hd : ∀ ys H',Same H1 H' -> H' D = some (.lst ys) -> ys.length = xs.length -> (∀ i x y,xs[i]? = some x -> ys[i]? = some y -> Pr i x y H') -> QD H') :
  ∃ W : Nat -> Nat -> List V -> Hp -> Prop,(∃ m,W 0 m [] (upd H1 D (.lst []))) /\ ∀ i m ys H,W i m ys H -> H D = some (.lst ys) /\ ys.length < sizeLine /\
   ((J.stop i H /\ QD H) \/ (J.go i H /\ ∀ x H',J.yld i H x H' -> g x σ0 H' fun σ2 H2 => Keep σ0 σ2 /\ tNoIf σ2 H2 fun b H3 =>
    if b = true then te σ2 H3 fun y H4 => H4 D = some (.lst ys) /\ ∃ m',m' < m /\ W (i + 1) m' (ys ++ [y]) (upd H4 D (.lst (ys ++ [y]))) else ∃ m',m' < m /\ W (i + 1) m' ys H3)) := by
 refine ⟨fun i m ys H => m = xs.length - i /\ i <= xs.length /\ Same H1 H /\ H D = some (.lst ys) /\ ys.length = i /\ ∀ j x y,xs[j]? = some x -> ys[j]? = some y -> Pr j x y H,
  ⟨_,rfl,Nat.zero_le _,Same.upd hD,upd_same,rfl,fun j x y _ h => by simp at h⟩,?_⟩
 rintro i m ys H ⟨rfl,hi,sm,hDH,yl,pr⟩
 refine ⟨hDH,small1000 (by omega),?_⟩
 by_cases hlt : i < xs.length
 ·refine .inr ⟨Y.go i H sm hlt,fun x H' y => ?_⟩
  obtain ⟨rfl,hx⟩ := Y.yld i H x H' sm hlt y
  refine hs i x H' _ hx sm fun y H4 s4 py => ?_
  have hD4 := s4 _ _ hDH
  have tk : Tk H4 (upd H4 D (.lst (ys ++ [y]))) := Tk.lst hD4
  refine ⟨hD4,xs.length - (i + 1),by omega,rfl,hlt,fun b o hb => ?_,upd_same,by rw [List.length_append,yl]; rfl,fun j x' y' hx' hy' => ?_⟩
  ·rw [upd_ne (ne_of_none hb hD)]
   exact s4 _ _ (sm _ _ hb)
  ·rcases snoc_get hy' with ⟨_,hy'⟩ | ⟨e,e'⟩
   ·exact hP _ _ _ _ _ (hP _ _ _ _ _ (pr j x' y' hx' hy') (Same.tk s4)) tk
   ·subst e'
    have : j = i := by omega
    subst this
    rw [hx] at hx'
    cases hx'
    exact hP _ _ _ _ _ py tk
 ·have e : i = xs.length := by omega
  subst e
  exact .inl ⟨Y.stop _ H sm (Nat.le_refl _),hd ys H sm hDH yl pr⟩
theorem comp_filt {J : It} {xs : List V} {D : Addr} {g : TG} {tt : TT} {te : TE} {σ0 : St} {QD : Hp -> Prop} {H1 : Hp} (Y : Ys J xs H1) (p : V -> Bool) (Pr : V -> V -> Hp -> Prop) (hP : ∀ x y H H',Pr x y H -> Tk H H' -> Pr x y H') (hD : H1 D = none) (hl : xs.length <= 1000)
  (hs : ∀ (i : Nat) x H' (R1 : VK) (R2 : Hp -> Prop),xs[i]? = some x -> Same H1 H' -> (p x = true -> ∀ y H4,Same H' H4 -> Pr x y H4 -> R1 y H4) -> (p x = false -> ∀ H4,Same H' H4 -> R2 H4) -> g x σ0 H' fun σ2 H2 => Keep σ0 σ2 /\ tt σ2 H2 fun b H3 => if b = true then te σ2 H3 R1 else R2 H3)
  (hd : ∀ ys H',Same H1 H' -> H' D = some (.lst ys) -> ys.length = (xs.filter p).length -> (∀ (i : Nat) x y,(xs.filter p)[i]? = some x -> ys[i]? = some y -> Pr x y H') -> QD H') :
  ∃ W : Nat -> Nat -> List V -> Hp -> Prop,(∃ m,W 0 m [] (upd H1 D (.lst []))) /\ ∀ i m ys H,W i m ys H -> H D = some (.lst ys) /\ ys.length < sizeLine /\
   ((J.stop i H /\ QD H) \/ (J.go i H /\ ∀ x H',J.yld i H x H' -> g x σ0 H' fun σ2 H2 => Keep σ0 σ2 /\ tt σ2 H2 fun b H3 =>
    if b = true then te σ2 H3 fun y H4 => H4 D = some (.lst ys) /\ ∃ m',m' < m /\ W (i + 1) m' (ys ++ [y]) (upd H4 D (.lst (ys ++ [y]))) else ∃ m',m' < m /\ W (i + 1) m' ys H3)) := by
 refine ⟨fun i m ys H => m = xs.length - i /\ i <= xs.length /\ Same H1 H /\ H D = some (.lst ys) /\ ys.length = ((xs.take i).filter p).length /\ ∀ (j : Nat) x y,((xs.take i).filter p)[j]? = some x -> ys[j]? = some y -> Pr x y H,
  ⟨_,rfl,Nat.zero_le _,Same.upd hD,upd_same,rfl,fun j x y _ h => by simp at h⟩,?_⟩
 rintro i m ys H ⟨rfl,hi,sm,hDH,yl,pr⟩
 have yl' : ys.length <= xs.length := by
  rw [yl]
  exact Nat.le_trans (List.length_filter_le _ _) (by rw [List.length_take]; omega)
 refine ⟨hDH,small1000 (by omega),?_⟩
 by_cases hlt : i < xs.length
 ·refine .inr ⟨Y.go i H sm hlt,fun x H' y => ?_⟩
  obtain ⟨rfl,hx⟩ := Y.yld i H x H' sm hlt y
  have et : xs.take (i + 1) = xs.take i ++ [x] := by rw [List.take_add_one,hx]; rfl
  refine hs i x H' _ _ hx sm (fun px y H4 s4 py => ?_) (fun px H4 s4 => ?_)
  ·have hD4 := s4 _ _ hDH
   have tk : Tk H4 (upd H4 D (.lst (ys ++ [y]))) := Tk.lst hD4
   refine ⟨hD4,xs.length - (i + 1),by omega,rfl,hlt,fun b o hb => ?_,upd_same,?_,fun j x' y' hx' hy' => ?_⟩
   ·rw [upd_ne (ne_of_none hb hD)]
    exact s4 _ _ (sm _ _ hb)
   ·rw [et,List.filter_append,List.length_append,List.length_append,yl,List.filter_cons_of_pos px]
    rfl
   ·rw [et,List.filter_append,List.filter_cons_of_pos px] at hx'
    rcases snoc_get hx' with ⟨h1,hx'⟩ | ⟨h1,hx'⟩
    ·rcases snoc_get hy' with ⟨_,hy'⟩ | ⟨e,_⟩
     ·exact hP _ _ _ _ (hP _ _ _ _ (pr j x' y' hx' hy') (Same.tk s4)) tk
     ·omega
    ·rcases snoc_get hy' with ⟨h2,_⟩ | ⟨_,hy'⟩
     ·omega
     ·subst hx' hy'
      exact hP _ _ _ _ py tk
  ·refine ⟨xs.length - (i + 1),by omega,rfl,hlt,sm.trans s4,s4 _ _ hDH,?_,fun j x' y' hx' hy' => ?_⟩
   ·rw [et,List.filter_append,List.filter_cons_of_neg (by rw [px]; exact Bool.false_ne_true),List.filter_nil,List.append_nil,yl]
   ·rw [et,List.filter_append,List.filter_cons_of_neg (by rw [px]; exact Bool.false_ne_true),List.filter_nil,List.append_nil] at hx'
    exact hP _ _ _ _ (pr j x' y' hx' hy') (Same.tk s4)
 ·have e : i = xs.length := by omega
  subst e
  rw [List.take_length] at yl pr
  exact .inl ⟨Y.stop _ H sm (Nat.le_refl _),hd ys H sm hDH yl pr⟩
end L2
namespace L2
open PySem PySem.Spec PyProof.Rows
section
variable {prog : Program} {w : World} {A : Around} {E : Value -> Shared -> Prop} {s : Shared}
theorem tupNext {it t : Addr} {i : Nat} {its : Array Value} {x : Value} {Q : Value -> Shared -> Prop} (st : s.heap.IsTupleIter it t i) (hl : s.heap.IsTuple t its) (hx : its[i]? = some x)
  (q : ∀ g,g.IsTupleIter it t (i + 1) -> Heap.SameBut it s.heap g -> Q x { s with heap := g }) : wpAny (model prog w) A (Builtin.SmallTypes.nextOf (.ref it)) Q E s := by
 obtain ⟨ob,e1,e2,e3⟩ := id st
 obtain ⟨ot,e4,_,m,e5⟩ := hl
 unfold Builtin.SmallTypes.nextOf
 refine wpAny_bind (wpAny_callSpecial?_slot (name := Str.ofString "__next__") st.typeIs F.slot_tuple_iterator_next (wpAny_call_entry F.slot_tuple_iterator_next st.typeIs F.entry_tuple_iterator_next ?_ (F.args_tuple_iterator_next_1 _)))
 refine wpAny_bind (m := field (.ref it) 0) (wpAny_field e1 e3 (x := .ref t) rfl ?_)
 show wpAny _ _ (if (Value.ref t == Value.none) = true then _ else (field (.ref it) 1 >>= _)) _ _ s
 rw [if_neg (show ¬ (Value.ref t == Value.none) = true from (fun z => nomatch z))]
 refine wpAny_bind (wpAny_field e1 e3 (x := .int i 0) rfl (wpAny_bind (m := seqItems? (.ref t)) (wpAny_seqItems e4 e5 ?_)))
 simp only [Int.toNat_natCast,hx]
 refine wpAny_bind (wpAny_setField e1 e3 (by simp) (wpAny_pure ⟨x,rfl,wpAny_pure (q _ ⟨_,Heap.get?_update_self _ e1 (Obj.isFreed_of_fields (Obj.data_mapFields e3 _)),(Obj.cls_mapFields ..).trans e2,?_⟩ (Heap.SameBut.update ..))⟩))
 rw [Obj.data_mapFields e3]
 simp [rawInt]
theorem tupStop {it t : Addr} {i : Nat} {its : Array Value} {Q : Value -> Shared -> Prop} (hh : A.handled = none) (st : s.heap.IsTupleIter it t i) (hl : s.heap.IsTuple t its) (hx : its[i]? = none)
  (q : ∀ g e,Heap.ExtBut it s.heap g -> (∃ o,g.get? e = some o /\ o.cls = .type "StopIteration") -> E (.ref e) { s with heap := g }) : wpAny (model prog w) A (Builtin.SmallTypes.nextOf (.ref it)) Q E s := by
 obtain ⟨ob,e1,e2,e3⟩ := id st
 obtain ⟨ot,e4,_,m,e5⟩ := hl
 unfold Builtin.SmallTypes.nextOf
 refine wpAny_bind (wpAny_callSpecial?_slot (name := Str.ofString "__next__") st.typeIs F.slot_tuple_iterator_next (wpAny_call_entry F.slot_tuple_iterator_next st.typeIs F.entry_tuple_iterator_next ?_ (F.args_tuple_iterator_next_1 _)))
 refine wpAny_bind (m := field (.ref it) 0) (wpAny_field e1 e3 (x := .ref t) rfl ?_)
 show wpAny _ _ (if (Value.ref t == Value.none) = true then _ else (field (.ref it) 1 >>= _)) _ _ s
 rw [if_neg (show ¬ (Value.ref t == Value.none) = true from (fun z => nomatch z))]
 refine wpAny_bind (wpAny_field e1 e3 (x := .int i 0) rfl (wpAny_bind (m := seqItems? (.ref t)) (wpAny_seqItems e4 e5 ?_)))
 simp only [Int.toNat_natCast,hx]
 refine wpAny_bind (wpAny_rule (wpAny_bind (wpAny_setField e1 e3 (by simp) (wpAny_bind (m := newExc (.type "StopIteration") []) ?_))))
 simp only [newExc,newTuple]
 refine wpAny_bind (wpAny_newObj_type (wpAny_bind (m := firstArgMember _ _) (wpAny_of_eq (a := Value.none) (by first | rfl | (simp only [firstArgMember]; rfl)) (wpAny_newObj_type ?_ (by size_fits)))) (by size_fits))
 simp only [raiseNew]
 refine wpAny_bind (wpAny_handled ?_)
 first | rw [show A.in1.handled = none from hh] | rw [hh]
 exact wpAny_bind (wpAny_pure (wpAny_throw (q _ _ (((Heap.SameBut.update ..).extBut.push _).push _) ⟨_,Heap.get?_push_size _ rfl,rfl⟩)))
theorem drawsTup (hh : A.handled = none) (it t : Addr) (hne : t ≠ it) (its : Array Value) :
  Draws prog w A it [it,t] its.size (fun i v => its[i]? = some v) (fun i h => h.IsTupleIter it t i /\ h.IsTuple t its) where
 live := fun _ _ z => let ⟨o,e,_⟩ := z.1; ⟨o,e⟩
 frame := fun _ _ _ z k => ⟨z.1.at fun o e => k it (by simp) o e,z.2.at fun o e => k t (by simp) o e⟩
 item := fun i s Q E hi z k => tupNext z.1 z.2 (x := its[i]) (by simp [hi]) fun g z' sb => k _ g s.toks (by simp [hi]) ⟨z',z.2.extBut sb.extBut hne⟩ sb
 done := fun s Q E z k => tupStop hh z.1 z.2 (by simp) k
structure Ap (z TI TO i1 i2 : Addr) (f1 f2 : List Addr) : Prop where
 a1 : ∀ b ∈ f1,b ≠ z /\ b ≠ TO /\ b ≠ i2
 a2 : ∀ b ∈ f2,b ≠ z /\ b ≠ TO /\ b ≠ i1
 m1 : i1 ∈ f1
 m2 : i2 ∈ f2
 tz : TI ≠ z
 tO : TI ≠ TO
 t1 : TI ≠ i1
 t2 : TI ≠ i2
 oz : TO ≠ z
section
variable {z TI TO i1 i2 : Addr} {f1 f2 : List Addr} {n1 n2 k : Nat} {P1 P2 : Nat -> Value -> Prop} {S1 S2 : Nat -> Heap -> Prop} {a b : Value}
theorem zipNext {Q : Value -> Shared -> Prop} (D1 : Draws prog w A i1 f1 n1 P1 S1) (D2 : Draws prog w A i2 f2 n2 P2 S2) (ap : Ap z TI TO i1 i2 f1 f2) (hz : IsZip s.heap z TI TO .none) (hI : IsPair s.heap TI (.ref i1) (.ref i2)) (hO : IsPair s.heap TO a b)
  (h1 : S1 k s.heap) (h2 : S2 k s.heap) (l1 : k < n1) (l2 : k < n2)
  (q : ∀ x y T g t',P1 k x -> P2 k y -> T = s.heap.objs.size -> IsZip g z TI TO (rawInt T) -> IsPair g TO x y -> S1 (k + 1) g -> S2 (k + 1) g -> IsPair g T x y -> (∀ c o,c ≠ z -> c ≠ TO -> c ≠ i1 -> c ≠ i2 -> s.heap.get? c = some o -> g.get? c = some o) -> Q (.ref T) { s with heap := g,toks := t' }) :
  wpAny (model prog w) A (Builtin.«zip.__next__» ⟨[.ref z],[]⟩) (fun fin s' => ∃ v,fin = .done (.ret v) /\ Q v s') E s := by
 have z1 := ap.a1 i1 ap.m1
 have z2 := ap.a2 i2 ap.m2
 refine wpAny_bind (m := field (.ref z) 2) (wpAny_field hz rfl (x := .bool false) rfl (wpAny_bind (m := field (.ref z) 3) (wpAny_field hz rfl (x := .ref TI) rfl (wpAny_bind (wpAny_seqItems hI rfl (wpAny_bind (m := Builtin.SmallTypes.ownedTupleIsFree (.ref z)) ?_))))))
 unfold Builtin.SmallTypes.ownedTupleIsFree
 refine wpAny_bind (wpAny_field hz rfl (x := .none) rfl (wpAny_pure ?_))
 simp only [if_true]
 refine wpAny_bind (wpAny_rule (wpAny_bind (wpAny_field hz rfl (x := .ref TO) rfl (wpAny_bind (wpAny_setField_rec hz (by simp) fun ga ca sa => wpAny_bind ?_)))))
 replace ca : IsZip ga z TI TO .ellipsis := ca
 have ka : ∀ c o,c ≠ z -> s.heap.get? c = some o -> ga.get? c = some o := fun c o n e => sa.extBut _ _ n e
 simp only [List.zipIdx_cons,List.zipIdx_nil,List.forIn_cons,List.forIn_nil]
 refine wpAny_bind (wpAny_bind (wpAny_onRaise (wpAny_bind (m := Builtin.SmallTypes.nextOf (.ref i1)) (D1.item k _ _ _ l1 (D1.frame _ _ _ h1 fun c hc o e => ka c o (ap.a1 c hc).1 e) fun x gb tb px sb cb => wpAny_pure ?_))))
 have kb : ∀ c o,c ≠ z -> c ≠ i1 -> s.heap.get? c = some o -> gb.get? c = some o := fun c o n n' e => cb.extBut _ _ n' (ka c o n e)
 have hOb : IsPair gb TO a b := kb _ _ ap.oz (fun e => z1.2.1 e.symm) hO
 refine wpAny_bind (wpAny_seqItems hOb rfl (wpAny_bind (wpAny_updateSeq_pair hOb fun gc hOc cc => wpAny_bind (wpAny_letGo (wpAny_pure ?_)))))
 replace hOc : IsPair gc TO x b := hOc
 have kc : ∀ c o,c ≠ z -> c ≠ i1 -> c ≠ TO -> s.heap.get? c = some o -> gc.get? c = some o := fun c o n n' n2 e => cc.extBut _ _ n2 (kb c o n n' e)
 have sc1 : S1 (k + 1) gc := D1.frame _ _ _ sb fun c hc o e => cc.extBut _ _ (ap.a1 c hc).2.1 e
 refine wpAny_bind (wpAny_bind (wpAny_onRaise (wpAny_bind (m := Builtin.SmallTypes.nextOf (.ref i2)) (D2.item k _ _ _ l2 (D2.frame _ _ _ h2 fun c hc o e => kc c o (ap.a2 c hc).1 (ap.a2 c hc).2.2 (ap.a2 c hc).2.1 e) fun y gd td py sd cd => wpAny_pure ?_))))
 have hOd : IsPair gd TO x b := cd.extBut _ _ (fun e => z2.2.1 e.symm) hOc
 refine wpAny_bind (wpAny_seqItems hOd rfl (wpAny_bind (wpAny_updateSeq_pair hOd fun ge hOe ce => wpAny_bind (wpAny_letGo (wpAny_pure (wpAny_pure ?_))))))
 replace hOe : IsPair ge TO x y := hOe
 have ke : ∀ c o,c ≠ z -> c ≠ TO -> c ≠ i1 -> c ≠ i2 -> s.heap.get? c = some o -> ge.get? c = some o := fun c o n n1 n2 n3 e => ce.extBut _ _ n1 (cd.extBut _ _ n3 (kc c o n n2 n1 e))
 have hze : IsZip ge z TI TO .ellipsis := ce.extBut _ _ (Ne.symm ap.oz) (cd.extBut _ _ (Ne.symm z2.1) (cc.extBut _ _ (Ne.symm ap.oz) (cb.extBut _ _ (Ne.symm z1.1) ca)))
 have se1 : S1 (k + 1) ge := D1.frame _ _ _ sc1 fun c hc o e => ce.extBut _ _ (ap.a1 c hc).2.1 (cd.extBut _ _ (ap.a1 c hc).2.2 e)
 have se2 : S2 (k + 1) ge := D2.frame _ _ _ sd fun c hc o e => ce.extBut _ _ (ap.a2 c hc).2.1 e
 have szs : s.heap.objs.size = ge.objs.size := by rw [ce.1,cd.1,cc.1,cb.1,sa.1]
 refine wpAny_bind (wpAny_seqItems hOe rfl (wpAny_bind (wpAny_newTuple (wpAny_bind (m := Builtin.SmallTypes.ownedTupleHandOut (.ref z) (.ref ge.objs.size)) ?_))))
 unfold Builtin.SmallTypes.ownedTupleHandOut
 have zl : z < ge.objs.size := Heap.lt_size hze
 refine wpAny_bind (wpAny_setField_rec (show IsZip (ge.push { cls := .type "tuple",data := .seq #[x,y] }) z TI TO .ellipsis from Heap.get?_push_of_some _ hze) (by simp) fun gf cf sf => ?_)
 replace cf : IsZip gf z TI TO (rawInt ge.objs.size) := cf
 refine wpAny_setField_rec cf (by simp) fun gg cg sg => wpAny_pure ⟨_,rfl,?_⟩
 replace cg : IsZip gg z TI TO (rawInt ge.objs.size) := cg
 have up : ∀ c o,c ≠ z -> ge.get? c = some o -> gg.get? c = some o := fun c o n e => sg.extBut _ _ n (sf.extBut _ _ n (Heap.get?_push_of_some _ e))
 have hT : IsPair gg ge.objs.size x y := sg.extBut _ _ (Nat.ne_of_gt zl) (sf.extBut _ _ (Nat.ne_of_gt zl) (Heap.get?_push_size _ rfl))
 exact q x y ge.objs.size gg _ px py szs.symm cg (up _ _ ap.oz hOe) (D1.frame _ _ _ se1 fun c hc o e => up c o (ap.a1 c hc).1 e) (D2.frame _ _ _ se2 fun c hc o e => up c o (ap.a2 c hc).1 e) hT fun c o n n1 n2 n3 e => up c o n (ke c o n n1 n2 n3 e)
theorem zipStop {Q : Fin -> Shared -> Prop} (D1 : Draws prog w A i1 f1 n1 P1 S1) (D2 : Draws prog w A i2 f2 n2 P2 S2) (ap : Ap z TI TO i1 i2 f1 f2) (hz : IsZip s.heap z TI TO .none) (hI : IsPair s.heap TI (.ref i1) (.ref i2)) (hO : IsPair s.heap TO a b)
  (h1 : S1 k s.heap) (h2 : S2 k s.heap) (hk : k = n1 \/ (k < n1 /\ k = n2))
  (q : ∀ g e t',(∀ c o,c ≠ z -> c ≠ TO -> c ≠ i1 -> c ≠ i2 -> s.heap.get? c = some o -> g.get? c = some o) -> (∃ o,g.get? e = some o /\ o.cls = .type "StopIteration") -> E (.ref e) { s with heap := g,toks := t' }) :
  wpAny (model prog w) A (Builtin.«zip.__next__» ⟨[.ref z],[]⟩) Q E s := by
 have z1 := ap.a1 i1 ap.m1
 have z2 := ap.a2 i2 ap.m2
 refine wpAny_bind (m := field (.ref z) 2) (wpAny_field hz rfl (x := .bool false) rfl (wpAny_bind (m := field (.ref z) 3) (wpAny_field hz rfl (x := .ref TI) rfl (wpAny_bind (wpAny_seqItems hI rfl (wpAny_bind (m := Builtin.SmallTypes.ownedTupleIsFree (.ref z)) ?_))))))
 unfold Builtin.SmallTypes.ownedTupleIsFree
 refine wpAny_bind (wpAny_field hz rfl (x := .none) rfl (wpAny_pure ?_))
 simp only [if_true]
 refine wpAny_bind (wpAny_rule (wpAny_bind (wpAny_field hz rfl (x := .ref TO) rfl (wpAny_bind (wpAny_setField_rec hz (by simp) fun ga ca sa => wpAny_bind ?_)))))
 replace ca : IsZip ga z TI TO .ellipsis := ca
 have ka : ∀ c o,c ≠ z -> s.heap.get? c = some o -> ga.get? c = some o := fun c o n e => sa.extBut _ _ n e
 simp only [List.zipIdx_cons,List.zipIdx_nil,List.forIn_cons,List.forIn_nil]
 rcases hk with e | ⟨l1,e⟩
 ·subst e
  refine wpAny_bind (wpAny_bind (wpAny_onRaise (wpAny_bind (m := Builtin.SmallTypes.nextOf (.ref i1)) (D1.done _ _ _ (D1.frame _ _ _ h1 fun c hc o e => ka c o (ap.a1 c hc).1 e) fun gb e cb he => ?_))))
  obtain ⟨oe,h3,h4⟩ := he
  have hzb : IsZip gb z TI TO .ellipsis := cb _ _ (Ne.symm z1.1) ca
  have hez : e ≠ z := fun x => by rw [x,hzb] at h3; cases h3; simp at h4
  exact wpAny_setField_rec hzb (by simp) fun gc _ cc => q gc e s.toks (fun c o n _ n2 _ x => cc.extBut _ _ n (cb _ _ n2 (ka c o n x))) ⟨oe,cc.extBut _ _ hez h3,h4⟩
 ·subst e
  refine wpAny_bind (wpAny_bind (wpAny_onRaise (wpAny_bind (m := Builtin.SmallTypes.nextOf (.ref i1)) (D1.item k _ _ _ l1 (D1.frame _ _ _ h1 fun c hc o e => ka c o (ap.a1 c hc).1 e) fun x gb tb px sb cb => wpAny_pure ?_))))
  have kb : ∀ c o,c ≠ z -> c ≠ i1 -> s.heap.get? c = some o -> gb.get? c = some o := fun c o n n' e => cb.extBut _ _ n' (ka c o n e)
  have hOb : IsPair gb TO a b := kb _ _ ap.oz (fun e => z1.2.1 e.symm) hO
  refine wpAny_bind (wpAny_seqItems hOb rfl (wpAny_bind (wpAny_updateSeq_pair hOb fun gc hOc cc => wpAny_bind (wpAny_letGo (wpAny_pure ?_)))))
  have kc : ∀ c o,c ≠ z -> c ≠ i1 -> c ≠ TO -> s.heap.get? c = some o -> gc.get? c = some o := fun c o n n' n2 e => cc.extBut _ _ n2 (kb c o n n' e)
  refine wpAny_bind (wpAny_bind (wpAny_onRaise (wpAny_bind (m := Builtin.SmallTypes.nextOf (.ref i2)) (D2.done _ _ _ (D2.frame _ _ _ h2 fun c hc o e => kc c o (ap.a2 c hc).1 (ap.a2 c hc).2.2 (ap.a2 c hc).2.1 e) fun gd e cd he => ?_))))
  obtain ⟨oe,h3,h4⟩ := he
  have hzd : IsZip gd z TI TO .ellipsis := cd _ _ (Ne.symm z2.1) (cc.extBut _ _ (Ne.symm ap.oz) (cb.extBut _ _ (Ne.symm z1.1) ca))
  have hez : e ≠ z := fun x => by rw [x,hzd] at h3; cases h3; simp at h4
  exact wpAny_setField_rec hzd (by simp) fun ge _ ce => q ge e tb (fun c o n n1 n2 n3 x => ce.extBut _ _ n (cd _ _ n3 (kc c o n n2 n1 x))) ⟨oe,ce.extBut _ _ hez h3,h4⟩
theorem zipPy {Q : Option Value -> Shared -> Prop} (D1 : Draws prog w A.in1 i1 f1 n1 P1 S1) (D2 : Draws prog w A.in1 i2 f2 n2 P2 S2) (ap : Ap z TI TO i1 i2 f1 f2) (hz : IsZip s.heap z TI TO .none) (hI : IsPair s.heap TI (.ref i1) (.ref i2)) (hO : IsPair s.heap TO a b)
  (h1 : S1 k s.heap) (h2 : S2 k s.heap) (l1 : k < n1) (l2 : k < n2)
  (q : ∀ x y T g t',P1 k x -> P2 k y -> T = s.heap.objs.size -> IsZip g z TI TO (rawInt T) -> IsPair g TO x y -> S1 (k + 1) g -> S2 (k + 1) g -> IsPair g T x y -> (∀ c o,c ≠ z -> c ≠ TO -> c ≠ i1 -> c ≠ i2 -> s.heap.get? c = some o -> g.get? c = some o) -> Q (some (.ref T)) { s with heap := g,toks := t' }) :
  wpAny (model prog w) A (pyNext (.ref z)) Q E s := by
 have ty : s.TypeIs (.ref z) "zip" := ⟨_,hz,rfl⟩
 unfold pyNext
 exact wpAny_bind (wpAny_attempt (wpAny_callSpecial?_slot (name := Str.ofString "__next__") ty F.slot_zip_next (wpAny_call_entry F.slot_zip_next ty F.entry_zip_next (zipNext D1 D2 ap hz hI hO h1 h2 l1 l2 fun x y T g t' c1 c2 c3 c4 c5 c6 c7 c8 c9 => wpAny_pure (q x y T g t' c1 c2 c3 c4 c5 c6 c7 c8 c9)) (F.args_zip_next_1 _))))
theorem zipPyStop {Q : Option Value -> Shared -> Prop} (D1 : Draws prog w A.in1 i1 f1 n1 P1 S1) (D2 : Draws prog w A.in1 i2 f2 n2 P2 S2) (ap : Ap z TI TO i1 i2 f1 f2) (hz : IsZip s.heap z TI TO .none) (hI : IsPair s.heap TI (.ref i1) (.ref i2)) (hO : IsPair s.heap TO a b)
  (h1 : S1 k s.heap) (h2 : S2 k s.heap) (hk : k = n1 \/ (k < n1 /\ k = n2))
  (q : ∀ g t',(∀ c o,c ≠ z -> c ≠ TO -> c ≠ i1 -> c ≠ i2 -> s.heap.get? c = some o -> g.get? c = some o) -> Q none { s with heap := g,toks := t' }) : wpAny (model prog w) A (pyNext (.ref z)) Q E s := by
 have ty : s.TypeIs (.ref z) "zip" := ⟨_,hz,rfl⟩
 unfold pyNext
 refine wpAny_bind (wpAny_attempt (wpAny_callSpecial?_slot (name := Str.ofString "__next__") ty F.slot_zip_next (wpAny_call_entry F.slot_zip_next ty F.entry_zip_next (zipStop D1 D2 ap hz hI hO h1 h2 hk fun g e t' kp he => ?_) (F.args_zip_next_1 _))))
 obtain ⟨o,h3,h4⟩ := he
 exact wpAny_bind (wpAny_isInstance (T := "StopIteration") (b := true) ⟨o,h3,h4⟩ isSubtype_stop (wpAny_pure (q _ _ kp)))
end
end
def Itz (K : PySem.W.Frag) (a b : Addr) : It :=
  ⟨fun i H => ∃ xs ys,SqT K H a xs /\ SqL K H b ys /\ i < xs.length /\ i < ys.length,
   fun i H v H' => ∃ T,H T = none /\ v = .ref T /\ ∀ xs ys,SqT K H a xs -> SqL K H b ys -> ∃ x y,xs[i]? = some x /\ ys[i]? = some y /\ H' = upd H T (.tup [x,y]),
   fun i H => ∃ xs ys,SqT K H a xs /\ SqL K H b ys /\ (i = xs.length \/ (i < xs.length /\ i = ys.length))⟩
theorem Inv.turnedL {X : Cx} {pins : List (Addr × Obj)} {σ : St} {H : Hp} {s : Shared} {h' : Heap} {t' : Nat} {ch : List Addr} (I : Inv X pins σ H s) (k : ∀ b o,b ∉ ch -> s.heap.get? b = some o -> h'.get? b = some o) (hf : ∀ b ∈ ch,FpOk X pins H b) : Inv X pins σ H { s with heap := h',toks := t' } := by
 have nit : ∀ b u,H b = some u -> b ∉ ch := fun b u e z => by rw [(hf b z).1] at e; cases e
 refine I.step (g' := s.gens) (d' := s.drawn) (ch := ch) (fun b hb => ⟨(hf b hb).2.2.2.1,(hf b hb).2.1,(hf b hb).2.2.2.2.1,(hf b hb).2.2.2.2.2⟩) (fun b o _ _ hc e _ => k b o hc e) (fun b o _ _ hc e _ => ⟨o.slots,k b o hc e⟩) (fun _ _ _ _ n => n)
  (fun b o hc e => ⟨o,k b o hc e⟩) (fun _ _ e => e) (fun _ _ _ e => e) (fun b ps e => ⟨#[],by rw [e]; simp⟩) (fun m hm => ?_) (fun b u e => ?_) I.bare
 ·obtain ⟨o,es,ep,ho,r⟩ := hm
  exact ⟨o,es,ep,k _ o (fun z => (hf _ z).2.1 rfl) ho,r⟩
 ·refine (I.hok b u e).stay (fun c v hc q => k c v ?_ q) (fun _ q => q) fun _ _ q => q
  rcases hc with z | z
  ·rw [z]; exact nit b u e
  ·exact nit c _ z
def ZipSt (n a b : Nat) (i : Nat) (h : Heap) : Prop := IsZip h (n + 4) (n + 2) (n + 3) .none /\ IsPair h (n + 2) (.ref n) (.ref (n + 1)) /\ (∃ x y,IsPair h (n + 3) x y) /\ h.IsTupleIter n a i /\ h.IsListIter (n + 1) b i
theorem ap_new {n a b : Nat} (ha : a < n) (hb : b < n) : Ap (n + 4) (n + 2) (n + 3) n (n + 1) [n,a] [n + 1,b] where
 a1 := fun c hc => by
  have hc' : c = n \/ c = a := by simpa using hc
  rcases hc' with e | e <;> (subst e; exact ⟨by show (_ : Nat) ≠ _; omega,by show (_ : Nat) ≠ _; omega,by show (_ : Nat) ≠ _; omega⟩)
 a2 := fun c hc => by
  have hc' : c = n + 1 \/ c = b := by simpa using hc
  rcases hc' with e | e <;> (subst e; exact ⟨by show (_ : Nat) ≠ _; omega,by show (_ : Nat) ≠ _; omega,by show (_ : Nat) ≠ _; omega⟩)
 m1 := by simp
 m2 := by simp
 tz := by show (_ : Nat) ≠ _; omega
 tO := by show (_ : Nat) ≠ _; omega
 t1 := by show (_ : Nat) ≠ _; omega
 t2 := by show (_ : Nat) ≠ _; omega
 oz := by show (_ : Nat) ≠ _; omega
abbrev zo1 (h : Heap) (a : Addr) : Heap := h.push { cls := .type "tuple_iterator",data := .fields #[.ref a,.int 0 0] }
abbrev zo2 (h : Heap) (a b : Addr) : Heap := (zo1 h a).push { cls := .type "list_iterator",data := .fields #[.ref b,.int 0 0] }
abbrev zo3 (h : Heap) (a b : Addr) : Heap := (zo2 h a b).push { cls := .type "tuple",data := .seq #[.ref h.objs.size,.ref (zo1 h a).objs.size] }
abbrev zo4 (h : Heap) (a b : Addr) : Heap := (zo3 h a b).push { cls := .type "tuple",data := .seq #[.none,.none] }
abbrev zo5 (h : Heap) (a b : Addr) : Heap := (zo4 h a b).push { cls := .type "zip",data := .fields #[.none,.bool false,.bool false,.ref (zo2 h a b).objs.size,.ref (zo3 h a b).objs.size] }
def iZip (K : PySem.W.Frag) (ta : TA) : TI := fun σ H R => ta σ H fun vs H1 => ∃ a b,vs = [.ref a,.ref b] /\ (∃ xs,SqT K H1 a xs) /\ (∃ ys,SqL K H1 b ys) /\ R (Itz K a b) H1
theorem bt_zip : bootBuiltins "zip" = some (.type "zip") := by decide +kernel
end L2
namespace K11
open PySem PySem.Spec PyProof.Rows L2 GM
def top (i : Nat) : Stmt := PySem.Challenge.pw_phialhouse_k11_books_written.main.body.getD i (.Pass ⟨0,0,0,0⟩)
abbrev sGcd : Stmt := top 6
abbrev sLow : Stmt := top 7
abbrev sShown : Stmt := top 8
abbrev sRf : Stmt := top 9
abbrev sRa : Stmt := top 10
abbrev sShB : Stmt := top 12
abbrev sShRec : Stmt := top 13
abbrev sShRow : Stmt := top 14
abbrev sShP : Stmt := top 15
abbrev sIsWare : Stmt := top 19
abbrev sBook : Stmt := top 27
abbrev sKindOf : Stmt := top 28
abbrev sEntry : Stmt := top 29
abbrev sAon : Stmt := top 30
abbrev sName : Stmt := top 31
abbrev sApart : Stmt := top 32
abbrev sRecipe : Stmt := top 33
abbrev sRow : Stmt := top 34
abbrev sParts : Stmt := top 35
abbrev sShare : Stmt := top 36
abbrev sRowAm : Stmt := top 37
abbrev sNumber : Stmt := top 38
abbrev sCell : Stmt := top 40
abbrev sLeft : Stmt := top 41
abbrev sNext : Stmt := top 42
abbrev sDiv : Stmt := top 43
abbrev sLlow : Stmt := top 44
abbrev sNames : Stmt := top 45
abbrev sLam : Stmt := top 46
abbrev sLparts : Stmt := top 47
abbrev sFilled : Stmt := top 48
abbrev sLrow : Stmt := top 49
abbrev sBehind : Stmt := top 50
abbrev sLower : Stmt := top 51
abbrev sLrecs : Stmt := top 52
abbrev sLapart : Stmt := top 53
abbrev sBegun : Stmt := top 54
abbrev sLbook : Stmt := top 55
abbrev sWhole : Stmt := top 56
abbrev sAmT : Stmt := top 57
abbrev sRowT : Stmt := top 58
abbrev sLines : Stmt := top 59
abbrev sSame : Stmt := top 60
abbrev sLaw : Stmt := top 61
def spGcd : Sp := fun vs H Q _ => ∃ a b : Int,vs = [.int a,.int b] /\ 0 <= a /\ 0 <= b /\ Q (.int (G a b)) H
def spLow : Sp := fun vs H Q _ => ∃ t b : Int,vs = [.int t,.int b] /\ 0 <= t /\ 1 <= b /\ Bt 9000 b /\ RetT H Q [t / G t b,b / G t b]
section
variable {P : Program} {w : World} {K : PySem.W.Frag} {mg : Str -> Option Value} {base : Heap}
theorem gcd_turn {a0 b0 a b : Int} (e : G a b = G a0 b0) (hb : 0 <= b) (h : ¬ b = 0) : 0 <= a % b /\ G b (a % b) = G a0 b0 := ⟨Int.emod_nonneg a h,by rw [G_step]; exact e⟩
theorem scGcd : FnScope ["one","other","rest"] ["one","other"] (defScope sGcd) := ⟨rfl,rfl,rfl,by decide +kernel,rfl,by decide +kernel,by decide +kernel⟩
theorem ok_gcd {f : Addr} {fd : FuncData} (F : Fun K "common_divisor" "common_divisor" sGcd f fd) : FnOk P w K mg base CX0 1 f fd ["one","other"] spGcd := by
 refine F.ok scGcd (fun vs H Q E h => ?_) (fun cdv A outer s H vs Q E hr h => ?_)
 ·obtain ⟨a,b,rfl,_⟩ := h
  rfl
 ·obtain ⟨a,b,rfl,ha,hb,k⟩ := h
  refine ⟨_,pss_cons (ps_while PassesOwn.never (pt_cmpR op_ne (pv 1) pe_int (nomark _))
   (pss_cons (ps_set (i := 2) scGcd.nd rfl (Or.inl rfl) (pe_op op_mod (pv 0) (pv 1)))
   (pss_cons (ps_set (i := 0) scGcd.nd rfl (Or.inl rfl) (pv 1))
   (pss_one (ps_set (i := 1) scGcd.nd rfl (Or.inl rfl) (pv 2))))))
   (pss_one (ps_ret (pv 0))),?_⟩
  refine while_by (fun σ H' => H' = H /\ ∃ (x y : Int) (r : Option V),σ = [some (.int x),some (.int y),r] /\ 0 <= x /\ 0 <= y /\ G x y = G a b) (fun σ _ => match σ with | [_,some (.int y),_] => y.toNat | _ => 0) ⟨rfl,a,b,none,rfl,ha,hb,rfl⟩ ?_ ?_
  ·rintro σ H' ⟨rfl,x,y,r,rfl,hx,hy,e⟩
   refine ⟨_,rfl,rfl,_,rfl,?_⟩
   refine ite2 (fun hc => ?_) (fun hc => ?_)
   ·have hy0 : ¬ y = 0 := by
     intro z
     subst z
     simp at hc
    have t := gcd_turn e hy hy0
    refine ⟨_,rfl,_,rfl,_,_,rfl,rfl,(by show 0 < y; omega),_,rfl,_,rfl,⟨rfl,y,x % y,_,rfl,hy,t.1,t.2⟩,?_⟩
    have := Int.emod_lt_of_pos x (show 0 < y by omega)
    have := t.1
    show (x % y).toNat < y.toNat
    omega
   ·have hy0 : y = 0 := by
     by_cases z : y = 0
     ·exact z
     ·exfalso
      apply hc
      simp [z]
    subst hy0
    rw [G_zero hx] at e
    exact ⟨_,rfl,by rw [e]; exact k⟩
  ·rintro σ H' Q1 Q2 hq ⟨v,e,z,q⟩
   exact ⟨v,e,z,by obtain ⟨k,e,q⟩ := q; exact ⟨k,e,hq _ _ q⟩⟩
theorem scLow : FnScope ["top","bottom","divisor"] ["top","bottom"] (defScope sLow) := ⟨rfl,rfl,rfl,by decide +kernel,rfl,by decide +kernel,by decide +kernel⟩
theorem low_small {t b : Int} (h1 : 1 <= b) (hs : Bt 9000 b) : 0 < G t b /\ Bt 9000 (G t b) := by
 have p := G_pos (a := t) (b := b) (by omega)
 exact ⟨p,hs.le (by omega) (G_le_r (by omega))⟩
theorem ok_low {f : Addr} {fd : FuncData} (F : Fun K "lowest_terms" "lowest_terms" sLow f fd) (cG : Cal P w K mg base CX0 1 "common_divisor" ["one","other"] spGcd) : FnOk P w K mg base CX0 2 f fd ["top","bottom"] spLow := by
 refine F.ok scLow (fun vs H Q E h => ?_) (fun cdv A outer s H vs Q E hr h => ?_)
 ·obtain ⟨a,b,rfl,_⟩ := h
  rfl
 ·obtain ⟨t,b,rfl,ht,hb,hs,k⟩ := h
  refine ⟨_,pss_cons (ps_set (i := 2) scLow.nd rfl (Or.inl rfl) (pe_cal cG hr rfl pass0 (pa_cons (pv 0) (pa_cons (pv 1) pa_nil))))
   (pss_one (ps_ret (pe_tup (pa_cons (pe_op op_fdivB (pv 0) (pv 2)) (pa_cons (pe_op op_fdivB (pv 1) (pv 2)) pa_nil))))),?_⟩
  refine ⟨_,rfl,_,rfl,t,b,rfl,ht,by omega,?_⟩
  have g := low_small (t := t) hb hs
  refine ⟨_,rfl,_,rfl,_,_,rfl,rfl,g,_,rfl,_,rfl,_,_,rfl,rfl,g,(by show 2 <= sizeLine; decide),fun p hp => ?_⟩
  exact k p _ (Same.upd hp) upd_same
theorem b6 {n : Nat} {x : Int} (h : Bt n x) (hn : n <= 1000000 := by decide) : Bt 1000000 x := h.mono hn
end
theorem bt_lt (n : Nat) {x c : Int} (h0 : 0 <= x) (h : x < c) (hc : c <= ((2 ^ n : Nat) : Int) := by decide +kernel) : Bt n x := by
 show x.natAbs < 2 ^ n
 omega
theorem emod_in (x : Int) {m : Int} (h : 0 < m) : 0 <= x % m /\ x % m < m := ⟨Int.emod_nonneg x (by omega),Int.emod_lt_of_pos x h⟩
def spWhole : Sp := fun vs H Q _ => ∃ n : Int,vs = [.int n] /\ Q (.bl true) H
structure Txt (mg : Str -> Option Value) : Prop where
 isi : mg "isinstance" = none
 int' : mg "int" = none
 bool' : mg "bool" = none
 str' : mg "str" = none
 list' : mg "list" = none
 tup' : mg "tuple" = none
 len : mg "len" = none
 any' : mg "any" = none
 all' : mg "all" = none
 range : mg "range" = none
 min' : mg "min" = none
 abs' : mg "abs" = none
 enum' : mg "enumerate" = none
 zip' : mg "zip" = none
 val : mg "ValueError" = none
 max' : mg "max" = none
section
variable {P : Program} {w : World} {K : PySem.W.Frag} {mg : Str -> Option Value} {base : Heap}
theorem scDiv : FnScope ["_law_one","_law_other"] ["_law_one","_law_other"] (defScope sDiv) := ⟨rfl,rfl,rfl,by decide +kernel,rfl,by decide +kernel,by decide +kernel⟩
theorem ok_div {f : Addr} {fd : FuncData} (F : Fun K "_law_divisor" "_law_divisor" sDiv f fd) : FnOk P w K mg base CX0 1 f fd ["_law_one","_law_other"] spGcd := by
 refine F.ok scDiv (fun vs H Q E h => ?_) (fun cdv A outer s H vs Q E hr h => ?_)
 ·obtain ⟨a,b,rfl,_⟩ := h
  rfl
 ·obtain ⟨a,b,rfl,ha,hb,k⟩ := h
  refine ⟨_,pss_cons (ps_while PassesOwn.never (pt_cmpR op_gt (pv 1) pe_int (nomark _))
   (pss_one (ps_par (i := 0) (j := 1) rfl scDiv.nd rfl rfl (by decide) rfl rfl (pa_cons (pv 1) (pa_cons (pe_op op_mod (pv 0) (pv 1)) pa_nil)) rfl)))
   (pss_one (ps_ret (pv 0))),?_⟩
  refine while_by (fun σ H' => H' = H /\ ∃ (x y : Int),σ = [some (.int x),some (.int y)] /\ 0 <= x /\ 0 <= y /\ G x y = G a b) (fun σ _ => match σ with | [_,some (.int y)] => y.toNat | _ => 0) ⟨rfl,a,b,rfl,ha,hb,rfl⟩ ?_ ?_
  ·rintro σ H' ⟨rfl,x,y,rfl,hx,hy,e⟩
   refine ⟨_,rfl,_,_,rfl,rfl,_,rfl,?_⟩
   refine ite2 (fun hc => ?_) (fun hc => ?_)
   ·have hy0 : 0 < y := of_decide_eq_true hc
    have t := gcd_turn e hy (by omega)
    refine ⟨_,rfl,_,rfl,_,rfl,_,_,rfl,rfl,(by show 0 < y; omega),_,_,rfl,⟨rfl,y,x % y,rfl,hy,t.1,t.2⟩,?_⟩
    have := Int.emod_lt_of_pos x (show 0 < y by omega)
    have := t.1
    show (x % y).toNat < y.toNat
    omega
   ·have hy0 : y = 0 := by
     have : ¬ 0 < y := fun z => hc (decide_eq_true z)
     omega
    subst hy0
    rw [G_zero hx] at e
    exact ⟨_,rfl,by rw [e]; exact k⟩
  ·rintro σ H' Q1 Q2 hq ⟨v,e,i,j,e1,e2,z,ez,q⟩
   exact ⟨v,e,i,j,e1,e2,z,ez,hq _ _ q⟩
theorem scLlow : FnScope ["_law_top","_law_bottom","_law_by"] ["_law_top","_law_bottom"] (defScope sLlow) := ⟨rfl,rfl,rfl,by decide +kernel,rfl,by decide +kernel,by decide +kernel⟩
theorem ok_llow {f : Addr} {fd : FuncData} (F : Fun K "_law_low" "_law_low" sLlow f fd) (cG : Cal P w K mg base CX0 1 "_law_divisor" ["_law_one","_law_other"] spGcd) : FnOk P w K mg base CX0 2 f fd ["_law_top","_law_bottom"] spLow := by
 refine F.ok scLlow (fun vs H Q E h => ?_) (fun cdv A outer s H vs Q E hr h => ?_)
 ·obtain ⟨a,b,rfl,_⟩ := h
  rfl
 ·obtain ⟨t,b,rfl,ht,hb,hs,k⟩ := h
  refine ⟨_,pss_cons (ps_set (i := 2) scLlow.nd rfl (Or.inl rfl) (pe_cal cG hr rfl pass0 (pa_cons (pv 0) (pa_cons (pv 1) pa_nil))))
   (pss_one (ps_ret (pe_tup (pa_cons (pe_op op_fdivB (pv 0) (pv 2)) (pa_cons (pe_op op_fdivB (pv 1) (pv 2)) pa_nil))))),?_⟩
  refine ⟨_,rfl,_,rfl,t,b,rfl,ht,by omega,?_⟩
  have g := low_small (t := t) hb hs
  refine ⟨_,rfl,_,rfl,_,_,rfl,rfl,g,_,rfl,_,rfl,_,_,rfl,rfl,g,(by show 2 <= sizeLine; decide),fun p hp => ?_⟩
  exact k p _ (Same.upd hp) upd_same
theorem bt_int : bootBuiltins "int" = some (.type "int") := by decide +kernel
theorem bt_bool : bootBuiltins "bool" = some (.type "bool") := by decide +kernel
theorem bt_tuple : bootBuiltins "tuple" = some (.type "tuple") := by decide +kernel
theorem scWhole : FnScope ["_law_found"] ["_law_found"] (defScope sWhole) := ⟨rfl,rfl,rfl,by decide +kernel,rfl,by decide +kernel,by decide +kernel⟩
theorem ok_whole {f : Addr} {fd : FuncData} (F : Fun K "_law_whole" "_law_whole" sWhole f fd) (T : Txt mg) : FnOk P w K mg base CX0 1 f fd ["_law_found"] spWhole := by
 refine F.ok scWhole (fun vs H Q E h => ?_) (fun cdv A outer s H vs Q E hr h => ?_)
 ·obtain ⟨_,rfl,_⟩ := h
  rfl
 ·obtain ⟨n,rfl,k⟩ := h
  refine ⟨_,pss_one (ps_ret (pe_and (pe_callB call_isi rfl T.isi boot_isinstance (pa_cons (pv 0) (pa_cons (pe_bltn (v := .ty "int") rfl T.int' bt_int rfl) pa_nil)))
   (pe_one (pe_not (pe_callB call_isi rfl T.isi boot_isinstance (pa_cons (pv 0) (pa_cons (pe_bltn (v := .ty "bool") rfl T.bool' bt_bool rfl) pa_nil))))))),?_⟩
  refine ⟨_,rfl,_,"int",true,rfl,.int_int,_,rfl,iteT ?_⟩
  exact ⟨_,rfl,_,"bool",false,rfl,.int_bool,_,rfl,k⟩
theorem bt_str : bootBuiltins "str" = some (.type "str") := by decide +kernel
end
theorem bl {c : Int} (h0 : 0 <= c := by decide) (h : c < 18446744073709551616 := by decide) : Bt 1000000 c := b6 (bt_lt 64 h0 h)
theorem bk {c : Int} (h0 : 0 <= c := by decide) (h : c < 18446744073709551616 := by decide) : Bt 1000 c := (bt_lt 64 h0 h).mono (by decide)
end K11
namespace K11
open PySem PySem.Spec PyProof.Rows L2 GM TM
def SmB (a : Addr) (H H' : Hp) : Prop := ∀ b o,b ≠ a -> H b = some o -> H' b = some o
theorem SmB.refl {a : Addr} {H : Hp} : SmB a H H := fun _ _ _ h => h
theorem SmB.trans {a : Addr} {H H1 H2 : Hp} (h : SmB a H H1) (k : SmB a H1 H2) : SmB a H H2 := fun b o n e => k b o n (h b o n e)
theorem SmB.of {a : Addr} {H H' : Hp} (h : Same H H') : SmB a H H' := fun b o _ e => h b o e
theorem SmB.upd {a : Addr} {H : Hp} {o : HO} : SmB a H (upd H a o) := fun b u n e => by rw [upd_ne n]; exact e
theorem SmB.same {a : Addr} {H H' : Hp} (h : SmB a H H') (n : H a = none) : Same H H' := fun b o e => h b o (fun z => by rw [z,n] at e; cases e) e
def Lf (H : Hp) (a : Addr) : Prop := ∃ n fl : Int,H a = some (.lst [.int n,.int fl]) /\ 0 <= n /\ (fl = 0 \/ (fl = 1 /\ n < 2147483647))
theorem pick18 (k : Bool) : atI [V.int 1,V.int 8] (if k = true then 1 else 0) = some (V.int (if k = true then 8 else 1)) := by cases k <;> rfl
theorem pick8 (k : Bool) : -(2 ^ 62) <= (if k = true then (8 : Int) else 1) /\ (if k = true then (8 : Int) else 1) < 2 ^ 62 /\ (if k = true then (8 : Int) else 1).toNat <= 8 := by cases k <;> decide
def spCell (K : PySem.W.Frag) : Sp := fun vs H Q _ => ∃ (a : Addr) (ns : List Int) (k : Int),vs = [.ref a,.int k] /\ SqL K H a (ns.map V.int) /\ 0 <= k /\ ∀ c : Int,Q (.int c) H
def spLeft (K : PySem.W.Frag) : Sp := fun vs H Q _ => ∃ (a : Addr) (ns : List Int) (k : Int),vs = [.ref a,.int k] /\ SqL K H a (ns.map V.int) /\ 0 <= k /\ k <= 63 /\ ∀ p H',Same H H' -> H p = none -> Lf H' p -> Q (.ref p) H'
def spNext : Sp := fun vs H Q _ => ∃ (a : Addr) (m : Int),vs = [.ref a,.int m] /\ Lf H a /\ 1 <= m /\ Bt 9000 m /\ ∀ (d : Int) H',0 <= d -> d < m -> SmB a H H' -> Lf H' a -> Q (.int d) H'
section
variable {P : Program} {w : World} {K : PySem.W.Frag} {mg : Str -> Option Value} {base : Heap}
theorem scCell : FnScope ["_law_script","_law_k"] ["_law_script","_law_k"] (defScope sCell) := ⟨rfl,rfl,rfl,by decide +kernel,rfl,by decide +kernel,by decide +kernel⟩
theorem ok_cell {f : Addr} {fd : FuncData} (F : Fun K "_law_cell_at" "_law_cell_at" sCell f fd) (T : Txt mg) : FnOk P w K mg base CX0 1 f fd ["_law_script","_law_k"] (spCell K) := by
 refine F.ok scCell (fun vs H Q E h => ?_) (fun cdv A outer s H vs Q E hr h => ?_)
 ·obtain ⟨_,_,_,rfl,_⟩ := h
  rfl
 ·obtain ⟨a,ns,j,rfl,hS,h0,k⟩ := h
  refine ⟨_,(pss_cons (ps_if (pt_cmpR op_lt (pv 1) (pe_callB call_len_seq rfl T.len PySem.boot_len (pa_cons (pv 0) pa_nil)) (nomark _))
    (pss_one (ps_ret (pe_ix ix_list (pv 0) (pv 1) (fun _ _ => rfl))))
    pss_nil)
   (pss_one (ps_ret pe_int))),?_⟩
  refine ⟨_,rfl,_,rfl,a,_,rfl,.inl hS,_,_,rfl,rfl,_,rfl,ite2 (fun hc => ?_) (fun _ => k _)⟩
  have hc' : j < ((ns.map V.int).length : Int) := of_decide_eq_true hc
  rw [List.length_map] at hc'
  obtain ⟨i,rfl⟩ := Int.eq_ofNat_of_zero_le h0
  obtain ⟨c,hc⟩ : ∃ c,ns[i]? = some c := ⟨_,List.getElem?_eq_getElem (show i < ns.length by omega)⟩
  exact ⟨_,rfl,_,rfl,a,_,(i : Int),.int c,rfl,rfl,hS,atI_nat (by rw [List.getElem?_map,hc]; rfl),k c⟩
theorem bt_abs : bootBuiltins "abs" = some (.builtin "abs") := by decide +kernel
theorem scLeft : FnScope ["_law_script","_law_k","_law_cell","_law_number"] ["_law_script","_law_k"] (defScope sLeft) := ⟨rfl,rfl,rfl,by decide +kernel,rfl,by decide +kernel,by decide +kernel⟩
theorem ok_left {f : Addr} {fd : FuncData} (F : Fun K "_law_left" "_law_left" sLeft f fd) (T : Txt mg) (cC : Cal P w K mg base CX0 1 "_law_cell_at" ["_law_script","_law_k"] (spCell K)) : FnOk P w K mg base CX0 2 f fd ["_law_script","_law_k"] (spLeft K) := by
 refine F.ok scLeft (fun vs H Q E h => ?_) (fun cdv A outer s H vs Q E hr h => ?_)
 ·obtain ⟨_,_,_,rfl,_⟩ := h
  rfl
 ·obtain ⟨a,ns,j,rfl,hS,h0,h63,k⟩ := h
  refine ⟨_,(pss_cons (ps_set (i := 2) scLeft.nd rfl (Or.inl rfl) (pe_callB call_abs rfl T.abs' bt_abs (pa_cons (pe_cal cC hr rfl pass0 (pa_cons (pv 0) (pa_cons (pv 1) pa_nil))) pa_nil)))
   (pss_cons (ps_if (pt_cmpR op_eq (pe_op op_mod (pe_cal cC hr rfl pass0 (pa_cons (pv 0) (pa_cons pe_int pa_nil))) pe_int) pe_int (nomark _))
    (pss_one (ps_ret (pe_lst (pa_cons (pe_op op_fdivB (pv 2) (pe_op op_add pe_int (pe_callTy call_int1 rfl T.int' bt_int (pa_cons (pe_cmpR op_eq (pv 1) pe_int (nomark _)) pa_nil)))) (pa_cons pe_int pa_nil)))))
    pss_nil)
   (pss_cons (ps_set (i := 3) scLeft.nd rfl (Or.inl rfl) (pe_op op_mod (pe_op op_mulB (pe_op op_add (pe_op op_add (pe_op op_mod (pv 2) pe_int) (pe_op op_mulB (pe_op op_mulB pe_int (pv 1)) (pv 1))) pe_int) pe_int) pe_int))
   (pss_one (ps_ret (pe_lst (pa_cons (pe_op op_add (pe_op op_mod (pe_op op_mulB (pv 3) pe_int) pe_int) pe_int) (pa_cons pe_int pa_nil)))))))),?_⟩
  refine ⟨_,rfl,_,rfl,a,ns,j,rfl,hS,h0,fun c => ⟨c,rfl,?_⟩⟩
  have ha : 0 <= (if c < 0 then -c else c) := by split <;> omega
  generalize (if c < 0 then -c else c) = n at *
  refine ⟨_,rfl,a,ns,0,rfl,hS,by decide,fun c' => ⟨_,_,rfl,rfl,(by show (0 : Int) < 2; decide),rfl,_,rfl,ite2 (fun _ => ?_) (fun _ => ?_)⟩⟩
  ·refine ⟨_,rfl,_,rfl,rfl,.inr ⟨_,rfl,_,_,rfl,rfl,_,_,rfl,rfl,⟨?_,?_⟩,(by show 2 <= sizeLine; decide),fun z hz => ?_⟩⟩
   ·split <;> decide
   ·split <;> exact (bt_lt 64 (c := 4) (by decide) (by decide)).mono (by decide)
   ·refine k z _ (Same.upd hz) hz ⟨_,0,upd_same,Int.ediv_nonneg ha ?_,.inl rfl⟩
    split <;> decide
  ·have bj : Bt 6 j := bt_lt 6 (c := 64) h0 (by omega)
   have p1 : Bt 70 (7919 * j) := (bt_lt 64 (x := 7919) (c := 7920) (by decide) (by decide)).mul bj
   have e1 := emod_in n (show (0 : Int) < 2147483647 by decide)
   have bs : Bt 1000000 (n % 2147483647 + 7919 * j * j + 1) := b6 ((((bt_lt 76 e1.1 e1.2).add (p1.mul bj)).add (bt_lt 77 (c := 2) (by decide) (by decide))))
   refine ⟨_,rfl,_,_,rfl,rfl,(by show (0 : Int) < 2147483647; decide),_,rfl,_,_,rfl,rfl,⟨bl,b6 bj⟩,_,rfl,_,_,rfl,rfl,⟨b6 p1,b6 bj⟩,_,_,rfl,rfl,_,_,rfl,rfl,_,_,rfl,rfl,⟨bs,bl⟩,_,_,rfl,rfl,(by show (0 : Int) < 2147483647; decide),?_⟩
   have e2 := emod_in ((n % 2147483647 + 7919 * j * j + 1) * 48271) (show (0 : Int) < 2147483647 by decide)
   refine ⟨_,rfl,_,_,rfl,rfl,⟨b6 (bt_lt 64 e2.1 e2.2),bl⟩,_,_,rfl,rfl,(by show (0 : Int) < 2147483629; decide),_,_,rfl,rfl,(by show 2 <= sizeLine; decide),fun z hz => ?_⟩
   have e3 := emod_in ((n % 2147483647 + 7919 * j * j + 1) * 48271 % 2147483647 * 69621) (show (0 : Int) < 2147483629 by decide)
   exact k z _ (Same.upd hz) hz ⟨_,1,upd_same,by omega,.inr ⟨rfl,by omega⟩⟩
theorem scNext : FnScope ["_law_left_here","_law_many","_law_digit","_law_turn"] ["_law_left_here","_law_many"] (defScope sNext) := ⟨rfl,rfl,rfl,by decide +kernel,rfl,by decide +kernel,by decide +kernel⟩
theorem ok_next {f : Addr} {fd : FuncData} (F : Fun K "_law_next" "_law_next" sNext f fd) (T : Txt mg) : FnOk P w K mg base CX0 1 f fd ["_law_left_here","_law_many"] spNext := by
 refine F.ok scNext (fun vs H Q E h => ?_) (fun cdv A outer s H vs Q E hr h => ?_)
 ·obtain ⟨_,_,rfl,_⟩ := h
  rfl
 ·obtain ⟨a,m,rfl,⟨n,fl,ha,n0,hf⟩,m1,bm,k⟩ := h
  refine ⟨_,(pss_cons (ps_if (pt_cmpR op_eq (pe_ix ix_list (pv 0) pe_int (fun _ _ => rfl)) pe_int (nomark _))
    (pss_cons (ps_set (i := 2) scNext.nd rfl (Or.inl rfl) (pe_op op_mod (pe_ix ix_list (pv 0) pe_int (fun _ _ => rfl)) (pv 1)))
   (pss_cons (ps_asg (pe_op op_fdivB (pe_ix ix_list (pv 0) pe_int (fun _ _ => rfl)) (pv 1)) (pg_sub (pv 0) pe_int set_list))
   (pss_one (ps_ret (pv 2)))))
    pss_nil)
   (pss_cons (ps_set (i := 2) scNext.nd rfl (Or.inl rfl) pe_int)
   (pss_cons (ps_for PassesOwn.never rfl (pi_range1 rfl T.range (pa_cons (pe_ix ix_list (pe_lst (pa_cons pe_int (pa_cons pe_int pa_nil))) (pe_callTy call_int1 rfl T.int' bt_int (pa_cons (pe_cmpR op_gt (pv 1) (pe_op op_powB pe_int pe_int) (nomark _)) pa_nil)) (fun _ _ => rfl)) pa_nil)) (pg_name (i := 3) scNext.nd rfl (Or.inl rfl))
    (pss_cons (ps_asg (pe_op op_mod (pe_op op_mulB (pe_ix ix_list (pv 0) pe_int (fun _ _ => rfl)) pe_int) pe_int) (pg_sub (pv 0) pe_int set_list))
   (pss_one (ps_set (i := 2) scNext.nd rfl (Or.inl rfl) (pe_op op_add (pe_op op_mulB (pv 2) pe_int) (pe_op op_mod (pe_op op_mulB (pe_ix ix_list (pv 0) pe_int (fun _ _ => rfl)) pe_int) pe_int))))))
   (pss_one (ps_ret (pe_op op_mod (pv 2) (pv 1))))))),?_⟩
  refine ⟨_,rfl,a,_,1,.int fl,rfl,rfl,SqL.of ha,atI_nat (j := 1) rfl,rfl,_,rfl,ite2 (fun hc => ?_) (fun hc => ?_)⟩
  ·have hc' : fl = 0 := V.int.inj (of_decide_eq_true hc)
   refine ⟨_,rfl,a,_,0,.int n,rfl,rfl,SqL.of ha,atI_nat (j := 0) rfl,_,rfl,_,_,rfl,rfl,(by show 0 < m; omega),?_⟩
   refine ⟨_,rfl,a,_,0,.int n,rfl,rfl,SqL.of ha,atI_nat (j := 0) rfl,_,rfl,_,_,rfl,rfl,⟨by omega,bm⟩,_,rfl,a,_,0,0,rfl,rfl,ha,rfl,?_⟩
   have e := emod_in n (show (0 : Int) < m by omega)
   exact ⟨_,rfl,k _ _ e.1 e.2 SmB.upd ⟨_,fl,upd_same,Int.ediv_nonneg n0 (by omega),.inl hc'⟩⟩
  ·have hf' : fl = 1 /\ n < 2147483647 := hf.resolve_left fun z => hc (decide_eq_true (by rw [z]))
   obtain ⟨rfl,nl⟩ := hf'
   refine ⟨(by show 2 <= sizeLine; decide),fun z hz => ⟨_,rfl,_,_,rfl,rfl,⟨by decide,by decide,bk⟩,_,_,rfl,rfl,.inr ⟨_,rfl,z,_,_,_,rfl,rfl,SqL.of upd_same,pick18 _,_,rfl,(pick8 _).1,(pick8 _).2.1,?_⟩⟩⟩
   refine for_range (fun i σ H' => ∃ (d n' : Int) (t : Option V),σ = [some (.ref a),some (.int m),some (.int d),t] /\ 0 <= d /\ Bt (32 * i + 1) d /\ SmB a H H' /\ H' a = some (.lst [.int n',.int 1]) /\ 0 <= n' /\ n' < 2147483647)
    ⟨0,n,none,rfl,by decide,bt_lt 1 (c := 1) (by decide) (by decide),.of (Same.upd hz),(Same.upd hz) _ _ ha,n0,nl⟩ ?_ ?_
   ·rintro i σ H' hi ⟨d,n',t,rfl,d0,bd,sm,hA,a0,al⟩
    have hi8 := Nat.lt_of_lt_of_le hi (pick8 _).2.2
    have e1 := emod_in (n' * 16807) (show (0 : Int) < 2147483647 by decide)
    refine ⟨_,rfl,a,_,0,.int n',rfl,rfl,SqL.of hA,atI_nat (j := 0) rfl,_,_,rfl,rfl,⟨b6 (bt_lt 64 a0 al),bl⟩,_,_,rfl,rfl,(by show (0 : Int) < 2147483647; decide),_,rfl,a,_,0,0,rfl,rfl,hA,rfl,?_⟩
    have e2 := emod_in (n' * 16807 % 2147483647 * 40692) (show (0 : Int) < 2147483629 by decide)
    refine ⟨_,rfl,_,_,rfl,rfl,⟨b6 (bd.mono (show 32 * i + 1 <= 300 by omega)),bl⟩,_,rfl,a,_,0,.int (n' * 16807 % 2147483647),rfl,rfl,SqL.of upd_same,atI_nat (j := 0) rfl,_,_,rfl,rfl,⟨b6 (bt_lt 64 e1.1 e1.2),bl⟩,_,_,rfl,rfl,(by show (0 : Int) < 2147483629; decide),_,_,rfl,rfl,?_⟩
    refine ⟨_,_,_,rfl,?_,?_,sm.trans SmB.upd,upd_same,e1.1,e1.2⟩
    ·have := Int.mul_nonneg d0 (show (0 : Int) <= 2147483629 by decide)
     omega
    ·have b1 : Bt (32 * i + 32) (d * 2147483629) := (bd.mul (bt_lt 31 (x := 2147483629) (c := 2147483630) (by decide) (by decide))).mono (by omega)
     exact (b1.add ((bt_lt 31 e2.1 e2.2).mono (by omega))).mono (by omega)
   ·rintro σ H' ⟨d,n',t,rfl,d0,bd,sm,hA,a0,al⟩
    have e := emod_in d (show (0 : Int) < m by omega)
    exact ⟨_,rfl,_,rfl,_,_,rfl,rfl,(by show 0 < m; omega),k _ _ e.1 e.2 sm ⟨n',1,hA,a0,.inr ⟨rfl,al⟩⟩⟩
end
end K11
namespace L2
open PySem PySem.Spec PyProof.Rows PySem.W
section
variable {X : Cx}
theorem mt_find : MtR X "str.find" (fun z vs H Q => ∃ x y,z = .str x /\ vs = [.str y] /\ Q (.int (Txt.find x y)) H) := by
 intro pins s σ H z vs v us Q I rx rv h
 obtain ⟨x,y,rfl,rfl,q⟩ := h
 obtain ⟨t,rfl⟩ := rx
 obtain ⟨u,rfl,tu,rfl⟩ := rv.one
 refine call_gives PySem.F.slot_str_find (typeIs_str _ _ _) PySem.F.entry_str_find (PySem.F.args_str_find_2 _ _) (gives_str_find x y t tu) ?_
 exact ⟨.int _,H,I.tok _,⟨_,rfl⟩,q⟩
end
end L2
namespace TM
open PySem PySem.Spec PyProof.Rows PySem.W
theorem pigeon {α : Type} [BEq α] [LawfulBEq α] (f : Nat -> α) : ∀ (j : Nat) (l : List α),(∀ i,i < j -> f i ∈ l) -> (∀ i k,i < j -> k < j -> f i = f k -> i = k) -> j <= l.length := by
 intro j
 induction j with
 | zero =>
  intro l _ _
  exact Nat.zero_le _
 | succ j ih =>
  intro l hm hi
  have h1 := hm j (Nat.lt_succ_self _)
  have := ih (l.erase (f j)) (fun i hij => (List.mem_erase_of_ne (fun e => by
   have := hi i j (by omega) (by omega) e
   omega)).mpr (hm i (by omega))) (fun i k a b e => hi i k (by omega) (by omega) e)
  rw [List.length_erase_of_mem h1] at this
  have : 0 < l.length := List.length_pos_of_mem h1
  omega
def rd (c j : Nat) : Nat := 97 + (c - 97 + j) % 26
theorem rd_in (c j : Nat) : 97 <= rd c j /\ rd c j <= 122 := by
 unfold rd
 omega
theorem rd_zero {c : Nat} (h : 97 <= c /\ c <= 122) : rd c 0 = c := by
 unfold rd
 omega
theorem rd_next (c j : Nat) : rd (rd c j) 1 = rd c (j + 1) := by
 unfold rd
 omega
theorem rd_inj {c i k : Nat} (hi : i < 26) (hk : k < 26) (e : rd c i = rd c k) : i = k := by
 unfold rd at e
 omega
abbrev LET : Str := "abcdefghijklmnopqrstuvwxyz"
theorem find_let {c : Nat} (h : 97 <= c /\ c <= 122) : Txt.find LET ⟨#[c]⟩ = ((c - 97 : Nat) : Int) := by
 have all : ∀ k : Fin 26,Txt.find LET ⟨#[97 + k.val]⟩ = ((k.val : Nat) : Int) := by decide +kernel
 have := all ⟨c - 97,by omega⟩
 simp only at this
 rw [show 97 + (c - 97) = c by omega] at this
 exact this
theorem at_let {j : Nat} (h : j < 26) : (cps LET)[j]? = some (97 + j) := by
 have all : ∀ k : Fin 26,(cps LET)[k.val]? = some (97 + k.val) := by decide +kernel
 exact all ⟨j,h⟩
end TM
namespace K11
open PySem PySem.Spec PyProof.Rows L2 GM TM
def T60 : Int := 1000000000000000000000000000000000000000000000000000000000000
theorem Lf.keep {H H' : Hp} {a : Addr} (h : Lf H a) (s : Same H H') : Lf H' a := by
 obtain ⟨n,fl,e,r⟩ := h
 exact ⟨n,fl,s _ _ e,r⟩
theorem lenC (x : Str) : x.length = (cps x).length := by simp [Str.length,cps]
theorem lenA (x y : Str) : (x ++ y).length = x.length + y.length := by rw [lenC,cps_append',List.length_append,<- lenC,<- lenC]
theorem sz1000 {n : Nat} (h : n <= 1000) : n <= sizeLine := Nat.le_trans h (by decide)
theorem slice_tail {x : Str} (h : 1 <= x.length) : cps (Txt.slice x (some 1) none) = (cps x).drop 1 := by
 have e : Txt.slice x (some 1) none = StrLaws.sliceText x (some 1) none := rfl
 rw [e,StrLaws.sliceText_from ⟨by decide,by rw [<- lenC]; omega⟩]
 simp [cps]
 exact List.take_of_length_le (by simp)
structure Wr (x : Str) : Prop where
 l1 : 1 <= x.length
 l8 : x.length <= 8
 lt : ∀ c ∈ cps x,97 <= c /\ c <= 122
theorem in_strs {x : Str} {ws : List Str} : inV (.str x) (ws.map V.str) = true ↔ x ∈ ws := by
 unfold inV
 rw [List.any_map,List.any_eq_true]
 constructor
 ·rintro ⟨y,hy,e⟩
  have : y = x := by simpa [eqV] using e
  exact this ▸ hy
 ·intro h
  exact ⟨x,h,by simp [eqV]⟩
theorem flat_strs (ws : List Str) : (ws.map V.str).all flatV = true := by
 rw [List.all_map,List.all_eq_true]
 intro x _
 rfl
theorem wide_in (j : Nat) (h : j < 4) : ∃ m : Int,([V.int 26,V.int 2,V.int 26,V.int 3])[j]? = some (V.int m) /\ 1 <= m /\ m <= 26 := by
 have : j = 0 \/ j = 1 \/ j = 2 \/ j = 3 := by omega
 rcases this with rfl | rfl | rfl | rfl
 ·exact ⟨26,rfl,by decide,by decide⟩
 ·exact ⟨2,rfl,by decide,by decide⟩
 ·exact ⟨26,rfl,by decide,by decide⟩
 ·exact ⟨3,rfl,by decide,by decide⟩
theorem SmB.own {a p : Addr} {H H' : Hp} {o : HO} (h : SmB a H H') (n : H p = none) : SmB a H (L2.upd H' p o) := fun b u nb e => by
 have ne : b ≠ p := fun z => by rw [z,n] at e; cases e
 rw [upd_ne ne]
 exact h b u nb e
theorem Lf.there {H : Hp} {a b : Addr} (h : Lf H a) (n : H b = none) : b ≠ a := fun z => by
 obtain ⟨_,_,e,_⟩ := h
 rw [<- z,n] at e
 cases e
theorem Lf.own {H : Hp} {a p : Addr} {o : HO} (h : Lf H a) (n : p ≠ a) : Lf (upd H p o) a := by
 obtain ⟨m,fl,e,r⟩ := h
 exact ⟨m,fl,by rw [upd_ne (Ne.symm n)]; exact e,r⟩
theorem nodup_snoc {ws : List Str} {x : Str} (h : ws.Nodup) (n : x ∉ ws) : (ws ++ [x]).Nodup := by
 rw [List.nodup_append]
 refine ⟨h,by simp,fun y hy z hz e => ?_⟩
 rw [List.mem_singleton.mp hz] at e
 exact n (e ▸ hy)
def spNames : Sp := fun vs H Q _ => ∃ (a : Addr) (m : Int),vs = [.ref a,.int m] /\ Lf H a /\ 0 <= m /\ m <= 26 /\ ∀ (ws : List Str) p H',(ws.length : Int) = m -> ws.Nodup -> (∀ x ∈ ws,Wr x) -> SmB a H H' -> Lf H' a -> H p = none -> H' p = some (.lst (ws.map V.str)) -> Q (.ref p) H'
section
variable {P : Program} {w : World} {K : PySem.W.Frag} {mg : Str -> Option Value} {base : Heap}
theorem scNames : FnScope ["_law_left_here","_law_many","_law_letters","_law_wide","_law_names_here","_law_k","_law_word","_law_j"] ["_law_left_here","_law_many"] (defScope sNames) := ⟨rfl,rfl,rfl,by decide +kernel,rfl,by decide +kernel,by decide +kernel⟩
theorem ok_names {f : Addr} {fd : FuncData} (F : Fun K "_law_names" "_law_names" sNames f fd) (T : Txt mg) (cN : Cal P w K mg base CX0 1 "_law_next" ["_law_left_here","_law_many"] spNext) : FnOk P w K mg base CX0 2 f fd ["_law_left_here","_law_many"] spNames := by
 refine F.ok scNames (fun vs H Q E h => ?_) (fun cdv A outer s H vs Q E hr h => ?_)
 ·obtain ⟨_,_,rfl,_⟩ := h
  rfl
 ·obtain ⟨a,m,rfl,lf,m0,m20,k⟩ := h
  refine ⟨_,(pss_cons (ps_set (i := 2) scNames.nd rfl (Or.inl rfl) pe_str)
   (pss_cons (ps_set (i := 3) scNames.nd rfl (Or.inl rfl) (pe_ix ix_list (pe_lst (pa_cons pe_int (pa_cons pe_int (pa_cons pe_int (pa_cons pe_int pa_nil))))) (pe_cal cN hr rfl pass0 (pa_cons (pv 0) (pa_cons pe_int pa_nil))) (fun _ _ => rfl)))
   (pss_cons (ps_set (i := 4) scNames.nd rfl (Or.inl rfl) (pe_lst pa_nil))
   (pss_cons (ps_for PassesOwn.never rfl (pi_range1 rfl T.range (pa_cons (pv 1) pa_nil)) (pg_name (i := 5) scNames.nd rfl (Or.inl rfl))
    (pss_cons (ps_set (i := 6) scNames.nd rfl (Or.inl rfl) pe_str)
    (pss_cons (ps_for PassesOwn.never rfl (pi_range1 rfl T.range (pa_cons (pe_op op_add pe_int (pe_cal cN hr rfl pass0 (pa_cons (pv 0) (pa_cons pe_int pa_nil)))) pa_nil)) (pg_name (i := 7) scNames.nd rfl (Or.inl rfl))
     (pss_one (ps_set (i := 6) scNames.nd rfl (Or.inl rfl) (pe_op op_add_str (pv 6) (pe_ix ix_str (pv 2) (pe_cal cN hr rfl pass0 (pa_cons (pv 0) (pa_cons (pv 3) pa_nil))) (fun _ _ => rfl))))))
    (pss_cons (ps_while PassesOwn.never (pt_cmpR op_in_seq (pv 6) (pv 4) rfl)
     (pss_one (ps_set (i := 6) scNames.nd rfl (Or.inl rfl) (pe_op op_add_str (pe_ix ix_str (pv 2) (pe_op op_mod (pe_op op_add (pe_bm PySem.F.plainAttrs_str PySem.F.slot_str_find PySem.F.type_str_find mt_find (pv 2) (pa_cons (pe_ix ix_str (pv 6) pe_int (fun _ _ => rfl)) pa_nil)) pe_int) pe_int) (fun _ _ => rfl)) (pe_slice sl_str (pv 6) (po_some pe_int) po_none)))))
    (pss_one (ps_expr (pe_bm PySem.F.plainAttrs_list PySem.F.slot_list_append PySem.F.type_list_append mt_append (pv 4) (pa_cons (pv 6) pa_nil))))))))
   (pss_one (ps_ret (pv 4))))))),?_⟩
  have bs : ∀ {i : Int},0 <= i -> i < 100 -> Bt 9000 i := fun h0 h => bt_lt 9000 (c := 100) h0 h
  have zL : LET.length <= sizeLine := by decide +kernel
  refine ⟨(by show 4 <= sizeLine; decide),fun z hz => ⟨_,rfl,a,4,rfl,lf.keep (Same.upd hz),by decide,bs (by decide) (by decide),fun d H1 d0 dl s1 lf1 => ?_⟩⟩
  have za : z ≠ a := lf.there hz
  obtain ⟨dn,rfl⟩ := Int.eq_ofNat_of_zero_le d0
  obtain ⟨wd,hw,w1,w26⟩ := wide_in dn (by omega)
  refine ⟨z,_,(dn : Int),.int wd,rfl,rfl,SqL.of (s1 z _ za upd_same),atI_nat hw,(by show 0 <= sizeLine; decide),fun p hp => ?_⟩
  have pa : p ≠ a := lf1.there hp
  have s01 : SmB a H H1 := (SmB.of (Same.upd hz)).trans s1
  have pn : H p = none := by
   cases e : H p with
   | none => rfl
   | some o =>
    have := s01 p o pa e
    rw [hp] at this
    cases this
  refine ⟨_,rfl,m,rfl,by omega,by omega,?_⟩
  refine for_range (fun i σ H' => ∃ (ws : List Str) (v5 v6 v7 : Option V),σ = [some (.ref a),some (.int m),some (.str LET),some (.int wd),some (.ref p),v5,v6,v7] /\ ws.length = i /\ ws.Nodup /\ (∀ x ∈ ws,Wr x) /\ SmB a H H' /\ Lf H' a /\ H' p = some (.lst (ws.map V.str)))
   ⟨[],none,none,none,rfl,rfl,List.nodup_nil,(fun _ h => nomatch h),s01.own pn,lf1.own pa,upd_same⟩ ?_ ?_
  ·rintro i σ H2 hi ⟨ws,v5,v6,v7,rfl,wl,nd,wr,s2,lf2,hp2⟩
   refine ⟨_,rfl,a,8,rfl,lf2,by decide,bs (by decide) (by decide),fun e H3 e0 el s3 lf3 => ⟨_,_,rfl,rfl,1 + e,rfl,by omega,by omega,?_⟩⟩
   refine for_range (fun j σ H' => ∃ (x : Str) (v7 : Option V),σ = [some (.ref a),some (.int m),some (.str LET),some (.int wd),some (.ref p),some (.int (0 + i)),some (.str x),v7] /\ x.length = j /\ (∀ c ∈ cps x,97 <= c /\ c <= 122) /\ SmB a H H' /\ Lf H' a /\ H' p = some (.lst (ws.map V.str)))
    ⟨"",v7,rfl,rfl,(fun _ h => nomatch h),s2.trans s3,lf3,s3 _ _ pa hp2⟩ ?_ ?_
   ·rintro j σ H4 hj ⟨x,u7,rfl,xl,xc,s4,lf4,hp4⟩
    refine ⟨_,rfl,_,rfl,_,rfl,_,rfl,a,wd,rfl,lf4,w1,bs (by omega) (by omega),fun g H5 g0 gl s5 lf5 => ?_⟩
    obtain ⟨gn,rfl⟩ := Int.eq_ofNat_of_zero_le g0
    have lx : x.length <= 8 := by omega
    refine ⟨LET,(gn : Int),97 + gn,rfl,rfl,zL,atI_nat (at_let (by omega)),_,_,rfl,rfl,sz1000 (by show x.length + 1 <= 1000; omega),?_⟩
    refine ⟨_,_,rfl,?_,fun c hc => ?_,s4.trans s5,lf5,s5 _ _ pa hp4⟩
    ·rw [lenA,xl]
     rfl
    ·rw [cps_append'] at hc
     rcases List.mem_append.mp hc with h | h
     ·exact xc c h
     ·have : c = 97 + gn := by simpa [cps] using h
      omega
   ·rintro σ H4 ⟨x,u7,rfl,xl,xc,s4,lf4,hp4⟩
    have wx : Wr x := ⟨by omega,by omega,xc⟩
    obtain ⟨c0,r,ec⟩ : ∃ c0 r,cps x = c0 :: r := List.exists_cons_of_ne_nil fun z => by
     have := wx.l1
     rw [lenC,z] at this
     cases this
    have hc0 := xc c0 (by rw [ec]; exact List.mem_cons_self ..)
    refine ⟨fun mm σ H' => ∃ (y : Str) (jj : Nat),σ = [some (.ref a),some (.int m),some (.str LET),some (.int wd),some (.ref p),some (.int (0 + i)),some (.str y),u7] /\ H' = H4 /\ Wr y /\ mm = 26 - jj /\ jj < 26 /\ cps y = rd c0 jj :: r /\ ∀ q,q < jj -> ∃ u ∈ ws,cps u = rd c0 q :: r,
     ⟨26,x,0,rfl,rfl,wx,rfl,by decide,by rw [rd_zero hc0]; exact ec,fun q h => absurd h (by omega)⟩,?_⟩
    rintro mm σ H5 ⟨y,jj,rfl,rfl,wy,rfl,j26,ey,hq⟩
    have zy : y.length <= sizeLine := sz1000 (by have := wy.l8; omega)
    refine ⟨_,rfl,_,rfl,p,_,rfl,.inl (SqL.of hp4),rfl,flat_strs ws,_,rfl,ite2 (fun hin => ?_) (fun hno => ?_)⟩
    ·have hin' : y ∈ ws := in_strs.mp hin
     have pg : jj + 1 <= (ws.map cps).length := by
      refine pigeon (fun q => rd c0 q :: r) (jj + 1) (ws.map cps) (fun q hq' => ?_) (fun q1 q2 h1 h2 e => ?_)
      ·by_cases z : q = jj
       ·exact List.mem_map.mpr ⟨y,hin',by rw [ey,z]⟩
       ·obtain ⟨u,hu,eu⟩ := hq q (by omega)
        exact List.mem_map.mpr ⟨u,hu,eu⟩
      ·injection e with e1 _
       exact rd_inj (by omega) (by omega) e1
     rw [List.length_map] at pg
     have hr1 := rd_in c0 jj
     have fd : Txt.find LET ⟨#[rd c0 jj]⟩ = ((rd c0 jj - 97 : Nat) : Int) := find_let hr1
     refine ⟨_,fun σ' H' h => h,?_⟩
     refine ⟨_,rfl,_,rfl,rfl,_,rfl,y,0,rd c0 jj,rfl,rfl,zy,(by show atI (cps y) 0 = some _; rw [ey]; exact atI_nat (j := 0) rfl),LET,⟨#[rd c0 jj]⟩,rfl,rfl,_,_,rfl,rfl,_,_,rfl,rfl,(by show (0 : Int) < 26; decide),LET,_,rd (rd c0 jj) 1,rfl,rfl,zL,?_,?_⟩
     ·rw [fd,show (((rd c0 jj - 97 : Nat) : Int) + 1) % 26 = (((rd c0 jj - 97 + 1) % 26 : Nat) : Int) by omega]
      exact atI_nat (at_let (Nat.mod_lt _ (by decide)))
     ·have ls := PyProof.Txt.length_slice_le y (some 1) none
      have l8 := wy.l8
      have ct : cps (Txt.slice y (some 1) none) = r := by rw [slice_tail wy.l1,ey]; rfl
      have cn : cps ((⟨#[rd (rd c0 jj) 1]⟩ : Str) ++ Txt.slice y (some 1) none) = rd c0 (jj + 1) :: r := by
       rw [cps_append',ct,rd_next]
       rfl
      refine ⟨_,rfl,_,rfl,y,rfl,zy,_,_,rfl,rfl,sz1000 (by show 1 + _ <= 1000; omega),26 - (jj + 1),by omega,_,jj + 1,rfl,rfl,⟨?_,?_,fun c hc => ?_⟩,rfl,by omega,cn,fun q hq' => ?_⟩
      ·rw [lenC,cn]
       exact Nat.succ_le_succ (Nat.zero_le _)
      ·rw [lenC,cn]
       have : y.length = (cps y).length := lenC y
       rw [ey] at this
       simp at this ⊢
       omega
      ·rw [cn] at hc
       rcases List.mem_cons.mp hc with h | h
       ·rw [h]
        exact rd_in _ _
       ·exact xc c (by rw [ec]; exact List.mem_cons_of_mem _ h)
      ·by_cases z : q = jj
       ·exact ⟨y,hin',by rw [ey,z]⟩
       ·exact hq q (by omega)
    ·have hno' : y ∉ ws := fun z => hno (in_strs.mpr z)
     refine ⟨_,rfl,.inl ⟨rfl,_,SqL.of hp4⟩,_,rfl,p,_,_,rfl,rfl,hp4,small1000 (by rw [List.length_map]; omega),?_⟩
     refine ⟨ws ++ [y],_,_,_,rfl,by rw [List.length_append,wl]; rfl,nodup_snoc nd hno',fun x hx => ?_,s4.own pn,lf4.own pa,by rw [List.map_append]; exact upd_same⟩
     rcases List.mem_append.mp hx with h | h
     ·exact wr x h
     ·rw [List.mem_singleton.mp h]
      exact wy
  ·rintro σ H2 ⟨ws,v5,v6,v7,rfl,wl,nd,wr,s2,lf2,hp2⟩
   exact ⟨_,rfl,k ws p H2 (by omega) nd wr s2 lf2 pn hp2⟩
end
end K11
namespace L2
open PySem PySem.Spec PyProof.Rows
variable {X : Cx}
theorem Vals.of_get : ∀ {xs : List V} {us : List Value},xs.length = us.length -> (∀ (i : Nat) (x : V) (u : Value),xs[i]? = some x -> us[i]? = some u -> RelV x u) -> Vals xs us
 | [],[],_,_ => .nil
 | x :: xs,u :: us,hl,h => .cons (h 0 x u rfl rfl) (Vals.of_get (by simpa using hl) fun i y v hy hv => h (i + 1) y v (by simpa using hy) (by simpa using hv))
 | [],_ :: _,hl,_ => by simp at hl
 | _ :: _,[],hl,_ => by simp at hl
def tRev (K : PySem.W.Frag) (te : TE) (tk : TO) : TE := fun σ H Q => te σ H fun x H1 => tk σ H1 fun st H2 => st = some (-1) /\ ∃ a xs,x = .ref a /\ SqL K H2 a xs /\ ∀ p,H2 p = none -> Q (.ref p) (upd H2 p (.lst xs.reverse))
def tListRng (ta : TA) : TE := fun σ H Q => ta σ H fun vs H1 => ∃ i j : Int,vs = [.int i,.int j] /\ (-(2 ^ 62) <= i /\ i < 2 ^ 62 /\ -(2 ^ 62) <= j /\ j < 2 ^ 62) /\ (j - i).toNat <= 1000 /\ ∀ p,H1 p = none -> Q (.ref p) (upd H1 p (.lst (rngV i (j - i).toNat)))
theorem rng_vals {a : Int} {n : Nat} {acc : Array Value} (h : ItemsOf (fun i v => ∃ t,v = .int (a + i * 1) t) acc n) : Vals (rngV a n) acc.toList := by
 refine Vals.of_get (by rw [rngV_len,Array.length_toList,h.1]) fun i x u hx hu => ?_
 obtain ⟨_,rfl⟩ := rngV_get hx
 obtain ⟨t,rfl⟩ := h.2 i u (by rw [<- Array.getElem?_toList]; exact hu)
 exact ⟨t,by rw [Int.mul_one]⟩
theorem pe_listRng {e1 e2 : Expr} {ta : TA} {p p' pos pos' : Pos} (hc : X.calm = true) (hg : Gl X "list") (hm : X.mg "list" = none) (hg' : Gl X "range") (hm' : X.mg "range" = none) (ha : PA X [e1,e2] ta)
  (hs : starEach [e1,e2] X.env = [(false,eval e1 X.env),(false,eval e2 X.env)] := by rfl) (hs2 : starEach [e2] X.env = [(false,eval e2 X.env)] := by rfl)
  (hs3 : starEach [Expr.Call (.Name "range" p') [e1,e2] [] pos'] X.env = [(false,eval (.Call (.Name "range" p') [e1,e2] [] pos') X.env)] := by rfl) :
  PE X (.Call (.Name "list" p) [.Call (.Name "range" p') [e1,e2] [] pos'] [] pos) (tListRng ta) := by
 intro pins s σ H Q I h
 refine wpAny_Call_Name_kw (ld_blt I hg hm bt_list (PyProof.Rows.callWith_type1 ?_ hs3 rfl))
 rw [hs3]
 show wpAny _ _ (spliced ((false,eval (.Call (.Name "range" p') [e1,e2] [] pos') X.env) :: backTo pos [])) _ _ s
 refine Calls.spliced_cons ?_
 refine Call_ (ld_blt I hg' hm' boot_range (PyProof.Rows.callWith_type1 (thn (ha pos' pins s σ H _ I h) fun us s1 ⟨vs,H1,I1,r1,q1⟩ => ?_) (by rw [hs,hs2]) (by rw [hs2]; rfl)))
 obtain ⟨i,j,e,⟨q1,q2,q3,q4⟩,hn,q⟩ := q1
 subst e
 cases r1 with
 | cons r rr =>
  cases rr with
  | cons r' rr =>
   cases rr
   obtain ⟨t,rfl⟩ := r
   obtain ⟨t',rfl⟩ := r'
   refine call_range_2 (Calls.spliced_nil ?_)
   have I2 : Inv X pins σ H1 { s1 with heap := s1.heap.push { cls := .type "range",data := .fields #[.int i t,.int j t',.int 1 s1.toks] },toks := s1.toks + 1 } := I1.kept fun b o e => Heap.get?_push_of_some _ e
   refine call_list_range (n := (j - i).toNat) (I2.ok.hd hc) (IsRange.new ..) (small_one q1 q2 q3 q4) (by rw [rangeSize_one]; split <;> omega) (by omega) fun h' tk acc' c' hk hS' hacc => ?_
   refine ⟨.ref _,_,I2.laid (o := .lst (rngV i (j - i).toNat)) hk (Nat.le_refl _) ?_,rfl,q _ (I2.hok.fresh (Nat.le_refl _))⟩
   exact ⟨by rw [rngV_len]; exact sz1000 hn,acc'.toList,c',rng_vals hacc,hS'⟩
def tListVals (td : TE) : TE := fun σ H Q => td σ H fun x H1 => ∃ a kvs,x = .ref a /\ H1 a = some (.dK kvs) /\ ∀ p,H1 p = none -> Q (.ref p) (upd H1 p (.lst (kvs.map (·.2))))
end L2
namespace L2
open PySem PySem.Spec PyProof.Rows
def Itz2 (K : PySem.W.Frag) (a b : Addr) : It :=
  ⟨fun i H => ∃ xs ys,SqT K H a xs /\ SqT K H b ys /\ i < xs.length /\ i < ys.length,
   fun i H v H' => ∃ T,H T = none /\ v = .ref T /\ ∀ xs ys,SqT K H a xs -> SqT K H b ys -> ∃ x y,xs[i]? = some x /\ ys[i]? = some y /\ H' = upd H T (.tup [x,y]),
   fun i H => ∃ xs ys,SqT K H a xs /\ SqT K H b ys /\ (i = xs.length \/ (i < xs.length /\ i = ys.length))⟩
def ZipSt2 (n a b : Nat) (i : Nat) (h : Heap) : Prop := IsZip h (n + 4) (n + 2) (n + 3) .none /\ IsPair h (n + 2) (.ref n) (.ref (n + 1)) /\ (∃ x y,IsPair h (n + 3) x y) /\ h.IsTupleIter n a i /\ h.IsTupleIter (n + 1) b i
theorem turn_zip2 {P : Program} {w : World} {K : PySem.W.Frag} {es : List Expr} {k1 : Nat} {p1 : Pos} {n a b : Nat} (ha : a < n) (hb : b < n) :
  Turn P w K (.Tuple es k1 p1) (Itz2 K a b) [n + 4,n + 2,n + 3,n,n + 1] (n + 4) (ZipSt2 n a b) where
 mem := by simp
 obj := fun i h st c hc => by
  obtain ⟨c1,c2,⟨x,y,c3⟩,⟨o4,d4,_,f4⟩,⟨o5,d5,_,f5⟩⟩ := st
  have hc' : c = n + 4 \/ c = n + 2 \/ c = n + 3 \/ c = n \/ c = n + 1 := by simpa using hc
  rcases hc' with e | e | e | e | e
  ·subst e; exact ⟨_,c1,fun v z => by cases z⟩
  ·subst e; exact ⟨_,c2,fun v z => by cases z⟩
  ·subst e; exact ⟨_,c3,fun v z => by cases z⟩
  ·subst e; exact ⟨_,d4,fun v z => by rw [f4] at z; cases z⟩
  ·subst e; exact ⟨_,d5,fun v z => by rw [f5] at z; cases z⟩
 keep := fun i h h' st k => by
  obtain ⟨c1,c2,⟨x,y,c3⟩,c4,c5⟩ := st
  exact ⟨k _ (by simp) _ c1,k _ (by simp) _ c2,⟨x,y,k _ (by simp) _ c3⟩,c4.at fun o e => k _ (by simp) o e,c5.at fun o e => k _ (by simp) o e⟩
 item := by
  intro X hP hw hK hc i pins s σ H E I hf st hg
  subst hP hw hK
  obtain ⟨xs,ys,hx,hy,l1,l2⟩ := hg
  obtain ⟨its,r1,tx,_⟩ := I.tuple hx
  obtain ⟨its',r2,ty,_⟩ := I.tuple hy
  have e1 := r1.length
  have e2 := r2.length
  obtain ⟨c1,c2,⟨x0,y0,c3⟩,c4,c5⟩ := st
  have hh : X.A.in1.handled = none := I.ok.hd hc
  refine zipPy (drawsTup hh n a (by show (_ : Nat) ≠ _; omega) its.toArray) (drawsTup hh (n + 1) b (by show (_ : Nat) ≠ _; omega) its'.toArray) (ap_new ha hb) c1 c2 c3 ⟨c4,tx⟩ ⟨c5,ty⟩ (by rw [List.size_toArray]; omega) (by rw [List.size_toArray]; omega) fun x y T g t' px py hT cz cO s1 s2 cT kp => ⟨.ref T,rfl,?_⟩
  subst hT
  refine wpAny_letOwnedTupleGo_zip (s := { s with heap := g,toks := t' }) cz fun g' cz' sb => ?_
  obtain ⟨vx,hvx⟩ : ∃ v,xs[i]? = some v := ⟨_,List.getElem?_eq_getElem l1⟩
  obtain ⟨vy,hvy⟩ : ∃ v,ys[i]? = some v := ⟨_,List.getElem?_eq_getElem l2⟩
  obtain ⟨ux,hux,rx⟩ := r1.get hvx
  obtain ⟨uy,huy,ry⟩ := r2.get hvy
  have ex : x = ux := by
   have : its.toArray[i]? = some x := px
   rw [<- Array.getElem?_toList,List.toList_toArray,hux] at this
   exact (Option.some.inj this).symm
  have ey : y = uy := by
   have : its'.toArray[i]? = some y := py
   rw [<- Array.getElem?_toList,List.toList_toArray,huy] at this
   exact (Option.some.inj this).symm
  subst ex ey
  have hfr : H s.heap.objs.size = none := I.hok.fresh (Nat.le_refl _)
  have I0 : Inv X pins σ (upd H s.heap.objs.size (.tup [vx,vy])) { s with heap := s.heap.push { cls := .type "tuple",data := .seq #[x,y] },toks := t' } :=
   I.laid (fun c u q => Heap.get?_push_of_some _ q) (Nat.le_refl _) ⟨by show 2 <= sizeLine; decide,[x,y],.cons rx (.cons ry .nil),⟨_,Heap.get?_push_size s.heap rfl,rfl,_,rfl⟩⟩
  have lz : n + 4 < s.heap.objs.size := Heap.lt_size c1
  have fpn : ∀ c ∈ [n + 4,n + 2,n + 3,n,n + 1],c ≠ s.heap.objs.size := fun c hc' => by
   have hc'' : c = n + 4 \/ c = n + 2 \/ c = n + 3 \/ c = n \/ c = n + 1 := by simpa using hc'
   rcases hc'' with e | e | e | e | e <;> (subst e; exact Nat.ne_of_lt (by omega))
  have hf0 : ∀ c ∈ [n + 4,n + 2,n + 3,n,n + 1],FpOk X pins (upd H s.heap.objs.size (.tup [vx,vy])) c := fun c hc' => ⟨by rw [upd_ne (fpn c hc')]; exact (hf c hc').1,(hf c hc').2⟩
  have I1 : Inv X pins σ (upd H s.heap.objs.size (.tup [vx,vy])) { s with heap := g',toks := t' } := by
   refine Inv.turnedL (s := { s with heap := s.heap.push { cls := .type "tuple",data := .seq #[x,y] },toks := t' }) (h' := g') (t' := t') (ch := [n + 4,n + 2,n + 3,n,n + 1]) I0 (fun c o hc' e => ?_) hf0
   replace e : (s.heap.push { cls := .type "tuple",data := .seq #[x,y] }).get? c = some o := e
   have hn : ∀ d ∈ [n + 4,n + 2,n + 3,n,n + 1],c ≠ d := fun d hd z => hc' (by rw [z]; exact hd)
   refine sb.extBut _ _ (hn _ (by simp)) ?_
   by_cases ec : c = s.heap.objs.size
   ·rw [ec] at e ⊢
    rw [Heap.get?_push_size s.heap rfl] at e
    cases e
    exact cT
   ·rw [Heap.get?_push_ne _ _ _ ec] at e
    exact kp c o (hn _ (by simp)) (hn _ (by simp)) (hn _ (by simp)) (hn _ (by simp)) e
  refine ⟨.ref s.heap.objs.size,_,I1,rfl,⟨_,hfr,rfl,fun xs' ys' hx' hy' => ⟨vx,vy,by rw [I.tuple_inj hx' hx]; exact hvx,by rw [I.tuple_inj hy' hy]; exact hvy,rfl⟩⟩,?_,fun c hc' => (hf0 c hc').1⟩
  have nz : ∀ d : Nat,d < n + 4 -> d ≠ n + 4 := fun d hd => Nat.ne_of_lt hd
  exact ⟨cz',sb.extBut _ _ (nz _ (by omega)) (kp _ _ (nz _ (by omega)) (by show (_ : Nat) ≠ _; omega) (by show (_ : Nat) ≠ _; omega) (by show (_ : Nat) ≠ _; omega) c2),⟨x,y,sb.extBut _ _ (nz _ (by omega)) cO⟩,s1.1.extBut sb.extBut (nz _ (by omega)),s2.1.extBut sb.extBut (nz _ (by omega))⟩
 done := by
  intro X hP hw hK hc i pins s σ H E I hf st hg
  subst hP hw hK
  obtain ⟨xs,ys,hx,hy,l⟩ := hg
  obtain ⟨its,r1,tx,_⟩ := I.tuple hx
  obtain ⟨its',r2,ty,_⟩ := I.tuple hy
  have e1 := r1.length
  have e2 := r2.length
  obtain ⟨c1,c2,⟨x0,y0,c3⟩,c4,c5⟩ := st
  have hh : X.A.in1.handled = none := I.ok.hd hc
  refine zipPyStop (drawsTup hh n a (by show (_ : Nat) ≠ _; omega) its.toArray) (drawsTup hh (n + 1) b (by show (_ : Nat) ≠ _; omega) its'.toArray) (ap_new ha hb) c1 c2 c3 ⟨c4,tx⟩ ⟨c5,ty⟩ (by rw [List.size_toArray,List.size_toArray]; omega) fun g t' kp => ⟨rfl,I.turnedL (ch := [n + 4,n + 2,n + 3,n,n + 1]) (fun c o hc' e => ?_) hf⟩
  have hn : ∀ d ∈ [n + 4,n + 2,n + 3,n,n + 1],c ≠ d := fun d hd z => hc' (by rw [z]; exact hd)
  exact kp c o (hn _ (by simp)) (hn _ (by simp)) (hn _ (by simp)) (hn _ (by simp)) e
 self := fun _ _ _ _ _ st h => wpAny_pyIter_zip st.1 h
abbrev yo1 (h : Heap) (a : Addr) : Heap := h.push { cls := .type "tuple_iterator",data := .fields #[.ref a,.int 0 0] }
abbrev yo2 (h : Heap) (a b : Addr) : Heap := (yo1 h a).push { cls := .type "tuple_iterator",data := .fields #[.ref b,.int 0 0] }
abbrev yo3 (h : Heap) (a b : Addr) : Heap := (yo2 h a b).push { cls := .type "tuple",data := .seq #[.ref h.objs.size,.ref (yo1 h a).objs.size] }
abbrev yo4 (h : Heap) (a b : Addr) : Heap := (yo3 h a b).push { cls := .type "tuple",data := .seq #[.none,.none] }
abbrev yo5 (h : Heap) (a b : Addr) : Heap := (yo4 h a b).push { cls := .type "zip",data := .fields #[.none,.bool false,.bool false,.ref (yo2 h a b).objs.size,.ref (yo3 h a b).objs.size] }
theorem zipMade2 (a b : Addr) (xs ys : Array Value) : Meets (Builtin.«zip.__new__» ⟨[.type "zip",.ref a,.ref b],[]⟩) (fun _ R s => s.heap.IsTuple a xs /\ s.heap.IsTuple b ys /\ R (.ok (.ret (.ref (yo4 s.heap a b).objs.size))) { s with heap := yo5 s.heap a b }) := .of_wp fun prog w A R s h => by
 obtain ⟨hp,g,d,tk,os⟩ := s
 obtain ⟨q1,q2,q⟩ := h
 have hsub := sub_zip
 have u1 : Heap.IsTuple (Shared.heap ⟨hp,g,d,tk,os⟩) a xs := q1
 have u2 : Heap.IsTuple (Shared.heap ⟨hp.push { cls := .type "tuple_iterator",data := .fields #[.ref a,.int 0 0] },g,d,tk,os⟩) b ys := Heap.IsTuple.push q2 _
 wp_walk using wpAny_pyIter_tuple u1,wpAny_pyIter_tuple u2
 exact ⟨_,rfl,q⟩
theorem call_zipTT {prog : Program} {w : World} {A : Around} {E : Value -> Shared -> Prop} {s : Shared} {a b : Addr} {xs ys : Array Value} {Q : Value -> Shared -> Prop} (q1 : s.heap.IsTuple a xs) (q2 : s.heap.IsTuple b ys)
  (q : ∀ g,ZipSt2 s.heap.objs.size a b 0 g -> (∀ c o,s.heap.get? c = some o -> g.get? c = some o) -> Q (.ref (s.heap.objs.size + 4)) { s with heap := g }) : wpAny (model prog w) A (call (.type "zip") [.ref a,.ref b]) Q E s := by
 refine callType_new F.called_zip (by decide) (F.typeCall_zip_2 _ _) (F.newCall_zip_2 _ _) (fun obj => F.args_object_init_3 obj _ _) F.entry_zip_new (zipMade2 a b xs ys) ⟨q1,q2,?_⟩
 have z1 : (yo1 s.heap a).objs.size = s.heap.objs.size + 1 := Heap.size_push ..
 have z2 : (yo2 s.heap a b).objs.size = s.heap.objs.size + 2 := by rw [Heap.size_push,z1]
 have z3 : (yo3 s.heap a b).objs.size = s.heap.objs.size + 3 := by rw [Heap.size_push,z2]
 have z4 : (yo4 s.heap a b).objs.size = s.heap.objs.size + 4 := by rw [Heap.size_push,z3]
 have o5 : (yo5 s.heap a b).get? (yo4 s.heap a b).objs.size = some _ := Heap.get?_push_size _ rfl
 have o4 : (yo5 s.heap a b).get? (yo3 s.heap a b).objs.size = some _ := Heap.get?_push_of_some _ (Heap.get?_push_size _ rfl)
 have o3 : (yo5 s.heap a b).get? (yo2 s.heap a b).objs.size = some _ := Heap.get?_push_of_some _ (Heap.get?_push_of_some _ (Heap.get?_push_size _ rfl))
 have o2 : (yo5 s.heap a b).get? (yo1 s.heap a).objs.size = some _ := Heap.get?_push_of_some _ (Heap.get?_push_of_some _ (Heap.get?_push_of_some _ (Heap.get?_push_size _ rfl)))
 have o1 : (yo5 s.heap a b).get? s.heap.objs.size = some _ := Heap.get?_push_of_some _ (Heap.get?_push_of_some _ (Heap.get?_push_of_some _ (Heap.get?_push_of_some _ (Heap.get?_push_size _ rfl))))
 rw [z2,z3,z4] at o5
 rw [z1,z2] at o3
 rw [z3] at o4
 rw [z1] at o2
 show _ /\ _
 rw [z4]
 exact ⟨⟨_,o5,rfl⟩,q _ ⟨o5,o3,⟨_,_,o4⟩,⟨_,o1,rfl,rfl⟩,⟨_,o2,rfl,rfl⟩⟩ fun c o x => Heap.get?_push_of_some _ (Heap.get?_push_of_some _ (Heap.get?_push_of_some _ (Heap.get?_push_of_some _ (Heap.get?_push_of_some _ x))))⟩
def iZip2 (K : PySem.W.Frag) (ta : TA) : TI := fun σ H R => ta σ H fun vs H1 => ∃ a b,vs = [.ref a,.ref b] /\ (∃ xs,SqT K H1 a xs) /\ (∃ ys,SqT K H1 b ys) /\ R (Itz2 K a b) H1
theorem pi_zip2 {X : Cx} {es : List Expr} {k1 : Nat} {p1 : Pos} {e1 e2 : Expr} {ta : TA} {p pos : Pos} (hg : Gl X "zip") (hm : X.mg "zip" = none) (ha : PA X [e1,e2] ta) (hs : starEach [e1,e2] X.env = [(false,eval e1 X.env),(false,eval e2 X.env)] := by rfl) (hs2 : starEach [e2] X.env = [(false,eval e2 X.env)] := by rfl) :
  PI X (.Tuple es k1 p1) (.Call (.Name "zip" p) [e1,e2] [] pos) (iZip2 X.K ta) := by
 intro pins s σ H R I h
 refine Call_ (ld_blt I hg hm bt_zip (PyProof.Rows.callWith_type1 (thn (ha pos pins s σ H _ I h) fun us s1 ⟨vs,H1,I1,r1,q1⟩ => ?_) (by rw [hs,hs2]) (by rw [hs2]; rfl)))
 obtain ⟨a,b,rfl,⟨xs,hx⟩,⟨ys,hy⟩,q⟩ := q1
 cases r1 with
 | cons r rr =>
  cases rr with
  | cons r' rr =>
   cases rr
   cases r
   cases r'
   obtain ⟨its,_,tx,_⟩ := I1.tuple hx
   obtain ⟨its',_,ty,_⟩ := I1.tuple hy
   have la : a < s1.heap.objs.size := by obtain ⟨o,e,_⟩ := tx; exact Heap.lt_size e
   have lb : b < s1.heap.objs.size := by obtain ⟨o,e,_⟩ := ty; exact Heap.lt_size e
   refine call_zipTT tx (ty) fun g st kp => wpAny_pyIter_zip st.1 ?_
   have I2 : Inv X pins σ H1 { s1 with heap := g } := I1.kept (t' := s1.toks) kp
   refine ⟨s1.heap.objs.size + 4,_,_,_,H1,rfl,I2,turn_zip2 la lb,st,fun c hc => ?_,q⟩
   refine I1.fpOk ?_ (I1.hok.fresh ?_)
   all_goals
    have hc' : c = s1.heap.objs.size + 4 \/ c = s1.heap.objs.size + 2 \/ c = s1.heap.objs.size + 3 \/ c = s1.heap.objs.size \/ c = s1.heap.objs.size + 1 := by simpa using hc
    rcases hc' with e | e | e | e | e <;> (subst e; omega)
theorem for_zip2 {K : PySem.W.Frag} {a b : Addr} {xs ys : List V} {g : TG} {tb : TS} {D : Ends} {σ : St} {H : Hp} (Pv : Nat -> St -> Hp -> Prop) (h0 : Pv 0 σ H) (hl : ∀ i σ H,i <= xs.length -> Pv i σ H -> SqT K H a xs /\ SqT K H b ys) (hn : xs.length = ys.length)
  (hs : ∀ i x y T σ H,xs[i]? = some x -> ys[i]? = some y -> H T = none -> Pv i σ H -> g (.ref T) σ (upd H T (.tup [x,y])) fun σ2 H2 => tb { D with nx := Pv (i + 1),ct := Pv (i + 1),bk := D.nx } σ2 H2) (hd : ∀ σ H,Pv xs.length σ H -> D.nx σ H) :
  ∃ W : Nat -> Nat -> St -> Hp -> Prop,(∃ m,W 0 m σ H) /\ ∀ i m σ H,W i m σ H ->
   ((Itz2 K a b).stop i H /\ D.nx σ H) \/ ((Itz2 K a b).go i H /\ ∃ N : St -> Hp -> Prop,(∀ σ' H',N σ' H' -> ∃ m',m' < m /\ W (i + 1) m' σ' H') /\ ∀ v H',(Itz2 K a b).yld i H v H' -> g v σ H' fun σ2 H2 => tb { D with nx := N,ct := N,bk := D.nx } σ2 H2) := by
 refine ⟨fun i m σ H => m = xs.length - i /\ i <= xs.length /\ Pv i σ H,⟨xs.length,by simp,Nat.zero_le _,h0⟩,?_⟩
 rintro i m σ H ⟨rfl,hi,p⟩
 obtain ⟨q1,q2⟩ := hl i σ H hi p
 by_cases hlt : i < xs.length
 ·refine .inr ⟨⟨xs,ys,q1,q2,hlt,by omega⟩,Pv (i + 1),fun σ' H' p' => ⟨xs.length - (i + 1),by omega,rfl,hlt,p'⟩,fun v H' y => ?_⟩
  obtain ⟨T,hT,rfl,y⟩ := y
  obtain ⟨x',y',e1,e2,rfl⟩ := y xs ys q1 q2
  exact hs i x' y' T σ H e1 e2 hT p
 ·have e : i = xs.length := by omega
  subst e
  exact .inl ⟨⟨xs,ys,q1,q2,.inl rfl⟩,hd σ H p⟩
end L2
namespace L2
open PySem PySem.Spec PyProof.Rows
variable {X : Cx}
def rListD : List V -> Hp -> VK -> Prop := fun xs H Q => ∃ a kvs,∃ ss : List Str,xs = [.ref a] /\ H a = some (.dK kvs) /\ kvs.map (·.1) = ss.map Sum.inr /\ ∀ p,H p = none -> Q (.ref p) (upd H p (.lst (ss.map V.str)))
def tListRng3 (ta : TA) : TE := fun σ H Q => ta σ H fun vs H1 => ∃ i j c : Int,vs = [.int i,.int j,.int c] /\ (-(2 ^ 20) <= i /\ i < 2 ^ 20 /\ -(2 ^ 20) <= j /\ j < 2 ^ 20 /\ 1 <= c /\ c < 2 ^ 20) /\ (j - i) / c <= 900 /\
 ∀ p (ms : List Int),(∀ x ∈ ms,i <= x /\ x < j) -> (ms.length : Int) <= max 0 ((j - i - 1) / c + 1) -> H1 p = none -> Q (.ref p) (upd H1 p (.lst (ms.map V.int)))
end L2
namespace L2
open PySem PySem.Spec PyProof.Rows
variable {X : Cx}
def Itd (d : Addr) (ob : Obj) (kvs : List (Key × V)) : It :=
 ⟨fun i H => H d = some (.frz ob (.dK kvs)) /\ i < kvs.length,fun i H v H' => H' = H /\ ∃ kv,kvs[i]? = some kv /\ v = kV kv.1,fun i H => H d = some (.frz ob (.dK kvs)) /\ kvs.length <= i⟩
def iDict (tl : TE) : TI := fun σ H R => tl σ H fun x H1 => ∃ d kvs,x = .ref d /\ H1 d = some (.dK kvs) /\ ∀ ob,R (Itd d ob kvs) (upd H1 d (.frz ob (.dK kvs)))
end L2
namespace L2
open PySem PySem.Spec PyProof.Rows PySem.W
def PassesAt (CX : CXT) (X : Cx) (σ : St) (E : XK) : Prop := ∀ (pins : List (Addr × Obj)) (H : Hp) (s : Shared) (e : Value) (s' : Shared),Inv X pins σ H s -> CX X.stack H s E e s' -> X.xe e s'
section
variable {X : Cx}
theorem run_fnS {CX : CXT} {k : Nat} {f : Addr} {fd : FuncData} {ps : List Str} {sp : Sp} {E : XK} {pins : List (Addr × Obj)} {σ : St} {H : Hp} {s : Shared} {Q : VK} {us : List Value} {vs : List V} (F : FnOk X.prog X.w X.K X.mg X.base CX k f fd ps sp) (hr : Room k X.A) (hb : Binds X.K fd ps []) (hx : PassesAt CX X σ E)
  (I : Inv X pins σ H s) (r : Vals vs us) (h : sp (vs ++ []) H Q E) : wpAny (model X.prog X.w) X.A (call (.ref f) us) (EP X pins σ Q) X.xe s := by
 have r2 : Vals (vs ++ []) (us ++ []) := r.append .nil
 have hl : (us ++ []).length = ps.length := by rw [<- r2.length]; exact F.len _ _ _ _ h
 refine wpAny_call (codeAny_mono (F.run X.A X.stack s H ⟨us,[]⟩ (us ++ []) (vs ++ []) Q E hr I.env0 (hb s us I.kIn hl) r2 h) fun r s' hq => ?_)
 cases r with
 | error e => exact hx pins H s e s' I hq
 | ok fl =>
  cases fl with
  | ret u => exact I.after hq
  | next => exact False.elim hq
  | brk => exact False.elim hq
  | cont => exact False.elim hq
theorem pe_calS {CX : CXT} {k : Nat} {x : Str} {ps : List Str} {sp : Sp} {E : XK} {e : Expr} {es : List Expr} {t : TA} {p pos : Pos} {σ : St} (C : Cal X.prog X.w X.K X.mg X.base CX k x ps sp) (hr : Room k X.A) (hg : Gl X x) (hx : PassesAt CX X σ E)
  (ha : PA X (e :: es) t) (hdb : (x == ("__debug__" : Str)) = false := by decide) (he : starEach (e :: es) X.env = (false,eval e X.env) :: starEach es X.env := by rfl) (hpl : (backTo pos (starEach es X.env)).any (·.1) = false := by rfl) :
  PE X (.Call (.Name x p) (e :: es) [] pos) (fun σ' H Q => σ' = σ /\ tCall sp [] E t σ' H Q) := by
 obtain ⟨f,fd,hm,hk,hb,F⟩ := C.ex
 intro pins s σ' H Q I h
 obtain ⟨es',h⟩ := h
 subst es'
 refine wpAny_Call_Name_kw (ld_glob I hg hm ?_ hdb)
 refine PySem.W.callWith_K (h₀ := X.base) I.ok.mod.kin hk (thn (ha pos pins s σ' H _ I h) fun us s1 ⟨vs,H1,I1,r,q⟩ => ⟨I1.kIn,?_⟩) he hpl
 exact run_fnS F hr hb hx I1 r q
def tTryS (K : Frag) (i j : Nat) (Dc : Addr) (tb : St -> XK -> TS) : TS := fun D σ H => tb σ (fun cls dd H' => ∃ C,cls = .ref C /\ ExK K C /\ subIn K (.ref C) (.ref Dc) = some true /\ ∀ a,H' a = none -> D.nx (((σ.set i (some (.ref a))).set j (some (.ref a))).set i none) (upd H' a (excD a C dd))) D σ H
end
end L2
namespace L2
open PySem PySem.Spec PyProof.Rows
variable {X : Cx}
def rSortDSR : List V -> Hp -> VK -> Prop := fun xs H Q => ∃ a kvs,∃ ss : List Str,xs = [.ref a] /\ Rd H a (.dK kvs) /\ kvs.map (·.1) = ss.map Sum.inr /\ kvs.length < 64 /\ ∀ (p : Addr) (ss' : List Str),ss'.Perm ss -> sortedS ss' = true -> H p = none -> Q (.ref p) (upd H p (.lst (ss'.map V.str)))
def tListValsR (td : TE) : TE := fun σ H Q => td σ H fun x H1 => ∃ a kvs,x = .ref a /\ Rd H1 a (.dK kvs) /\ ∀ p,H1 p = none -> Q (.ref p) (upd H1 p (.lst (kvs.map (·.2))))
end L2
namespace ST
open PySem PySem.Spec Builtin Builtin.Str StrLaws TM
def jl (Y : List Nat) : List (List Nat) -> List Nat
 | [] => []
 | [p] => p
 | p :: q :: r => p ++ Y ++ jl Y (q :: r)
theorem lenx (x : Str) : x.length = (cps x).length := by simp [Str.length,cps]
theorem at_eq (x y : Str) (i : Nat) : At x y x.length i ↔ i + (cps y).length <= (cps x).length /\ ((cps x).drop i).take (cps y).length = cps y := by
 unfold At
 rw [subAt_eq,lenx,lenx,beq_iff_eq]
theorem at_head {x y : Str} {c : Nat} {Y : List Nat} (hy : cps y = c :: Y) {i : Nat} (h : At x y x.length i) : (cps x)[i]? = some c := by
 have h2 := ((at_eq x y i).mp h).2
 rw [hy] at h2
 have := congrArg (fun l => l[0]?) h2
 simpa [List.getElem?_take,List.getElem?_drop] using this
theorem at_mid {x y : Str} {a : Nat} {p J : List Nat} (h : (cps x).drop a = p ++ cps y ++ J) (ha : a <= (cps x).length) : At x y x.length (a + p.length) := by
 have hl : (cps x).length - a = p.length + (cps y).length + J.length := by
  have := congrArg List.length h
  simpa [Nat.add_assoc] using this
 refine (at_eq x y _).mpr ⟨by omega,?_⟩
 rw [<- List.drop_drop,h,List.append_assoc,List.drop_left,List.take_left]
theorem parts_go (x y : Str) {c : Nat} {Y : List Nat} (hy : cps y = c :: Y) : ∀ (ps : List (List Nat)) (a : Nat) (cuts : List Nat) (f : Nat),ps ≠ [] -> (∀ p ∈ ps,c ∉ p) -> a <= (cps x).length -> (cps x).drop a = jl (cps y) ps ->
  ChainG x y x.length a cuts f -> (∀ k,f <= k -> ¬ At x y x.length k) -> (partsFrom x y.length a cuts).map cps = ps
 | [],_,_,_,h,_,_,_,_,_ => absurd rfl h
 | [p],a,cuts,f,_,hc,ha,hd,hG,hn => by
  have hd' : (cps x).drop a = p := hd
  cases cuts with
  | nil =>
   show [cps (strSub x a x.length)] = [p]
   rw [cps,strSub_toList,lenx]
   show [((cps x).drop a).take ((cps x).length - a)] = [p]
   rw [List.take_of_length_le (by simp),hd']
  | cons c0 r =>
   exfalso
   have h0 := at_head hy hG.2.1
   have hle := hG.1
   have : (p)[c0 - a]? = some c := by
    rw [<- hd',List.getElem?_drop,show a + (c0 - a) = c0 by omega]
    exact h0
   exact hc p (by simp) (List.mem_of_getElem? this)
 | p :: q :: ps,a,cuts,f,_,hc,ha,hd,hG,hn => by
  have hd' : (cps x).drop a = p ++ cps y ++ jl (cps y) (q :: ps) := hd
  have hat := at_mid hd' ha
  have hl : (cps x).length - a = p.length + (cps y).length + (jl (cps y) (q :: ps)).length := by
   have := congrArg List.length hd'
   simpa [Nat.add_assoc] using this
  cases cuts with
  | nil =>
   have e : f = a := hG
   exact absurd hat (hn _ (by omega))
  | cons c0 r =>
   obtain ⟨h1,h2,h3,h4⟩ := hG
   have e0 : c0 = a + p.length := by
    rcases Nat.lt_trichotomy c0 (a + p.length) with h | h | h
    ·exfalso
     have hh := at_head hy h2
     have : (p ++ cps y ++ jl (cps y) (q :: ps))[c0 - a]? = some c := by
      rw [<- hd',List.getElem?_drop,show a + (c0 - a) = c0 by omega]
      exact hh
     rw [List.append_assoc,List.getElem?_append_left (by omega)] at this
     exact hc p (by simp) (List.mem_of_getElem? this)
    ·exact h
    ·exact absurd hat (h3 _ (by omega) h)
   subst e0
   show cps (strSub x a (a + p.length)) :: (partsFrom x y.length (a + p.length + y.length) r).map cps = _
   have d2 : (cps x).drop (a + p.length + y.length) = jl (cps y) (q :: ps) := by
    rw [lenx y,<- List.drop_drop,<- List.drop_drop,hd',List.append_assoc,List.drop_left,List.drop_left]
   rw [parts_go x y hy (q :: ps) _ r f (by simp) (fun z hz => hc z (by simp only [List.mem_cons] at hz ⊢; exact Or.inr hz)) (by rw [lenx y]; omega) d2 h4 hn]
   congr 1
   rw [cps,strSub_toList]
   show ((cps x).drop a).take (a + p.length - a) = p
   rw [hd',Nat.add_sub_cancel_left,List.append_assoc,List.take_left]
theorem map_cps_inj : ∀ {xs ys : List Str},xs.map cps = ys.map cps -> xs = ys
 | [],[],_ => rfl
 | [],_ :: _,h => by simp at h
 | _ :: _,[],h => by simp at h
 | x :: xs,y :: ys,h => by
  simp only [List.map_cons,List.cons.injEq] at h
  rw [TM.ext h.1,map_cps_inj h.2]
theorem kind_low {x y : Str} (hk : PySem.Builtin.Str.strKind y = 1) : ¬ PySem.Builtin.Str.strKind x < PySem.Builtin.Str.strKind y := by
 rw [hk]
 unfold PySem.Builtin.Str.strKind
 split
 ·omega
 ·split <;> omega
theorem split_parts {x y : Str} {c : Nat} {Y : List Nat} (hy : cps y = c :: Y) (hk : PySem.Builtin.Str.strKind y = 1) {ps : List Str} (hp : ps ≠ []) (hc : ∀ p ∈ ps,c ∉ cps p) (hx : cps x = jl (cps y) (ps.map cps)) : Txt.split x y = ps := by
 have hw : 1 <= y.length := by rw [lenx,hy]; simp
 obtain ⟨f,hG,hn⟩ := occ_tight x y hw
 have key := parts_go x y hy (ps.map cps) 0 _ f (by simpa using hp) (fun p h => by obtain ⟨q,hq,rfl⟩ := List.mem_map.mp h; exact hc q hq) (Nat.zero_le _) (by rw [List.drop_zero]; exact hx) hG hn
 unfold Txt.split
 split
 ·rename_i h
  rw [Bool.or_eq_true,decide_eq_true_eq,decide_eq_true_eq] at h
  rcases h with h | h
  ·cases ps with
   | nil => exact absurd rfl hp
   | cons p r =>
    cases r with
    | nil => exact map_cps_inj (by show [cps x] = [cps p]; rw [hx]; rfl)
    | cons q r =>
     exfalso
     have := congrArg List.length hx
     rw [lenx,lenx] at h
     have e : jl (cps y) ((p :: q :: r).map cps) = cps p ++ cps y ++ jl (cps y) ((q :: r).map cps) := rfl
     rw [e,List.length_append,List.length_append] at this
     omega
  ·exact absurd h (kind_low hk)
 ·split
  ·rename_i h
   rw [List.isEmpty_iff.mp h] at key
   refine map_cps_inj ?_
   rw [<- key]
   show [cps x] = [cps (strSub x 0 x.length)]
   rw [sub_whole]
  ·rw [partsBetween_eq]
   exact map_cps_inj key
theorem part_at {x y p q : Str} {c : Nat} {Y : List Nat} (hy : cps y = c :: Y) (hc : c ∉ cps p) (hx : cps x = cps p ++ cps y ++ cps q) : Txt.partition x y = (p,y,q) := by
 have hat : At x y x.length (0 + (cps p).length) := at_mid (J := cps q) (by rw [List.drop_zero]; exact hx) (Nat.zero_le _)
 rw [Nat.zero_add] at hat
 rcases occ_head x y 1 (by decide) with ⟨_,n⟩ | ⟨i,r,e,a,n⟩
 ·exact absurd hat (n _)
 ·have ei : i = (cps p).length := by
   rcases Nat.lt_trichotomy i (cps p).length with h | h | h
   ·exfalso
    have := at_head hy a
    rw [hx,List.append_assoc,List.getElem?_append_left h] at this
    exact hc (List.mem_of_getElem? this)
   ·exact h
   ·exact absurd hat (n _ h)
  subst ei
  unfold Txt.partition
  rw [e]
  show (strSub x 0 (cps p).length,y,strSub x ((cps p).length + y.length) x.length) = (p,y,q)
  have e1 : strSub x 0 (cps p).length = p := TM.ext (by
   rw [cps,strSub_toList]
   show ((cps x).drop 0).take ((cps p).length - 0) = cps p
   rw [hx,List.drop_zero,Nat.sub_zero,List.append_assoc,List.take_left])
  have e2 : strSub x ((cps p).length + y.length) x.length = q := TM.ext (by
   rw [cps,strSub_toList]
   show ((cps x).drop ((cps p).length + y.length)).take (x.length - ((cps p).length + y.length)) = cps q
   rw [lenx,lenx,List.take_of_length_le (by rw [List.length_drop]; exact Nat.le_refl _),hx,<- List.drop_drop,List.append_assoc,List.drop_left,List.drop_left])
  rw [e1,e2]
theorem starts_iff {x y : Str} : Txt.startswith x y = decide (cps y <+: cps x) := by
 unfold Txt.startswith
 rw [subAt_eq,lenx,lenx,Bool.eq_iff_iff,Bool.and_eq_true,decide_eq_true_eq,decide_eq_true_eq,beq_iff_eq,List.drop_zero]
 constructor
 ·rintro ⟨_,h⟩
  show cps y <+: cps x
  rw [List.prefix_iff_eq_take]
  exact h.symm
 ·intro h
  refine ⟨by have := h.length_le; omega,?_⟩
  exact (List.prefix_iff_eq_take.mp h).symm
end ST
namespace L2
open PySem PySem.Spec PyProof.Rows PySem.W
def rInN (K : PySem.W.Frag) : R2 := fun x y H Q => ∃ p xs,x = .non /\ y = .ref p /\ SqL K H p xs /\ (∀ v ∈ xs,flatV v = true \/ ∃ a ys,v = .ref a /\ SqT K H a ys) /\ Q (.bl (xs.any fun v => decide (v = .non))) H
def isNU : Value -> Bool
 | .none => true
 | _ => false
theorem any_isNU : ∀ {xs : List V} {us : List Value},Vals xs us -> (∀ v ∈ xs,flatV v = true \/ ∃ a,v = .ref a) -> us.any isNU = xs.any fun v => decide (v = .non)
 | _,_,.nil,_ => rfl
 | y :: xs,u :: us,.cons r t,f => by
  rw [List.any_cons,List.any_cons,any_isNU t fun v hv => f v (List.mem_cons_of_mem _ hv)]
  congr 1
  rcases f y (List.mem_cons_self ..) with h | ⟨a,rfl⟩
  ·cases y with
   | non => cases r; rfl
   | bl b => cases r; rfl
   | int i => obtain ⟨t,rfl⟩ := r; rfl
   | str z => obtain ⟨t,rfl⟩ := r; rfl
   | _ => exact absurd (show false = true from h) Bool.false_ne_true
  ·cases r
   rfl
section
variable {X : Cx}
theorem mem_isN {pins : List (Addr × Obj)} {σ : St} {H : Hp} {s : Shared} (I : Inv X pins σ H s) {A : Around} (hu : A.units < cLine) : ∀ {xs : List V} {us : List Value},Vals xs us -> (∀ v ∈ xs,flatV v = true \/ ∃ a ys,v = .ref a /\ SqT X.K H a ys) -> ∀ u ∈ us,SeqAt.EqAt A s u .none (isNU u)
 | _,_,.nil,_ => fun u hu => by cases hu
 | y :: xs,u :: us,.cons r t,f => fun u' hu' => by
  rcases List.mem_cons.mp hu' with rfl | hu'
  ·rcases f y (List.mem_cons_self ..) with h | ⟨a,ys,rfl,hq⟩
   ·cases y with
    | non => cases r; exact SeqAt.EqAt.same _
    | bl b => cases r; exact SeqAt.EqAt.bool_none b
    | int i => obtain ⟨t,rfl⟩ := r; exact SeqAt.EqAt.int_none i t
    | str z => obtain ⟨t,rfl⟩ := r; exact SeqAt.EqAt.str_none z t
    | _ => exact absurd (show false = true from h) Bool.false_ne_true
   ·cases r
    obtain ⟨its,r',pl,hz⟩ := I.tuple hq
    exact SeqAt.EqAt.tuple_none pl hu
  ·exact mem_isN I hu t (fun v hv => f v (List.mem_cons_of_mem _ hv)) u' hu'
theorem op_inN (hu : X.A.units + 64 < cLine) : OpR X (compareOp .In) (rInN X.K) := by
 intro pins s σ H x y v u Q I rx ry h
 obtain ⟨p,xs,rfl,rfl,hq,fs,q⟩ := h
 cases ry
 cases rx
 obtain ⟨its,r,pl,hz⟩ := I.list hq
 have hu' : X.A.in1.units < cLine := by
  have : X.A.in1.units = X.A.units + 1 := rfl
  omega
 refine SeqAt.in_listAt isNU pl.isList (fun w hw => mem_isN I hu' r fs w (by simpa using hw)) ⟨.bl _,H,I,rfl,?_⟩
 rw [show its.toArray.any isNU = its.any isNU by simp,any_isNU r fun v hv => (fs v hv).imp id fun ⟨a,_,e,_⟩ => ⟨a,e⟩]
 exact q
def rInD (K : PySem.W.Frag) : R2 := fun x y H Q => ∃ a p us,∃ e : Addr -> Bool,x = .ref a /\ y = .ref p /\ SqT K H p us /\ (∀ u ∈ us,∃ b,u = .ref b /\ DEq K H 40 u x (e b)) /\ ∃ t : Bool,(us.any fun u => match u with | .ref b => e b | _ => false) = t /\ Q (.bl t) H
def isDU (e : Addr -> Bool) : Value -> Bool
 | .ref b => e b
 | _ => false
theorem any_isDU {e : Addr -> Bool} : ∀ {xs : List V} {us : List Value},Vals xs us -> (∀ v ∈ xs,∃ a,v = .ref a) -> us.any (isDU e) = xs.any fun u => match u with | .ref b => e b | _ => false
 | _,_,.nil,_ => rfl
 | y :: xs,u :: us,.cons r t,f => by
  rw [List.any_cons,List.any_cons,any_isDU t fun v hv => f v (List.mem_cons_of_mem _ hv)]
  congr 1
  obtain ⟨a,rfl⟩ := f y (List.mem_cons_self ..)
  cases r
  rfl
theorem mem_isD {pins : List (Addr × Obj)} {σ : St} {H : Hp} {s : Shared} (I : Inv X pins σ H s) {A : Around} (hu : A.units + 40 < cLine) {e : Addr -> Bool} {a : Addr} : ∀ {xs : List V} {us : List Value},Vals xs us -> (∀ v ∈ xs,∃ b,v = .ref b /\ DEq X.K H 40 v (.ref a) (e b)) -> ∀ u ∈ us,SeqAt.EqAt A s u (.ref a) (isDU e u)
 | _,_,.nil,_ => fun u hu => by cases hu
 | y :: xs,u :: us,.cons r t,f => fun u' hu' => by
  rcases List.mem_cons.mp hu' with rfl | hu'
  ·obtain ⟨b,rfl,hd⟩ := f y (List.mem_cons_self ..)
   have r0 := r
   cases r
   exact DEq.at I hd hu r0 rfl
  ·exact mem_isD I hu t (fun v hv => f v (List.mem_cons_of_mem _ hv)) u' hu'
theorem op_inD (hu : X.A.units + 64 < cLine) : OpR X (compareOp .In) (rInD X.K) := by
 intro pins s σ H x y v u Q I rx ry h
 obtain ⟨a,p,us,e,rfl,rfl,hq,fs,t,ht,q⟩ := h
 cases ry
 cases rx
 obtain ⟨its,r,pl,hz⟩ := I.tuple hq
 have hu' : X.A.in1.units + 40 < cLine := by
  have : X.A.in1.units = X.A.units + 1 := rfl
  omega
 refine SeqAt.in_tupleAt (isDU e) pl (fun w hw => mem_isD I hu' r fs w (by simpa using hw)) ⟨.bl _,H,I,rfl,?_⟩
 rw [show its.toArray.any (isDU e) = its.any (isDU e) by simp,any_isDU r fun v hv => by obtain ⟨b,e',_⟩ := fs v hv; exact ⟨b,e'⟩,ht]
 exact q
def rEqLt (K : PySem.W.Frag) : R2 := fun x y H Q => ∃ a b xs ys,∃ e : Nat -> Bool,∃ t : Bool,x = .ref a /\ y = .ref b /\ SqL K H a xs /\ SqL K H b ys /\ (∀ (j : Nat) x y,xs[j]? = some x -> ys[j]? = some y -> DEq K H 40 x y (e j)) /\
 ((List.range (min xs.length ys.length)).all e && xs.length == ys.length) = t /\ Q (.bl t) H
theorem op_eqLt (hu : X.A.units + 64 < cLine) : OpR X (compareOp .Eq) (rEqLt X.K) := by
 intro pins s σ H x y v u Q I rx ry h
 obtain ⟨a,b,xs,ys,e,t,h1,h2,h3,h4,h5,h6,q⟩ := h
 exact op_eqL hu pins s σ H x y v u Q I rx ry ⟨a,b,xs,ys,e,h1,h2,h3,h4,h5,by rw [h6]; exact q⟩
theorem mt_starts : MtR X "str.startswith" (fun z vs H Q => ∃ x y,z = .str x /\ vs = [.str y] /\ Q (.bl (Txt.startswith x y)) H) := by
 intro pins s σ H z vs v us Q I rx rv h
 obtain ⟨x,y,rfl,rfl,q⟩ := h
 obtain ⟨t,rfl⟩ := rx
 obtain ⟨u,rfl,tu,rfl⟩ := rv.one
 refine call_gives PySem.F.slot_str_startswith (typeIs_str _ _ _) PySem.F.entry_str_startswith (PySem.F.args_str_startswith_2 _ _) (gives_str_startswith x y t tu) ?_
 exact ⟨.bl _,H,I,rfl,q⟩
end
end L2
namespace L2
open PySem PySem.Spec PyProof.Rows PySem.W
open AutoSeq1 (wpAny_loadPart')
open MeetsSeq MeetsSeq2 MeetsSeq3 SeqRoads2
theorem tuple_indexAt (l : Addr) (items : Array Value) (n : Nat) (dd : Option Addr) (sl : Array (Option Value)) (x : Value) (e : Value -> Bool) (j : Nat) (hj : j < items.size)
  (hit : e items[j] = true) (hno : ∀ m (hm : m < items.size),m < j -> e items[m] = false) :
  Meets (Builtin.«tuple.index» ⟨[.ref l,x],[]⟩)
   (fun A R s => s.heap.get? l = some { cls := .type "tuple",dict := dd,data := .seq items n,slots := sl } /\ (∀ y,y ∈ items -> SeqAt.EqAt A.in1 s y x (e y)) /\ R (.ok (.ret (.int j s.toks))) { s with toks := s.toks + 1 }) :=
 .of_wp fun prog w A R s h => by
  obtain ⟨hp,g,d,tk,os⟩ := s; obtain ⟨hl,he,h⟩ := h
  wp_walk using wpAny_loadPart' hl
  refine (?_ : wpAny (model prog w) A.in1 (forIn (m := Sem) ([:min items.size items.size] : Std.Legacy.Range) (none,()) _) _ _ _)
  rw [Std.Legacy.Range.forIn_eq_forIn_range']
  refine wpAny_forIn_list _ (fun rest b s' => b.1 = none /\ s' = ⟨hp,g,d,tk,os⟩ /\ ∃ k,k <= j /\ rest = List.range' k (items.size - k)) _ ?_ ?_ _ _ ?_
  ·rintro i rest b s' ⟨hb,rfl,k,hk,hr⟩
   have hlen : items.size - k = (items.size - k - 1) + 1 := by omega
   rw [hlen,List.range'_succ] at hr
   obtain ⟨rfl,rfl⟩ := List.cons.inj hr
   have hi : items[i]? = some items[i] := by simp
   rw [hi]
   refine wpAny_bind (he _ (Array.getElem_mem (by omega)) prog w _ _ ?_)
   by_cases hij : i = j
   ·subst hij
    rw [hit]
    wp_walk
    exact ⟨_,rfl,h⟩
   ·rw [hno i (by omega) (by omega)]
    wp_walk
    exact ⟨rfl,rfl,i + 1,by omega,by congr 1⟩
  ·rintro ⟨b1,b2⟩ s' ⟨hb,rfl,k,hk,hr⟩
   exfalso
   have := congrArg List.length hr
   simp at this
   omega
  ·refine ⟨rfl,rfl,0,Nat.zero_le _,?_⟩
   simp [Std.Legacy.Range.size]
def rIndexT (K : PySem.W.Frag) : V -> List V -> Hp -> VK -> Prop := fun x vs H Q => ∃ l xs y,∃ j : Nat,∃ z,x = .ref l /\ vs = [y] /\ SqT K H l xs /\ flatV y = true /\ xs.all flatV = true /\ xs[j]? = some z /\ eqV z y = true /\
 (∀ m z,m < j -> xs[m]? = some z -> eqV z y = false) /\ Q (.int (j : Int)) H
theorem mt_indexT {X : Cx} : MtR X "tuple.index" (rIndexT X.K) := by
 intro pins s σ H x vs v us Q I rx rv h
 obtain ⟨l,xs,y,j,z,rfl,rfl,hH,fy,fx,hz,hit,hno,q⟩ := h
 cases rx
 obtain ⟨u,rfl,ru⟩ := rv.one
 obtain ⟨its,r,pl,hsz⟩ := I.tuple hH
 obtain ⟨⟨cls,dd,data,sl⟩,ho,hc,n,hd⟩ := id pl
 simp only at hc hd
 subst hc hd
 have hl : xs.length = its.length := r.length
 have hj : j < xs.length := (List.getElem?_eq_some_iff.mp hz).1
 have fl : ∀ (m : Nat) z,xs[m]? = some z -> flatV z = true := fun m z hm => List.all_eq_true.mp fx z (List.mem_of_getElem? hm)
 have at' : ∀ (m : Nat) z,xs[m]? = some z -> ∀ hm : m < its.toArray.size,eqU y its.toArray[m] = eqV z y := fun m z hm hm' => by
  obtain ⟨u1,hu1,ru1⟩ := r.get hm
  have e1 : its.toArray[m] = u1 := by
   have := (List.getElem?_eq_some_iff.mp hu1).2
   simpa using this
  rw [e1,eqU_of ru1 (fl m z hm)]
 have hj' : j < its.toArray.size := by rw [List.size_toArray,<- hl]; exact hj
 refine call_meets PySem.F.slot_tuple_index ⟨_,ho,rfl⟩ PySem.F.entry_tuple_index (PySem.F.args_tuple_index_2 _ _) (tuple_indexAt l its.toArray n dd sl u (eqU y) j hj' ((at' j z hz hj').trans hit) (fun m hm hlt => ?_)) ⟨ho,fun u' hu' => mem_eqAt ru fy r fx u' (by simpa using hu'),?_⟩
 ·obtain ⟨z',hz'⟩ : ∃ z',xs[m]? = some z' := ⟨_,List.getElem?_eq_getElem (by omega)⟩
  rw [at' m z' hz' hm]
  exact hno m z' hlt hz'
 ·exact ⟨.int _,H,I.tok _,⟨_,rfl⟩,q⟩
end L2
namespace K11
open PySem PySem.Spec PyProof.Rows L2 GM TM
def spIsWare (K : PySem.W.Frag) : Sp := fun vs H Q _ => ∃ v,vs = [v] /\ ((IsiD K H v "str" false /\ Q (.bl false) H) \/ ∃ x : Str,v = .str x /\ x.length <= 1000 /\ (Wr x -> ∀ H',Same H H' -> Q (.bl true) H') /\ (¬ Wr x -> ∀ H',Same H H' -> Q (.bl false) H'))
theorem nd1 : (["sign"] : List Str).Nodup := by decide +kernel
theorem let_mem (c : Nat) : (!(Builtin.Str.occurrences LET ⟨#[c]⟩ 0 LET.length 1).isEmpty) = decide (97 <= c /\ c <= 122) := by
 rw [StrLaws.found_one]
 have e : LET.cps.toList = (List.range 26).map (97 + ·) := by decide +kernel
 rw [e]
 refine decide_eq_decide.mpr ⟨fun h => ?_,fun h => ?_⟩
 ·obtain ⟨j,hj,rfl⟩ := List.mem_map.mp h
  have := List.mem_range.mp hj
  omega
 ·exact List.mem_map.mpr ⟨c - 97,List.mem_range.mpr (by omega),by omega⟩
theorem clOk_plain {X : Cx} {scope : Scope} (h : ∀ y ∈ scope.names,y.2 = .local \/ y.2 = .globalImplicit) : ClOk X scope [] := by
 refine ⟨closureFor_none fun x hx z => ?_,fun x c e => by simp at e,fun x e => ?_⟩
 ·rcases h x hx with q | q <;> rw [q] at z <;> cases z
 ·exfalso
  have e' : ∃ k,(k = NameKind.cell \/ k = NameKind.free) /\ (relabel scope X.env).names.lookup x = some k := by
   rcases e with e | e
   ·exact ⟨_,.inl rfl,e⟩
   ·exact ⟨_,.inr rfl,e⟩
  obtain ⟨k,hk,e⟩ := e'
  have hm := PySem.mem_of_lookup e
  obtain ⟨y,hy,hy2⟩ := List.mem_map.mp hm
  have hl := h y hy
  obtain ⟨n,kk⟩ := y
  simp only at hl
  rcases hl with hl | hl <;> subst hl <;> simp at hy2 <;> rcases hk with rfl | rfl <;> exact absurd hy2.2 (by decide)
def spShown (K : PySem.W.Frag) : Sp := fun vs H Q _ => ∃ (p : Addr) (t b : Nat),vs = [.ref p] /\ SqT K H p [.int t,.int b] /\ t < 10 ^ 60 /\ b < 10 ^ 60 /\ ∀ x : Str,cps x = showL t b -> Q (.str x) H
def spRf : Sp := fun vs H Q _ => ∃ x : Str,vs = [.str x] /\ (cps x).length <= 1000 /\ (Fig (cps x) -> ∀ H',Same H H' -> Q (.int (NumText.digitsVal (cps x) : Nat)) H') /\ (¬ Fig (cps x) -> ∀ H',Same H H' -> Q .non H')
theorem szOk {x : Str} (h : (cps x).length <= 1000) : x.length <= sizeLine := by
 rw [lenC]
 exact Nat.le_trans h (by decide)
theorem cpsT (t : Nat) : cps ((toString (t : Int) : String) : Str) = dg t := PySem.W.KIN.signs_num t
theorem logT {t : Nat} (h : t < 10 ^ 60) : ((t : Int)).natAbs.log2 < 1920 := by
 rw [Int.natAbs_natCast]
 by_cases z : t = 0
 ·subst z
  decide
 ·exact (Nat.log2_lt z).mpr (Nat.lt_trans h (by decide +kernel))
theorem val_lt : ∀ (m : Nat) (cs : List Nat),cs.length = m -> NumText.AllDigits cs -> NumText.digitsVal cs < 10 ^ m := by
 intro m
 induction m with
 | zero =>
  intro cs hl _
  rw [List.length_eq_zero_iff.mp hl]
  decide
 | succ m ih =>
  intro cs hl ha
  have hn : cs ≠ [] := fun z => by rw [z] at hl; cases hl
  obtain ⟨ds,d,rfl⟩ : ∃ ds d,cs = ds ++ [d] := ⟨cs.dropLast,cs.getLast hn,(List.dropLast_concat_getLast hn).symm⟩
  have hd := ha d (by simp)
  have := ih ds (by simpa using hl) (fun c hc => ha c (List.mem_append_left _ hc))
  rw [val_snoc,Nat.pow_succ]
  omega
theorem Fig.lt {cs : List Nat} (h : Fig cs) : NumText.digitsVal cs < 10 ^ 60 := Nat.lt_of_lt_of_le (val_lt _ cs rfl h.all) (Nat.pow_le_pow_right (by decide) h.len)
theorem sl_of : (Str.ofString "/" : Str) = sl := by decide +kernel
theorem e0 : (Str.ofString "0" : Str) = ⟨#[48]⟩ := by decide +kernel
abbrev FIG : Str := "0123456789"
theorem fig_mem (c : Nat) : (!(Builtin.Str.occurrences FIG ⟨#[c]⟩ 0 FIG.length 1).isEmpty) = decide (48 <= c /\ c <= 57) := by
 rw [StrLaws.found_one]
 have e : FIG.cps.toList = [48,49,50,51,52,53,54,55,56,57] := by decide +kernel
 rw [e]
 refine decide_eq_decide.mpr ⟨fun h => ?_,fun h => ?_⟩
 ·simp at h
  omega
 ·have : c = 48 \/ c = 49 \/ c = 50 \/ c = 51 \/ c = 52 \/ c = 53 \/ c = 54 \/ c = 55 \/ c = 56 \/ c = 57 := by omega
  simp
  exact this
section
variable {P : Program} {w : World} {K : PySem.W.Frag} {mg : Str -> Option Value} {base : Heap}
theorem scIsWare : FnScope ["thing"] ["thing"] (defScope sIsWare) := ⟨rfl,rfl,rfl,by decide +kernel,rfl,by decide +kernel,by decide +kernel⟩
theorem ok_isware {f : Addr} {fd : FuncData} {tk tk' : Tok} (F : Fun K "is_ware" "is_ware" sIsWare f fd) (T : Txt mg) (mM : mg "MOST_LETTERS" = some (.int 8 tk)) (mL : mg "LETTERS" = some (.str LET tk')) : FnOk P w K mg base CX0 1 f fd ["thing"] (spIsWare K) := by
 refine F.ok scIsWare (fun vs H Q E h => ?_) (fun cdv A outer s H vs Q E hr h => ?_)
 ·obtain ⟨_,rfl,_⟩ := h
  rfl
 ·obtain ⟨v,rfl,h⟩ := h
  refine ⟨_,(pss_cons (ps_if (pt_not (pt_val (pe_callB call_isiZ rfl T.isi boot_isinstance (pa_cons (pv 0) (pa_cons (pe_bltn (v := .ty "str") rfl T.str' bt_str rfl) pa_nil)))))
    (pss_one (ps_ret pe_bl)) pss_nil)
   (pss_one (ps_ret (pe_and (pe_chain op_le op_le pe_int (pe_callB call_len_str rfl T.len PySem.boot_len (pa_cons (pv 0) pa_nil)) (pe_glob (v := .int 8) rfl mM ⟨_,rfl⟩)) (pe_one (pe_callB (call_allB rfl) rfl T.all' boot_all (pa_cons (pe_comp (N' := ["sign"]) (cl := []) (fun _ => [none]) rfl rfl (by decide +kernel) (by decide +kernel) (clOk_plain (by decide +kernel)) (fun _ _ => blkN_none)
      (pi_str (pv 0)) (fun _ _ _ _ _ => pg_name (i := 0) nd1 rfl (Or.inl rfl)) (fun _ _ _ _ _ => pifs_nil) (fun _ _ _ _ _ => pe_cmpR op_in_str (pv 0) (pe_glob (v := .str LET) rfl mL ⟨_,rfl⟩) rfl)) pa_nil))))))),?_⟩
  rcases h with ⟨hi,hb⟩ | ⟨x,rfl,hl,kT,kF⟩
  ·exact ⟨_,rfl,v,"str",false,rfl,hi,_,rfl,iteT hb⟩
  ·have hz := sz1000 hl
   have le := lenC x
   refine ⟨_,rfl,_,"str",true,rfl,.inl .str_str,_,rfl,iteF ?_⟩
   refine ⟨_,rfl,x,rfl,hz,_,_,rfl,rfl,_,rfl,ite2 (fun h1 => ?_) (fun h1 => ?_)⟩
   ·have h1' : (1 : Int) <= (x.length : Int) := of_decide_eq_true h1
    refine ⟨_,_,rfl,rfl,_,rfl,?_⟩
    by_cases h2 : (x.length : Int) <= 8
    ·rw [decide_eq_true h2]
     refine iteT ⟨_,rfl,x,rfl,fun D hD => ?_⟩
     refine comp_str (fun i ys H' => ys = ((cps x).take i).map (fun c => V.bl (decide (97 <= c /\ c <= 122))) /\ Same H H' /\ H' D = some (.lst ys)) ⟨by simp,Same.upd hD,upd_same⟩ ?_ ?_ ?_
     ·rintro i ys H' hi ⟨rfl,_,hD'⟩
      refine ⟨hD',?_⟩
      rw [List.length_map,List.length_take]
      exact small1000 (by omega)
     ·rintro i c ys H' hc ⟨rfl,sm,hD'⟩
      refine ⟨(Keep.refl _).set rfl,?_⟩
      unfold tNoIf
      dsimp only
      rw [if_pos rfl]
      refine ⟨_,rfl,_,_,rfl,rfl,hD',Nx.mk (List.getElem?_eq_some_iff.mp hc).1 ⟨?_,fun b o hb => ?_,upd_same⟩⟩
      ·rw [let_mem,List.take_add_one,hc,List.map_append]
       rfl
      ·have ne : b ≠ D := fun z => by rw [z,hD] at hb; cases hb
       rw [upd_ne ne]
       exact sm b o hb
     ·rintro ys H' ⟨rfl,sm,hD'⟩
      rw [List.take_of_length_le (Nat.le_refl _)] at hD'
      refine ⟨D,(cps x).map (fun c => decide (97 <= c /\ c <= 122)),rfl,SqL.of (by rw [List.map_map]; exact hD'),?_⟩
      by_cases a : ∀ c ∈ cps x,97 <= c /\ c <= 122
      ·have e : ((cps x).map (fun c => decide (97 <= c /\ c <= 122))).all id = true := by
        rw [List.all_map,List.all_eq_true]
        exact fun c hc => decide_eq_true (a c hc)
       rw [e]
       exact kT ⟨by omega,by omega,a⟩ _ sm
      ·have e : ((cps x).map (fun c => decide (97 <= c /\ c <= 122))).all id = false := by
        rw [Bool.eq_false_iff,Ne,List.all_map,List.all_eq_true]
        exact fun h => a fun c hc => of_decide_eq_true (h c hc)
       rw [e]
       exact kF (fun z => a z.lt) _ sm
    ·rw [decide_eq_false h2]
     exact iteF (kF (fun z => h2 (by have := z.l8; omega)) _ (Same.refl _))
   ·have h1' : ¬ (1 : Int) <= (x.length : Int) := fun z => h1 (decide_eq_true z)
    exact ⟨_,rfl,iteF (kF (fun z => h1' (by have := z.l1; omega)) _ (Same.refl _))⟩
theorem scShown : FnScope ["one","top","bottom"] ["one"] (defScope sShown) := ⟨rfl,rfl,rfl,by decide +kernel,rfl,by decide +kernel,by decide +kernel⟩
theorem ok_shown {f : Addr} {fd : FuncData} (F : Fun K "shown_amount" "shown_amount" sShown f fd) : FnOk P w K mg base CX0 1 f fd ["one"] (spShown K) := by
 refine F.ok scShown (fun vs H Q E h => ?_) (fun cdv A outer s H vs Q E hr h => ?_)
 ·obtain ⟨_,_,_,rfl,_⟩ := h
  rfl
 ·obtain ⟨p,t,b,rfl,hs,ht,hb,k⟩ := h
  refine ⟨_,(pss_cons (ps_set (i := 1) scShown.nd rfl (Or.inl rfl) (pit 0 0)) (pss_cons (ps_set (i := 2) scShown.nd rfl (Or.inl rfl) (pit 0 1))
   (pss_one (ps_ret (pe_ifExp (pt_cmpR op_eq (pv 2) pe_int (nomark _)) (pe_join1 (pe_fmt (pv 1))) (pe_join (pj_cons (pe_fmt (pv 1)) (pj_cons pe_str (pj_cons (pe_fmt (pv 2)) pj_nil))))))))),?_⟩
  have lt := dg_len ht
  have lb := dg_len hb
  refine ⟨p,_,_,rfl,hs,rfl,p,_,_,rfl,hs,rfl,_,rfl,rfl,_,rfl,ite2 (fun hc => ?_) (fun hc => ?_)⟩
  ·have e : b = 1 := by
    have := V.int.inj (of_decide_eq_true hc)
    omega
   refine ⟨_,rfl,_,⟨logT ht,rfl⟩,k _ ?_⟩
   rw [cpsT]
   unfold showL
   rw [if_pos e]
  ·have e : b ≠ 1 := fun z => hc (decide_eq_true (by rw [z]; rfl))
   have c1 : cps (Str.empty ++ ((toString (t : Int) : String) : Str)) = dg t := by
    rw [cps_append',cpsT]
    rfl
   have c2 : cps (Str.empty ++ ((toString (t : Int) : String) : Str) ++ ("/" : Str)) = dg t ++ [47] := by
    rw [cps_append',c1]
    rfl
   have c3 : cps (Str.empty ++ ((toString (t : Int) : String) : Str) ++ ("/" : Str) ++ ((toString (b : Int) : String) : Str)) = dg t ++ [47] ++ dg b := by rw [cps_append',c2,cpsT]
   have l3 : (cps (Str.empty ++ ((toString (t : Int) : String) : Str) ++ ("/" : Str) ++ ((toString (b : Int) : String) : Str))).length <= 1000 := by
    rw [c3,List.length_append,List.length_append]
    simp
    omega
   refine ⟨_,rfl,_,⟨logT ht,rfl⟩,_,rfl,szOk (by rw [c1]; omega),_,rfl,szOk (by rw [c2,List.length_append]; simp; omega),_,rfl,_,⟨logT hb,rfl⟩,_,rfl,szOk l3,szOk l3,k _ ?_⟩
   rw [c3]
   unfold showL
   rw [if_neg e]
   simp
theorem scRf : FnScope ["word"] ["word"] (defScope sRf) := ⟨rfl,rfl,rfl,by decide +kernel,rfl,by decide +kernel,by decide +kernel⟩
theorem ok_rf {f : Addr} {fd : FuncData} {tk tk' : Tok} (F : Fun K "read_figures" "read_figures" sRf f fd) (T : Txt mg) (mM : mg "MOST_FIGURES" = some (.int 60 tk)) (mF : mg "FIGURES" = some (.str FIG tk')) : FnOk P w K mg base CX0 1 f fd ["word"] spRf := by
 refine F.ok scRf (fun vs H Q E h => ?_) (fun cdv A outer s H vs Q E hr h => ?_)
 ·obtain ⟨_,rfl,_⟩ := h
  rfl
 ·obtain ⟨x,rfl,hl,kF,kN⟩ := h
  refine ⟨_,(pss_cons (ps_if (PW.pt (pw_or (pt_not (pt_chain op_le op_le pe_int (pe_callB call_len_str rfl T.len PySem.boot_len (pa_cons (pv 0) pa_nil)) (pe_glob (v := .int 60) rfl mM ⟨_,rfl⟩)))
     (pw_or1 (pt_val (pe_callB (call_anyB rfl) rfl T.any' boot_any (pa_cons (pe_comp (N' := ["sign"]) (cl := []) (fun _ => [none]) rfl rfl (by decide +kernel) (by decide +kernel) (clOk_plain (by decide +kernel)) (fun _ _ => blkN_none)
      (pi_str (pv 0)) (fun _ _ _ _ _ => pg_name (i := 0) nd1 rfl (Or.inl rfl)) (fun _ _ _ _ _ => pifs_nil) (fun _ _ _ _ _ => pe_cmpR op_notin_str (pv 0) (pe_glob (v := .str FIG) rfl mF ⟨_,rfl⟩) rfl)) pa_nil))))))
    (pss_one (ps_ret pe_non)) pss_nil)
   (pss_cons (ps_if (PW.pt (pw_and (pt_cmpR op_eq (pe_ix ix_str (pv 0) pe_int (fun _ _ => rfl)) pe_str (nomark _)) (pw_and1 (pt_cmpR op_gt (pe_callB call_len_str rfl T.len PySem.boot_len (pa_cons (pv 0) pa_nil)) pe_int (nomark _)))))
    (pss_one (ps_ret pe_non)) pss_nil)
   (pss_one (ps_ret (pe_callTy call_intS rfl T.int' bt_int (pa_cons (pv 0) pa_nil)))))),?_⟩
  have hz := szOk hl
  have le := lenC x
  refine ⟨_,rfl,x,rfl,hz,_,_,rfl,rfl,_,rfl,ite2 (fun h1 => ?_) (fun h1 => ?_)⟩
  ·have h1' : (1 : Int) <= (x.length : Int) := of_decide_eq_true h1
   refine ⟨_,_,rfl,rfl,_,rfl,?_⟩
   by_cases h2 : (x.length : Int) <= 60
   ·rw [decide_eq_true h2]
    refine iteF ⟨_,rfl,x,rfl,fun D hD => ?_⟩
    refine comp_str (fun i ys H' => ys = ((cps x).take i).map (fun c => V.bl (!decide (48 <= c /\ c <= 57))) /\ Same H H' /\ H' D = some (.lst ys)) ⟨by simp,Same.upd hD,upd_same⟩ ?_ ?_ ?_
    ·rintro i ys H' hi ⟨rfl,_,hD'⟩
     refine ⟨hD',?_⟩
     rw [List.length_map,List.length_take]
     exact small1000 (by omega)
    ·rintro i c ys H' hc ⟨rfl,sm,hD'⟩
     refine ⟨(Keep.refl _).set rfl,?_⟩
     unfold tNoIf
     dsimp only
     rw [if_pos rfl]
     refine ⟨_,rfl,_,_,rfl,rfl,hD',Nx.mk (List.getElem?_eq_some_iff.mp hc).1 ⟨?_,fun b o hb => ?_,upd_same⟩⟩
     ·rw [fig_mem,List.take_add_one,hc,List.map_append]
      rfl
     ·have ne : b ≠ D := fun z => by rw [z,hD] at hb; cases hb
      rw [upd_ne ne]
      exact sm b o hb
    ·rintro ys H' ⟨rfl,sm,hD'⟩
     rw [List.take_of_length_le (Nat.le_refl _)] at hD'
     refine ⟨D,(cps x).map (fun c => !decide (48 <= c /\ c <= 57)),rfl,SqL.of (by rw [List.map_map]; exact hD'),_,rfl,ite2 (fun ha => ?_) (fun ha => ?_)⟩
     ·refine kN (fun fg => ?_) _ sm
      obtain ⟨b,hb,hb'⟩ := List.any_eq_true.mp ha
      obtain ⟨c,hc,rfl⟩ := List.mem_map.mp hb
      have := fg.all c hc
      simp [this] at hb'
     ·have all : NumText.AllDigits (cps x) := fun c hc => by
       by_cases z : 48 <= c /\ c <= 57
       ·exact z
       ·exact absurd (List.any_eq_true.mpr ⟨_,List.mem_map.mpr ⟨c,hc,rfl⟩,by simp [z]⟩) ha
      have ne : cps x ≠ [] := fun z => by rw [le,z] at h1'; simp at h1'
      obtain ⟨c,r,ec⟩ := List.exists_cons_of_ne_nil ne
      have done : (c ≠ 48 \/ (cps x).length = 1) -> Q (.int (NumText.digitsVal (cps x) : Nat)) H' /\ intText? x = some ((NumText.digitsVal (cps x) : Nat) : Int) := fun z =>
       ⟨kF ⟨ne,by omega,all,fun q => by
        rcases z with z | z
        ·rw [ec] at q
         exact absurd (by simpa using q) z
        ·exact z⟩ _ sm,intText_digits all ne (by omega)⟩
      refine ⟨_,rfl,x,0,c,rfl,rfl,hz,(by show atI (cps x) 0 = some c; rw [ec]; exact atI_nat (j := 0) rfl),rfl,_,rfl,ite2 (fun hc => ?_) (fun hc => ?_)⟩
      ·refine ⟨_,rfl,x,rfl,hz,_,_,rfl,rfl,_,rfl,ite2 (fun hg => ?_) (fun hg => ?_)⟩
       ·have hg' : (1 : Int) < (x.length : Int) := of_decide_eq_true hg
        refine kN (fun fg => ?_) _ sm
        have e48 : c = 48 := by
         have := V.str.inj (of_decide_eq_true hc)
         rw [e0] at this
         have := congrArg cps this
         simpa [cps] using this
        have := fg.no (by rw [ec,e48]; rfl)
        omega
       ·have hg' : ¬ (1 : Int) < (x.length : Int) := fun z => hg (decide_eq_true z)
        obtain ⟨q1,q2⟩ := done (.inr (by omega))
        exact ⟨_,rfl,x,_,rfl,q2,by omega,q1⟩
      ·have n48 : c ≠ 48 := fun z => hc (decide_eq_true (by rw [z]; rfl))
       obtain ⟨q1,q2⟩ := done (.inl n48)
       exact ⟨_,rfl,x,_,rfl,q2,by omega,q1⟩
   ·rw [decide_eq_false h2]
    exact iteT (kN (fun fg => by have := fg.len; omega) _ (Same.refl _))
  ·have h1' : ¬ (1 : Int) <= (x.length : Int) := fun z => h1 (decide_eq_true z)
   exact ⟨_,rfl,iteT (kN (fun fg => h1' (by have := List.length_pos_iff.mpr fg.ne; omega)) _ (Same.refl _))⟩
end
end K11
namespace K11
open PySem PySem.Spec PyProof.Rows L2 GM TM
abbrev sInit : Stmt := inClass (top 2) 0
structure ErN (K : PySem.W.Frag) (mg : Str -> Option Value) (cP c0 fI : Addr) : Prop where
 ef : ExF K c0 cP fI "row"
 ct : CtK K cP
 ctN : CtK K c0
 s : PySem.W.subIn K (.ref c0) (.ref cP) = some true
 sN : PySem.W.subIn K (.ref c0) (.ref c0) = some true
 bi : BaseI K cP
 iP : PySem.W.kitOne K (.ref c0) (.ref cP) = some true
 iV : PySem.W.kitOne K (.ref c0) (.type "ValueError") = some true
 mP : mg "PhialError" = some (.ref cP)
 m0 : mg "NoText" = some (.ref c0)
 i0 : PySem.W.kitOne K (.ref c0) (.ref c0) = some true
def RwN (v : V) : Prop := v = .non \/ ∃ n : Nat,v = .int n /\ n < 1000
def spInit (c : Addr) : Sp := fun vs H Q _ => ∃ e v,vs = [.ref e,v] /\ RwN v /\ H e = some (exN e c none) /\ ∀ dx,H dx = none -> dx ≠ e -> Q .non (upd (upd H e (exN e c (some dx))) dx (xdE dx [("row",v)]))
def BadR (c : Addr) (v : V) (H : Hp) (E : XK) : Prop := ∀ dx H',Same H H' -> H' dx = some (xdE dx [("row",v)]) -> E (.ref c) (some dx) H'
abbrev BadT (c : Addr) (H : Hp) (E : XK) : Prop := BadR c .non H E
theorem BadR.mono {c : Addr} {v : V} {H H1 : Hp} {E : XK} (h : BadR c v H E) (s : Same H H1) : BadR c v H1 E := fun dx H' s' hd => h dx H' (s.trans s') hd
theorem raise_badR {c : Addr} {v : V} {H : Hp} {E : XK} (rv : RwN v) (h : BadR c v H E) : [v].length <= sizeLine /\ ∀ e,H e = none -> spInit c [.ref e,v] (upd H e (exN e c none)) (fun v H2 => v = .non /\ ∃ dd,H2 e = some (exN e c dd) /\ E (.ref c) dd (rem H2 e)) E0 := by
 refine ⟨(by show 1 <= sizeLine; decide),fun e he => ⟨e,v,rfl,rv,upd_same,fun dx hd ne => ⟨rfl,some dx,?_,?_⟩⟩⟩
 ·rw [upd_ne (Ne.symm ne),upd_same]
 ·have hd' : H dx = none := by
   rw [upd_ne ne] at hd
   exact hd
  refine h dx _ (fun b o hb => ?_) ?_
  ·have n1 : b ≠ e := fun z => by rw [z,he] at hb; cases hb
   have n2 : b ≠ dx := fun z => by rw [z,hd'] at hb; cases hb
   rw [rem_ne n1,upd_ne n2,upd_ne n1,upd_ne n1]
   exact hb
  ·rw [rem_ne ne,upd_same]
def spRa (K : PySem.W.Frag) (c2 : Addr) : Sp := fun vs H Q E => ∃ v,vs = [v] /\ ((IsiD K H v "str" false /\ BadT c2 H E) \/
 ∃ x : Str,v = .str x /\ (cps x).length <= 1000 /\ (∀ t b,Reads (cps x) t b -> RetT H Q [(t : Int),(b : Int)]) /\ ((∀ t b,¬ Reads (cps x) t b) -> BadT c2 H E))
theorem raise_bad {c : Addr} {H : Hp} {E : XK} (h : BadT c H E) : [V.non].length <= sizeLine /\ ∀ e,H e = none -> spInit c [.ref e,.non] (upd H e (exN e c none)) (fun v H2 => v = .non /\ ∃ dd,H2 e = some (exN e c dd) /\ E (.ref c) dd (rem H2 e)) E0 := raise_badR (.inl rfl) h
theorem GN (t b : Nat) : G (t : Int) (b : Int) = (Nat.gcd t b : Nat) := rfl
theorem lowN (t b : Nat) : ([(t : Int) / G t b,(b : Int) / G t b] : List Int) = [((t / Nat.gcd t b : Nat) : Int),((b / Nat.gcd t b : Nat) : Int)] := by
 rw [GN,Int.natCast_ediv,Int.natCast_ediv]
theorem btN {t : Nat} (h : t < 10 ^ 60) : Bt 9000 (t : Int) := (bt_lt 210 (c := T60) (Int.natCast_nonneg t) (by
 have e : T60 = ((10 ^ 60 : Nat) : Int) := by decide +kernel
 rw [e]
 exact Int.ofNat_lt.mpr h) (by decide +kernel)).mono (by decide)
section
variable {P : Program} {w : World} {K : PySem.W.Frag} {mg : Str -> Option Value} {base : Heap} {cP c0 fI : Addr}
theorem scInit : FnScope ["self","row"] ["self","row"] (defScope sInit) := ⟨rfl,rfl,rfl,by decide +kernel,rfl,by decide +kernel,by decide +kernel⟩
theorem row_len {n : Nat} (h : n < 1000) : ((toString (n : Int) : String) : Str).length <= 60 := by
 rw [lenC,cpsT]
 exact dg_len (Nat.lt_trans h (by decide +kernel))
theorem ok_init {f : Addr} {fd : FuncData} (F : Fun K "__init__" "NoText.__init__" sInit f fd) (R : ErN K mg cP c0 fI) : FnOk P w K mg base CX0 1 f fd ["self","row"] (spInit c0) := by
 refine F.ok scInit (fun vs H Q E h => ?_) (fun cdv A outer s H vs Q E hr h => ?_)
 ·obtain ⟨_,_,rfl,_⟩ := h
  rfl
 ·obtain ⟨e,v,rfl,rv,he,k⟩ := h
  refine ⟨_,pss_cons (ps_expr (pe_binit rfl R.mP R.bi (pa_cons (pv 0) (pa_cons (pe_join (pj_cons pe_str (pj_cons (pe_fmt (pv 1)) (pj_cons pe_str pj_nil)))) pa_nil))))
   (pss_one (ps_exN (C := c0) (P := cP) (f := fI) rfl (pv 0) (pv 1) rfl)),?_⟩
  rcases rv with rfl | ⟨n,rfl,hn⟩
  ·refine ⟨_,rfl,_,rfl,(by decide +kernel),_,rfl,"None",rfl,_,rfl,(by decide +kernel),_,rfl,(by decide +kernel),(by decide +kernel),e,c0,none,fI,_,rfl,he,R.ef.i,?_⟩
   exact ⟨_,rfl,_,rfl,e,rfl,he,R.ef,fun dx hd ne => k dx hd ne⟩
  ·have hl := row_len hn
   have h0 : Str.empty.length = 0 := rfl
   refine ⟨_,rfl,_,rfl,(by decide +kernel),_,rfl,_,⟨logT (Nat.lt_trans hn (by decide +kernel)),rfl⟩,_,rfl,sz1000 (by rw [lenA,lenA]; refine Nat.le_trans (Nat.add_le_add (Nat.le_of_eq (?_ : _ = 44)) hl) (by decide); decide +kernel),_,rfl,sz1000 (by rw [lenA,lenA,lenA]; refine Nat.le_trans (Nat.add_le_add (Nat.add_le_add (Nat.le_of_eq (?_ : _ = 44)) hl) (Nat.le_of_eq (?_ : _ = 1))) (by decide) <;> decide +kernel),sz1000 (by rw [lenA,lenA,lenA]; refine Nat.le_trans (Nat.add_le_add (Nat.add_le_add (Nat.le_of_eq (?_ : _ = 44)) hl) (Nat.le_of_eq (?_ : _ = 1))) (by decide) <;> decide +kernel),e,c0,none,fI,_,rfl,he,R.ef.i,?_⟩
   exact ⟨_,rfl,_,rfl,e,rfl,he,R.ef,fun dx hd ne => k dx hd ne⟩
theorem scRa : FnScope ["text","cut","top","bottom","found"] ["text"] (defScope sRa) := ⟨rfl,rfl,rfl,by decide +kernel,rfl,by decide +kernel,by decide +kernel⟩
theorem ok_ra {f : Addr} {fd fdI : FuncData} (F : Fun K "read_amount" "read_amount" sRa f fd) (T : Txt mg) (R : ErN K mg cP c0 fI) (FI : FnOk P w K mg base CX0 1 fI fdI ["self","row"] (spInit c0)) (bI : Binds K fdI ["self","row"] [])
  (cF : Cal P w K mg base CX0 2 "read_figures" ["word"] spRf) (cL : Cal P w K mg base CX0 2 "lowest_terms" ["top","bottom"] spLow) (cS : Cal P w K mg base CX0 2 "shown_amount" ["one"] (spShown K)) : FnOk P w K mg base (CXg P w) 3 f fd ["text"] (spRa K c0) := by
 refine F.okF scRa (fun vs H Q E h => ?_) (fun cdv A outer s H vs Q E hr h => ?_)
 ·obtain ⟨_,rfl,_⟩ := h
  rfl
 ·obtain ⟨v,rfl,h⟩ := h
  refine ⟨_,(pss_cons (ps_if (pt_not (pt_val (pe_callB call_isiZ rfl T.isi boot_isinstance (pa_cons (pv 0) (pa_cons (pe_bltn (v := .ty "str") rfl T.str' bt_str rfl) pa_nil)))))
    (pss_one (ps_raiseI (k := 1) rfl xe_f rfl hr rfl R.m0 R.ef.i FI bI (pa_cons pe_non pa_nil))) pss_nil)
   (pss_cons (ps_set (i := 1) scRa.nd rfl (Or.inl rfl) (pe_bm PySem.F.plainAttrs_str PySem.F.slot_str_partition PySem.F.type_str_partition mt_part (pv 0) (pa_cons pe_str pa_nil)))
   (pss_cons (ps_set (i := 2) scRa.nd rfl (Or.inl rfl) (pe_cal cF hr rfl pass0 (pa_cons (pit 1 0) pa_nil)))
   (pss_cons (ps_set (i := 3) scRa.nd rfl (Or.inl rfl) (pe_ifExp (pt_cmpR op_eq (pit 1 1) pe_str (nomark _)) pe_int (pe_cal cF hr rfl pass0 (pa_cons (pit 1 2) pa_nil))))
   (pss_cons (ps_if (PW.pt (pw_or (pt_cmpR op_isN (pv 2) pe_non (nomark _)) (pw_or (pt_cmpR op_isN (pv 3) pe_non (nomark _)) (pw_or1 (pt_cmpR op_eq (pv 3) pe_int (nomark _))))))
    (pss_one (ps_raiseI (k := 1) rfl xe_f rfl hr rfl R.m0 R.ef.i FI bI (pa_cons pe_non pa_nil))) pss_nil)
   (pss_cons (ps_set (i := 4) scRa.nd rfl (Or.inl rfl) (pe_cal cL hr rfl pass0 (pa_cons (pv 2) (pa_cons (pv 3) pa_nil))))
   (pss_cons (ps_if (pt_cmpR op_ne (pe_cal cS hr rfl pass0 (pa_cons (pv 4) pa_nil)) (pv 0) (nomark _)) (pss_one (ps_raiseI (k := 1) rfl xe_f rfl hr rfl R.m0 R.ef.i FI bI (pa_cons pe_non pa_nil))) pss_nil)
   (pss_one (ps_ret (pv 4)))))))))),?_⟩
  rcases h with ⟨hi,hb⟩ | ⟨x,rfl,hl,kR,kB⟩
  ·exact ⟨_,rfl,v,"str",false,rfl,hi,_,rfl,iteT (raise_bad hb)⟩
  ·have hz := szOk hl
   refine ⟨_,rfl,_,"str",true,rfl,.inl .str_str,_,rfl,iteF ?_⟩
   refine ⟨_,rfl,rfl,x,_,rfl,rfl,rfl,hz,fun pc hpc => ?_⟩
   have s1 : ∀ {o : HO},Same H (upd H pc o) := Same.upd hpc
   rw [sl_of]
   rcases part_cases x with ⟨n47,e⟩ | ⟨p,q,ec,n47,e⟩
   ·rw [e]
    refine ⟨pc,_,_,rfl,SqT.of upd_same,rfl,x,rfl,hl,fun fg H2 s2 => ?_,fun nf H2 s2 => ?_⟩
    ·have pcq : SqT K H2 pc [.str x,.str Str.empty,.str Str.empty] := SqT.of (s2 _ _ upd_same)
     refine ⟨pc,_,_,rfl,pcq,rfl,rfl,_,rfl,iteT ⟨_,rfl,rfl,_,rfl,iteF ⟨_,rfl,rfl,_,rfl,iteF ⟨_,rfl,rfl,_,rfl,iteF ?_⟩⟩⟩⟩
     refine ⟨_,rfl,_,rfl,(NumText.digitsVal (cps x) : Nat),(1 : Nat),rfl,Int.natCast_nonneg _,by decide,btN (by decide +kernel),fun pf H3 s3 h3 => ?_⟩
     rw [lowN,Nat.gcd_one_right,Nat.div_one,Nat.div_one] at h3
     refine ⟨_,rfl,pf,_,_,rfl,SqT.of h3,(K11.Fig.lt fg),by decide +kernel,fun y hy => ?_⟩
     have ey : y = x := ext (by rw [hy,showL,if_pos rfl,fg.dg])
     subst ey
     refine ⟨_,rfl,rfl,_,rfl,?_⟩
     rw [decide_eq_true rfl]
     exact iteF ⟨_,rfl,kR _ _ ((reads_one n47).mpr ⟨fg,rfl,rfl⟩) pf H3 ((s1.trans s2).trans s3) h3⟩
    ·have pcq : SqT K H2 pc [.str x,.str Str.empty,.str Str.empty] := SqT.of (s2 _ _ upd_same)
     refine ⟨pc,_,_,rfl,pcq,rfl,rfl,_,rfl,iteT ⟨_,rfl,rfl,_,rfl,iteT (raise_bad ((kB fun t b z => nf ((reads_one n47).mp z).1).mono (s1.trans s2)))⟩⟩
   ·rw [e]
    have lp : (cps p).length <= 1000 := by rw [ec,List.length_append] at hl; omega
    have lq : (cps q).length <= 1000 := by rw [ec,List.length_append,List.length_cons] at hl; omega
    have esl : decide (V.str sl = V.str (Str.ofString "")) = false := by decide +kernel
    have bad : ∀ {H' : Hp},Same H H' -> (¬ (Fig (cps p) /\ Fig (cps q) /\ 2 <= NumText.digitsVal (cps q) /\ Nat.gcd (NumText.digitsVal (cps p)) (NumText.digitsVal (cps q)) = 1)) -> BadT c0 H' E := fun sm z => (kB fun t b r => z (by
     rw [ec] at r
     obtain ⟨r1,r2,rfl,rfl,r3,r4⟩ := (reads_two n47).mp r
     exact ⟨r1,r2,r3,r4⟩)).mono sm
    refine ⟨pc,_,_,rfl,SqT.of upd_same,rfl,p,rfl,lp,fun fp H2 s2 => ?_,fun nf H2 s2 => ?_⟩
    ·have pcq : SqT K H2 pc [.str p,.str sl,.str q] := SqT.of (s2 _ _ upd_same)
     refine ⟨pc,_,_,rfl,pcq,rfl,rfl,_,rfl,?_⟩
     rw [esl]
     refine iteF ⟨pc,_,_,rfl,pcq,rfl,q,rfl,lq,fun fq H3 s3 => ?_,fun nf H3 s3 => ?_⟩
     ·have s13 := (s1 (o := .tup [.str p,.str sl,.str q])).trans (s2.trans s3)
      refine ⟨_,rfl,rfl,_,rfl,iteF ⟨_,rfl,rfl,_,rfl,iteF ⟨_,rfl,rfl,_,rfl,ite2 (fun h0 => ?_) (fun h0 => ?_)⟩⟩⟩
      ·have h0' : ((NumText.digitsVal (cps q) : Nat) : Int) = 0 := V.int.inj (of_decide_eq_true h0)
       exact raise_bad (bad s13 fun z => by omega)
      ·have h0' : NumText.digitsVal (cps q) ≠ 0 := fun z => h0 (decide_eq_true (by rw [z]; rfl))
       refine ⟨_,rfl,_,rfl,(NumText.digitsVal (cps p) : Nat),(NumText.digitsVal (cps q) : Nat),rfl,Int.natCast_nonneg _,by omega,btN (K11.Fig.lt fq),fun pf H4 s4 h4 => ?_⟩
       rw [lowN] at h4
       have ls := low_shown fp fq h0'
       refine ⟨_,rfl,pf,_,_,rfl,SqT.of h4,Nat.lt_of_le_of_lt (Nat.div_le_self _ _) (K11.Fig.lt fp),Nat.lt_of_le_of_lt (Nat.div_le_self _ _) (K11.Fig.lt fq),fun y hy => ?_⟩
       refine ⟨_,rfl,rfl,_,rfl,?_⟩
       by_cases ey : y = x
       ·subst ey
        rw [decide_eq_true rfl]
        obtain ⟨r3,r4⟩ := ls.mp (by rw [<- hy,ec])
        rw [r4,Nat.div_one,Nat.div_one] at h4
        refine iteF ⟨_,rfl,kR _ _ ?_ pf H4 (s13.trans s4) h4⟩
        rw [ec]
        exact (reads_two n47).mpr ⟨fp,fq,rfl,rfl,r3,r4⟩
       ·rw [decide_eq_false (fun z => ey (V.str.inj z))]
        exact iteT (raise_bad (bad (s13.trans s4) fun ⟨_,_,r3,r4⟩ => ey (ext (by rw [hy,ec]; exact ls.mpr ⟨r3,r4⟩))))
     ·exact ⟨_,rfl,rfl,_,rfl,iteF ⟨_,rfl,rfl,_,rfl,iteT (raise_bad (bad (s1.trans (s2.trans s3)) fun z => nf z.2.1))⟩⟩
    ·have pcq : SqT K H2 pc [.str p,.str sl,.str q] := SqT.of (s2 _ _ upd_same)
     refine ⟨pc,_,_,rfl,pcq,rfl,rfl,_,rfl,?_⟩
     rw [esl]
     refine iteF ⟨pc,_,_,rfl,pcq,rfl,q,rfl,lq,fun fq H3 s3 => ?_,fun _ H3 s3 => ?_⟩
     ·exact ⟨_,rfl,rfl,_,rfl,iteT (raise_bad (bad (s1.trans (s2.trans s3)) fun z => nf z.1))⟩
     ·exact ⟨_,rfl,rfl,_,rfl,iteT (raise_bad (bad (s1.trans (s2.trans s3)) fun z => nf z.1))⟩
end
end K11
namespace GM
structure Fr (M t b N : Int) : Prop where
 am : Amt t b
 e : t * M = N * b
end GM
namespace BQ
open GM L2
abbrev Q := Int × Int
def lw (T B : Int) : Q := (T / G T B,B / G T B)
def add (a b : Q) : Q := lw (a.1 * b.2 + b.1 * a.2) (a.2 * b.2)
def Am (a : Q) : Prop := Amt a.1 a.2
theorem mul1 {a b : Int} (ha : 1 <= a) (hb : 1 <= b) : 1 <= a * b := by
 have := Int.mul_le_mul ha hb (by decide) (by omega)
 omega
theorem lw_am {T B : Int} (h0 : 0 <= T) (h1 : 1 <= B) : Am (lw T B) := low_amt h0 h1
theorem lw_cross (T B : Int) : (lw T B).1 * B = T * (lw T B).2 := low_cross T B
theorem lw_pos {T B : Int} (h0 : 1 <= T) (h1 : 1 <= B) : 1 <= (lw T B).1 := by
 have am := lw_am (show 0 <= T by omega) h1
 have c := lw_cross T B
 have t0 := am.t0
 have b1 := am.b1
 by_cases z : (lw T B).1 = 0
 ·rw [z,Int.zero_mul] at c
  have := mul1 h0 b1
  omega
 ·omega
theorem lw_le {T B : Int} (h0 : 0 <= T) (h1 : 1 <= B) : (lw T B).1 <= T /\ (lw T B).2 <= B := ⟨Int.ediv_le_self _ h0,Int.ediv_le_self _ (by omega)⟩
theorem lw_bt {T B : Int} {n : Nat} (h0 : 0 <= T) (h1 : 1 <= B) (hT : Bt n T) (hB : Bt n B) : Bt n (lw T B).1 /\ Bt n (lw T B).2 := ⟨hT.le (lw_am h0 h1).t0 (lw_le h0 h1).1,hB.le (by have := (lw_am h0 h1).b1; omega) (lw_le h0 h1).2⟩
theorem Am.mul {a b : Q} (h : Am a) (k : Am b) : 1 <= a.2 * b.2 := mul1 h.b1 k.b1
theorem Am.num {a b : Q} (h : Am a) (k : Am b) : 0 <= a.1 * b.2 + b.1 * a.2 := by
 have := Int.mul_nonneg h.t0 (show 0 <= b.2 by have := k.b1; omega)
 have := Int.mul_nonneg k.t0 (show 0 <= a.2 by have := h.b1; omega)
 omega
theorem add_am {a b : Q} (h : Am a) (k : Am b) : Am (add a b) := lw_am (h.num k) (h.mul k)
theorem am0 : Am (0,1) := amt_one (by decide)
def Fq (M : Int) (a : Q) (N : Int) : Prop := Fr M a.1 a.2 N
def fo (l : Q) (ss : List Q) : Q := ss.foldl add l
def nsum (M : Int) (ss : List Q) : Int := (ss.map fun s => s.1 * (M / s.2)).sum
def prod (ss : List Q) : Int := (ss.map (·.2)).foldr (· * ·) 1
open PySem (Str)
inductive Rw where
 | take (a : Q) (x : Str)
 | parts (a : Q) (ps : List (Int × Str))
 | to (n : Int) (x : Str)
 | fill (a : Q) (x : Str)
abbrev Pu := Int × Str × Q
def ptot (ps : List (Int × Str)) : Int := (ps.map (·.1)).sum
def lacks (a l : Q) : Q := lw (a.1 * l.2 - l.1 * a.2) (a.2 * l.2)
def rowP (i : Int) (l : Q) : Rw -> List Pu
 | .take a x => [(i,x,a)]
 | .parts a ps => ps.map fun p => (i,p.2,lw (a.1 * p.1) (a.2 * ptot ps))
 | .to n x => [(i,x,lw (l.1 * n) l.2)]
 | .fill a x => if 0 < (lacks a l).1 then [(i,x,lacks a l)] else []
def amts (ps : List Pu) : List Q := ps.map (·.2.2)
structure Sm (a : Q) : Prop where
 am : Am a
 t1 : 1 <= a.1
 bt : Bt 31 a.1
 bb : Bt 31 a.2
def ROk (l : Q) : Rw -> Prop
 | .take a _ => Sm a
 | .parts a ps => Sm a /\ 1 <= ps.length /\ ps.length <= 4 /\ ∀ p ∈ ps,1 <= p.1 /\ p.1 <= 9
 | .to n _ => 1 <= n /\ n <= 9 /\ 1 <= l.1
 | .fill a _ => Sm a /\ l.1 * a.2 <= a.1 * l.2
inductive Rs : List Rw -> List Pu -> Q -> Prop
 | nil : Rs [] [] (0,1)
 | snoc {rs ps l r} : Rs rs ps l -> ROk l r -> Rs (rs ++ [r]) (ps ++ rowP rs.length l r) (fo l (amts (rowP rs.length l r)))
structure RI (n : Nat) (ps : List Pu) (l : Q) (M N V : Int) : Prop where
 fq : Fq M l N
 M0 : 0 < M
 bM : Bt (40 * n + 1) M
 V1 : 1 <= V
 bV : Bt (38 * n + 1) V
 NV : N <= V * M
 dv : ∀ p ∈ ps,Am p.2.2 /\ 1 <= p.2.2.1 /\ p.2.2.2 ∣ M /\ p.2.2.1 <= V * p.2.2.2
 lf : l = fo (0,1) (amts ps)
 ln : ps.length <= 4 * n
 ps' : 1 <= n -> 1 <= l.1
theorem bt_of (n : Nat) {x c : Int} (h0 : 0 <= x) (h : x < c) (hc : c <= ((2 ^ n : Nat) : Int) := by decide +kernel) : Bt n x := by
 show x.natAbs < 2 ^ n
 omega
end BQ
namespace BQ
open GM L2
open PySem (Str)
theorem add_pos {a b : Q} (h : Am a) (k : Am b) (p : 1 <= a.1 \/ 1 <= b.1) : 1 <= (add a b).1 := by
 refine lw_pos ?_ (h.mul k)
 have n1 := Int.mul_nonneg h.t0 (show 0 <= b.2 by have := k.b1; omega)
 have n2 := Int.mul_nonneg k.t0 (show 0 <= a.2 by have := h.b1; omega)
 rcases p with p | p
 ·have := mul1 p k.b1; omega
 ·have := mul1 p h.b1; omega
end BQ
namespace BQ
open PySem PySem.Spec PyProof.Rows L2 GM
structure L2R {α : Type} (R : V -> α -> Prop) (us : List V) (ps : List α) : Prop where
 len : us.length = ps.length
 at' : ∀ (i : Nat) u p,us[i]? = some u -> ps[i]? = some p -> R u p
theorem L2R.nil {α : Type} {R : V -> α -> Prop} : L2R R [] [] := ⟨rfl,fun i u p h => by simp at h⟩
theorem L2R.imp {α : Type} {R S : V -> α -> Prop} {us : List V} {ps : List α} (h : L2R R us ps) (f : ∀ u p,R u p -> S u p) : L2R S us ps := ⟨h.len,fun i u p a b => f u p (h.at' i u p a b)⟩
theorem L2R.get {α : Type} {R : V -> α -> Prop} {us : List V} {ps : List α} (h : L2R R us ps) {i : Nat} {u : V} (e : us[i]? = some u) : ∃ p,ps[i]? = some p /\ R u p := by
 have hi : i < ps.length := by rw [<- h.len]; exact (List.getElem?_eq_some_iff.mp e).1
 exact ⟨ps[i],List.getElem?_eq_getElem hi,h.at' i u _ e (List.getElem?_eq_getElem hi)⟩
theorem L2R.snoc {α : Type} {R : V -> α -> Prop} {us : List V} {ps : List α} {u : V} {p : α} (h : L2R R us ps) (r : R u p) : L2R R (us ++ [u]) (ps ++ [p]) := by
 refine ⟨by rw [List.length_append,List.length_append,h.len]; rfl,fun i v q hv hq => ?_⟩
 rcases snoc_get hv with ⟨_,a⟩ | ⟨e,rfl⟩
 ·rcases snoc_get hq with ⟨_,b⟩ | ⟨e,_⟩
  ·exact h.at' i v q a b
  ·have := (List.getElem?_eq_some_iff.mp a).1
   have := h.len
   omega
 ·rcases snoc_get hq with ⟨l,_⟩ | ⟨_,rfl⟩
  ·have := h.len
   omega
  ·exact r
theorem L2R.one {α : Type} {R : V -> α -> Prop} {u : V} {p : α} (r : R u p) : L2R R [u] [p] := by
 have := (L2R.nil (R := R)).snoc r
 exact this
abbrev AmV (H : Hp) (m : Addr) (a : Q) : Prop := H m = some (.tup [.int a.1,.int a.2])
def PrV (H : Hp) (v : V) (p : Int × Str) : Prop := ∃ z,v = .ref z /\ H z = some (.tup [.int p.1,.str p.2])
def PaV (H : Hp) (v : V) (p : Str × Q) : Prop := ∃ z m,v = .ref z /\ H z = some (.tup [.str p.1,.ref m]) /\ AmV H m p.2
def PuV (H : Hp) (v : V) (p : Pu) : Prop := ∃ z m,v = .ref z /\ H z = some (.tup [.int p.1,.str p.2.1,.ref m]) /\ AmV H m p.2.2
theorem PrV.keep {H H' : Hp} {v : V} {p : Int × Str} (k : Tk H H') (h : PrV H v p) : PrV H' v p := by
 obtain ⟨z,e,a⟩ := h
 exact ⟨z,e,k _ _ a⟩
inductive RowV (H : Hp) : V -> Rw -> Prop
 | take {p m a x} : H p = some (.tup [.str "take",.ref m,.str x]) -> AmV H m a -> RowV H (.ref p) (.take a x)
 | parts {p m q a us ps} : H p = some (.tup [.str "parts",.ref m,.ref q]) -> AmV H m a -> H q = some (.tup us) -> L2R (PrV H) us ps -> RowV H (.ref p) (.parts a ps)
 | to {p n x} : H p = some (.tup [.str "to",.int n,.str x]) -> RowV H (.ref p) (.to n x)
 | fill {p m a x} : H p = some (.tup [.str "fill",.ref m,.str x]) -> AmV H m a -> RowV H (.ref p) (.fill a x)
theorem RowV.keep {H H' : Hp} {v : V} {r : Rw} (k : Tk H H') (h : RowV H v r) : RowV H' v r := by
 cases h with
 | take a b => exact .take (k _ _ a) (k _ _ b)
 | parts a b c d => exact .parts (k _ _ a) (k _ _ b) (k _ _ c) (d.imp fun _ _ x => x.keep k)
 | to a => exact .to (k _ _ a)
 | fill a b => exact .fill (k _ _ a) (k _ _ b)
def rowQ (l : Q) (r : Rw) : List (Str × Q) := (rowP 0 l r).map (·.2)
structure Sz (a : Q) : Prop where
 am : Am a
 bt : Bt 4000 a.1
 bb : Bt 4000 a.2
end BQ
namespace L2
open PySem PySem.Spec PyProof.Rows PySem.W
def tTryN (K : Frag) (Dc : Addr) (tb : St -> XK -> TS) (th : TS) : TS := fun D σ H => tb σ (fun cls _ H' => ∃ C,cls = .ref C /\ ExK K C /\ subIn K (.ref C) (.ref Dc) = some true /\ th D σ H') D σ H
section
variable {X : Cx}
theorem ps_tryN {body hb : List Stmt} {b0 : Stmt} {tb : St -> XK -> TS} {th : TS} {d : Str} {dp hpos pos : Pos} {Dc : Addr} (O : OwnF X) (hg : Gl X d) (hm : X.mg d = some (.ref Dc)) (F : CtK X.K Dc)
  (hb' : ∀ (pins : List (Addr × Obj)) (E' : Value -> Shared -> Prop) (σ : St) (Ec : XK),PassesAt (CXg X.prog X.w) (X.trying pins E') σ Ec -> PSs (X.trying pins E') body (tb σ Ec))
  (hh : ∀ ea : Addr,PSs (X.within (.ref ea)) (b0 :: hb) th)
  (hdb : (d == ("__debug__" : Str)) = false := by decide) :
  PS X (.Try body [.ExceptHandler (some (.Name d dp)) none (b0 :: hb) hpos] [] [] pos) (tTryN X.K Dc tb th) := by
 intro pins s σ H D I h
 refine wpAny_Try_except (wpAny_mono (hb' pins _ σ _ ?hp [] s σ H D (I.trying _) h) (fun f s1 z => ?_) fun _ _ z => z)
 case hp =>
  intro pl Hc sc e s' I0 hx
  have I1 : Inv X pins σ Hc sc := I0.tried
  obtain ⟨ea,C,dd,H',rfl,Fl,C',e1,FK,hsub,hk⟩ := hx
  cases e1
  obtain ⟨B,hok,fl,bk,th⟩ := Fl.fl
  have hfr : X.A.frames = some (X.env :: X.outer) := by rw [<- O.stk]; exact I1.ok.frames
  have fl' : FlyD B (X.env :: X.outer) ea (.ref C) dd .none s'.heap := by rw [<- O.stk]; exact fl
  refine noteD hfr O.fr fl' fun h4 held4 up4 => ?_
  refine flightD held4 fun h5 fl5 up5 => ?_
  have mk : ∀ h6 : Heap,B.StaysIn h6 -> s'.heap.UpToSlots h6 -> Inv X pins σ H' { s' with heap := h6 } := fun h6 st up =>
   I1.call' (s' := { s' with heap := h6 }) (ch := []) Fl.os (un_here I1 Fl.un bk th st up) (hok.kept st) Fl.bare (by simp)
  have I5 := mk h5 fl5.st (up4.trans up5)
  obtain ⟨ob,_,hob,hobc,_,_⟩ := fl5.at
  refine wpAny_handleBy_cons (codeAny_handlers_test (ld_glob (I5.within (.ref ea)) hg hm ?_ hdb)) (by intro q; cases q)
  refine exc_matches I5.kIn ⟨hob,hobc⟩ F hsub ?_
  refine codeAny_handlers_suite ?_
  refine flightD fl5 fun h6 fl6 up6 => ?_
  have I6 := mk h6 fl6.st ((up4.trans up5).trans up6)
  refine wpAny_mono (hh ea pins _ σ H' D (I6.within (.ref ea)) hk) (fun f s9 hf => ?_) (fun _ _ q => q.elim)
  cases f with
  | next =>
   obtain ⟨σ9,H9,I9,q⟩ := hf
   exact ⟨σ9,H9,I9.without I1.ok,q⟩
  | brk =>
   obtain ⟨σ9,H9,I9,q⟩ := hf
   exact ⟨σ9,H9,I9.without I1.ok,q⟩
  | cont =>
   obtain ⟨σ9,H9,I9,q⟩ := hf
   exact ⟨σ9,H9,I9.without I1.ok,q⟩
  | ret u =>
   obtain ⟨v,σ9,H9,I9,r,q⟩ := hf
   exact ⟨v,σ9,H9,I9.without I1.ok,r,q⟩
 ·have z' := SP.tried z
  cases f with
  | next => exact wpAny_execs_nil z'
  | brk => exact z'
  | cont => exact z'
  | ret u => exact z'
end
end L2
namespace K11
open PySem PySem.Spec PyProof.Rows L2 GM TM BQ
structure L3 {α β : Type} (R : α -> β -> Prop) (xs : List α) (ys : List β) : Prop where
 len : xs.length = ys.length
 at' : ∀ (i : Nat) x y,xs[i]? = some x -> ys[i]? = some y -> R x y
def OptV {α : Type} (R : Str -> α -> Prop) (W : Hp -> V -> α -> Prop) (H : Hp) (v : V) (x : Str) : Prop := (∃ a,R x a /\ W H v a) \/ ((∀ a,¬ R x a) /\ v = .non)
def spOp {α : Type} (R : Str -> α -> Prop) (W : Hp -> V -> α -> Prop) : Sp := fun vs H Q _ => ∃ x : Str,vs = [.str x] /\ (cps x).length <= 900 /\ ∀ v H',Same H H' -> OptV R W H' v x -> Q v H'
def Gv (H : Hp) (v : V) : Prop := (∃ x,v = .str x) \/ (∃ n,v = .int n) \/ ∃ a ys,v = .ref a /\ H a = some (.tup ys)
theorem Gv.ne {H : Hp} {v : V} (h : Gv H v) : v ≠ .non := by
 rcases h with ⟨_,rfl⟩ | ⟨_,rfl⟩ | ⟨_,_,rfl,_⟩ <;> intro z <;> cases z
def spAon : Sp := fun vs H Q _ => ∃ l us,vs = [.ref l] /\ H l = some (.lst us) /\ (∀ v ∈ us,v = .non \/ Gv H v) /\ (.non ∈ us -> Q .non H) /\ (.non ∉ us -> ∀ p,H p = none -> Q (.ref p) (upd H p (.tup us)))
def NameR (x : Str) (w : Str) : Prop := Wr x /\ w = x
def NameV (_ : Hp) (v : V) (w : Str) : Prop := v = .str w
def NumR (x : Str) (n : Int) : Prop := Fig (cps x) /\ n = (NumText.digitsVal (cps x) : Nat) /\ 1 <= n /\ n <= 1000
def NumV (_ : Hp) (v : V) (n : Int) : Prop := v = .int n
def AmR (x : Str) (a : BQ.Q) : Prop := ∃ t b : Nat,Reads (cps x) t b /\ a = ((t : Int),(b : Int)) /\ 1 <= t /\ t <= 999999999 /\ b <= 999999999
def AmW (H : Hp) (v : V) (a : BQ.Q) : Prop := ∃ m,v = .ref m /\ AmV H m a
def BL : Str := " "
def ShareR (x : Str) (p : Int × Str) : Prop := ∃ a b,Txt.split x BL = [a,b] /\ NumR a p.1 /\ NameR b p.2
def PairR (x : Str) (p : Str × Str) : Prop := ∃ a b,Txt.split x BL = [a,b] /\ NameR a p.1 /\ NameR b p.2
def PairV (H : Hp) (v : V) (p : Str × Str) : Prop := ∃ z,v = .ref z /\ H z = some (.tup [.str p.1,.str p.2])
theorem opt_one {α : Type} {R : Str -> α -> Prop} {W : Hp -> V -> α -> Prop} {H : Hp} {v : V} {x : Str} (gw : ∀ v a,W H v a -> Gv H v) (h : OptV R W H v x) : v = .non \/ Gv H v := by
 rcases h with ⟨a,_,w⟩ | ⟨_,rfl⟩
 ·exact .inr (gw v a w)
 ·exact .inl rfl
theorem split_len {x y : Str} {B : Nat} (h : (cps x).length <= B) : ∀ p ∈ Txt.split x y,(cps p).length <= B := by
 have jn := StrLaws.join_split x y
 have key : ∀ (ps : List Str) (p : Str),p ∈ ps -> (cps p).length <= (cps (Str.join y ps)).length := by
  intro ps
  induction ps with
  | nil => intro p hp; cases hp
  | cons q r ih =>
   intro p hp
   cases r with
   | nil =>
    rw [List.mem_singleton.mp hp]
    exact Nat.le_refl _
   | cons q' r =>
    have e : Str.join y (q :: q' :: r) = q ++ y ++ Str.join y (q' :: r) := rfl
    rw [e,cps_append',cps_append',List.length_append,List.length_append]
    rcases List.mem_cons.mp hp with rfl | hp
    ·omega
    ·have := ih p hp
     omega
 intro p hp
 have := key _ p hp
 rw [jn] at this
 omega
theorem split_count {x y : Str} (hy : 1 <= (cps y).length) : (Txt.split x y).length <= (cps x).length + 1 := by
 have jn := StrLaws.join_split x y
 have key : ∀ (ps : List Str),ps.length <= (cps (Str.join y ps)).length + 1 := by
  intro ps
  induction ps with
  | nil => exact Nat.zero_le _
  | cons q r ih =>
   cases r with
   | nil => show 1 <= _; omega
   | cons q' r =>
    have e : Str.join y (q :: q' :: r) = q ++ y ++ Str.join y (q' :: r) := rfl
    rw [e,cps_append',cps_append',List.length_append,List.length_append,List.length_cons]
    omega
 have := key (Txt.split x y)
 rwa [jn] at this
theorem part_len {x y : Str} {B : Nat} (h : (cps x).length <= B) : (cps (Txt.partition x y).1).length <= B /\ (cps (Txt.partition x y).2.2).length <= B := by
 unfold Txt.partition
 split
 ·rename_i i r e
  constructor
  ·show (cps (PySem.Builtin.Str.strSub x 0 i)).length <= B
   rw [cps,StrLaws.strSub_toList]
   simp only [List.length_take,List.length_drop]
   have : x.cps.toList.length <= B := h
   omega
  ·show (cps (PySem.Builtin.Str.strSub x (i + y.length) x.length)).length <= B
   rw [cps,StrLaws.strSub_toList]
   simp only [List.length_take,List.length_drop]
   have : x.cps.toList.length <= B := h
   omega
 ·exact ⟨h,Nat.zero_le _⟩
section
variable {P : Program} {w : World} {K : PySem.W.Frag} {mg : Str -> Option Value} {base : Heap}
theorem scAon : FnScope ["parts"] ["parts"] (defScope sAon) := ⟨rfl,rfl,rfl,by decide +kernel,rfl,by decide +kernel,by decide +kernel⟩
theorem ok_aon {f : Addr} {fd : FuncData} (F : Fun K "all_or_none" "all_or_none" sAon f fd) (T : Txt mg) : FnOk P w K mg base CX0 1 f fd ["parts"] spAon := by
 refine F.ok scAon (fun vs H Q E h => ?_) (fun cdv A outer s H vs Q E hr h => ?_)
 ·obtain ⟨_,_,rfl,_⟩ := h
  rfl
 ·obtain ⟨l,us,rfl,hl,hg,kN,kT⟩ := h
  refine ⟨_,(pss_one (ps_ret (pe_ifExp (pt_cmpR (op_inN hr.units) pe_non (pv 0) rfl) pe_non (pe_callTy call_tuple_of rfl T.tup' bt_tuple (pa_cons (pv 0) pa_nil))))),?_⟩
  refine ⟨_,rfl,l,us,rfl,rfl,SqL.of hl,fun v hv => ?_,_,rfl,?_⟩
  ·rcases hg v hv with rfl | ⟨_,rfl⟩ | ⟨_,rfl⟩ | ⟨a,ys,rfl,ha⟩
   ·exact .inl rfl
   ·exact .inl rfl
   ·exact .inl rfl
   ·exact .inr ⟨a,ys,rfl,SqT.of ha⟩
  ·by_cases hn : V.non ∈ us
   ·rw [show (us.any fun v => decide (v = .non)) = true from List.any_eq_true.mpr ⟨_,hn,decide_eq_true rfl⟩]
    exact iteT (kN hn)
   ·rw [show (us.any fun v => decide (v = .non)) = false from by
     rw [Bool.eq_false_iff]
     intro z
     obtain ⟨v,hv,hd⟩ := List.any_eq_true.mp z
     exact hn (of_decide_eq_true hd ▸ hv)]
    exact iteF ⟨_,rfl,l,us,rfl,.inl ⟨SqL.of hl,fun p hp => kT hn p hp⟩⟩
theorem scName : FnScope ["word"] ["word"] (defScope sName) := ⟨rfl,rfl,rfl,by decide +kernel,rfl,by decide +kernel,by decide +kernel⟩
theorem ok_name {f : Addr} {fd : FuncData} (F : Fun K "read_name" "read_name" sName f fd) (cW : Cal P w K mg base CX0 2 "is_ware" ["thing"] (spIsWare K)) : FnOk P w K mg base CX0 3 f fd ["word"] (spOp NameR NameV) := by
 refine F.ok scName (fun vs H Q E h => ?_) (fun cdv A outer s H vs Q E hr h => ?_)
 ·obtain ⟨_,rfl,_⟩ := h
  rfl
 ·obtain ⟨x,rfl,hl,k⟩ := h
  replace hl : (cps x).length <= 1000 := Nat.le_trans hl (by decide)
  refine ⟨_,(pss_one (ps_ret (pe_ifExp (pt_val (pe_cal cW hr rfl pass0 (pa_cons (pv 0) pa_nil))) (pv 0) pe_non))),?_⟩
  refine ⟨_,rfl,_,rfl,.inr ⟨x,rfl,by rw [lenC]; exact hl,fun hw H' s' => ⟨_,rfl,iteT ⟨_,rfl,k _ H' s' (.inl ⟨x,⟨hw,rfl⟩,rfl⟩)⟩⟩,fun hw H' s' => ⟨_,rfl,iteF (k _ H' s' (.inr ⟨fun a z => hw z.1,rfl⟩))⟩⟩⟩
theorem scNumber : FnScope ["word","found"] ["word"] (defScope sNumber) := ⟨rfl,rfl,rfl,by decide +kernel,rfl,by decide +kernel,by decide +kernel⟩
theorem ok_number {f : Addr} {fd : FuncData} {tk : Tok} (F : Fun K "read_number" "read_number" sNumber f fd) (mM : mg "MOST_NUMBER" = some (.int 1000 tk)) (cF : Cal P w K mg base CX0 2 "read_figures" ["word"] spRf) : FnOk P w K mg base CX0 3 f fd ["word"] (spOp NumR NumV) := by
 refine F.ok scNumber (fun vs H Q E h => ?_) (fun cdv A outer s H vs Q E hr h => ?_)
 ·obtain ⟨_,rfl,_⟩ := h
  rfl
 ·obtain ⟨x,rfl,hl,k⟩ := h
  replace hl : (cps x).length <= 1000 := Nat.le_trans hl (by decide)
  refine ⟨_,(pss_cons (ps_set (i := 1) scNumber.nd rfl (Or.inl rfl) (pe_cal cF hr rfl pass0 (pa_cons (pv 0) pa_nil)))
   (pss_cons (ps_if (PW.pt (pw_or (pt_cmpR op_isN (pv 1) pe_non (nomark _)) (pw_or1 (pt_not (pt_chain op_le op_le pe_int (pv 1) (pe_glob (v := .int 1000) rfl mM ⟨_,rfl⟩))))))
    (pss_one (ps_ret pe_non))
    pss_nil)
   (pss_one (ps_ret (pv 1))))),?_⟩
  refine ⟨_,rfl,x,rfl,hl,fun fg H1 s1 => ?_,fun nf H1 s1 => ?_⟩
  ·refine ⟨_,rfl,rfl,_,rfl,iteF ⟨_,rfl,_,_,rfl,rfl,_,rfl,ite2 (fun h1 => ?_) (fun h1 => ?_)⟩⟩
   ·have h1' : (1 : Int) <= ((NumText.digitsVal (cps x) : Nat) : Int) := of_decide_eq_true h1
    refine ⟨_,_,rfl,rfl,_,rfl,?_⟩
    by_cases h2 : ((NumText.digitsVal (cps x) : Nat) : Int) <= 1000
    ·rw [decide_eq_true h2]
     exact iteF ⟨_,rfl,k _ H1 s1 (.inl ⟨_,⟨fg,rfl,h1',h2⟩,rfl⟩)⟩
    ·rw [decide_eq_false h2]
     exact iteT (k _ H1 s1 (.inr ⟨fun a z => h2 (z.2.1 ▸ z.2.2.2),rfl⟩))
   ·have h1' : ¬ (1 : Int) <= ((NumText.digitsVal (cps x) : Nat) : Int) := fun z => h1 (decide_eq_true z)
    exact ⟨_,rfl,iteT (k _ H1 s1 (.inr ⟨fun a z => h1' (z.2.1 ▸ z.2.2.1),rfl⟩))⟩
  ·exact ⟨_,rfl,rfl,_,rfl,iteT (k _ H1 s1 (.inr ⟨fun a z => nf z.1,rfl⟩))⟩
end
end K11
namespace K11
open PySem PySem.Spec PyProof.Rows L2 GM TM BQ
theorem non2 {a b : V} (h : V.non ∈ [a,b]) : a = .non \/ b = .non := by
 simp only [List.mem_cons,List.not_mem_nil,or_false] at h
 rcases h with h | h
 ·exact .inl h.symm
 ·exact .inr h.symm
theorem non3 {a b c : V} (h : V.non ∈ [a,b,c]) : a = .non \/ b = .non \/ c = .non := by
 simp only [List.mem_cons,List.not_mem_nil,or_false] at h
 rcases h with h | h | h
 ·exact .inl h.symm
 ·exact .inr (.inl h.symm)
 ·exact .inr (.inr h.symm)
theorem OptV.none {α : Type} {R : Str -> α -> Prop} {W : Hp -> V -> α -> Prop} {H : Hp} {x : Str} (gw : ∀ v a,W H v a -> Gv H v) (h : OptV R W H .non x) : ∀ a,¬ R x a := by
 rcases h with ⟨a,_,w⟩ | ⟨h,_⟩
 ·exact absurd rfl (gw _ _ w).ne
 ·exact h
theorem OptV.some {α : Type} {R : Str -> α -> Prop} {W : Hp -> V -> α -> Prop} {H : Hp} {v : V} {x : Str} (h : OptV R W H v x) (n : v ≠ .non) : ∃ a,R x a /\ W H v a := by
 rcases h with h | ⟨_,e⟩
 ·exact h
 ·exact absurd e n
theorem OptV.keep {α : Type} {R : Str -> α -> Prop} {W : Hp -> V -> α -> Prop} {H H' : Hp} {v : V} {x : Str} (kw : ∀ v a,W H v a -> W H' v a) (h : OptV R W H v x) : OptV R W H' v x := by
 rcases h with ⟨a,r,w⟩ | h
 ·exact .inl ⟨a,r,kw v a w⟩
 ·exact .inr h
theorem gName {H : Hp} (v : V) (w : Str) (h : NameV H v w) : Gv H v := .inl ⟨w,h⟩
theorem gNum {H : Hp} (v : V) (n : Int) (h : NumV H v n) : Gv H v := .inr (.inl ⟨n,h⟩)
theorem gAm {H : Hp} (v : V) (a : BQ.Q) (h : AmW H v a) : Gv H v := by
 obtain ⟨m,rfl,hm⟩ := h
 exact .inr (.inr ⟨m,_,rfl,hm⟩)
theorem kAm {H H' : Hp} (s : Same H H') (v : V) (a : BQ.Q) (h : AmW H v a) : AmW H' v a := by
 obtain ⟨m,rfl,hm⟩ := h
 exact ⟨m,rfl,s _ _ hm⟩
theorem gPr {H : Hp} (v : V) (p : Int × Str) (h : PrV H v p) : Gv H v := by
 obtain ⟨z,rfl,hz⟩ := h
 exact .inr (.inr ⟨z,_,rfl,hz⟩)
theorem Gv.keep {H H' : Hp} {v : V} (s : Same H H') (h : Gv H v) : Gv H' v := by
 rcases h with h | h | ⟨a,ys,e,h⟩
 ·exact .inl h
 ·exact .inr (.inl h)
 ·exact .inr (.inr ⟨a,ys,e,s _ _ h⟩)
theorem nG {H H' : Hp} {v : V} (s : Same H H') (h : v = .non \/ Gv H v) : v = .non \/ Gv H' v := h.imp id (Gv.keep s)
theorem opts_none {α : Type} {R : Str -> α -> Prop} {W : Hp -> V -> α -> Prop} {H : Hp} {ps : List Str} {us : List V} (gw : ∀ v a,W H v a -> Gv H v) (hl : us.length = ps.length) (h : ∀ (i : Nat) p u,ps[i]? = some p -> us[i]? = some u -> OptV R W H u p) (hn : V.non ∈ us) (as : List α) : ¬ L3 R ps as := by
 intro z
 obtain ⟨i,hi,e⟩ := List.getElem_of_mem hn
 have hi' : i < ps.length := by omega
 have hi2 : i < as.length := by rw [<- z.len]; exact hi'
 exact (h i _ _ (List.getElem?_eq_getElem hi') (by rw [List.getElem?_eq_getElem hi,e])).none gw _ (z.at' i _ _ (List.getElem?_eq_getElem hi') (List.getElem?_eq_getElem hi2))
theorem opts_some {α : Type} {R : Str -> α -> Prop} {W : Hp -> V -> α -> Prop} {H : Hp} : ∀ {ps : List Str} {us : List V},us.length = ps.length -> (∀ (i : Nat) p u,ps[i]? = some p -> us[i]? = some u -> OptV R W H u p) -> V.non ∉ us -> ∃ as,L3 R ps as /\ L2R (W H) us as
 | [],[],_,_,_ => ⟨[],⟨rfl,fun i x y h => by simp at h⟩,L2R.nil⟩
 | [],_ :: _,h,_,_ => by simp at h
 | _ :: _,[],h,_,_ => by simp at h
 | p :: ps,u :: us,hl,h,hn => by
  obtain ⟨a,ra,wa⟩ := (h 0 p u rfl rfl).some (fun z => hn (by rw [z]; simp))
  obtain ⟨as,l3,l2⟩ := opts_some (ps := ps) (us := us) (by simpa using hl) (fun i p u hp hu => h (i + 1) p u (by simpa using hp) (by simpa using hu)) (fun z => hn (List.mem_cons_of_mem _ z))
  refine ⟨a :: as,⟨by simp [l3.len],fun i x y hx hy => ?_⟩,⟨by simp [l2.len],fun i x y hx hy => ?_⟩⟩
  ·cases i with
   | zero => simp at hx hy; rw [<- hx,<- hy]; exact ra
   | succ i => exact l3.at' i x y (by simpa using hx) (by simpa using hy)
  ·cases i with
   | zero => simp at hx hy; rw [<- hx,<- hy]; exact wa
   | succ i => exact l2.at' i x y (by simpa using hx) (by simpa using hy)
theorem opts_gv {α : Type} {R : Str -> α -> Prop} {W : Hp -> V -> α -> Prop} {H : Hp} {ps : List Str} {us : List V} (gw : ∀ v a,W H v a -> Gv H v) (hl : us.length = ps.length) (h : ∀ (i : Nat) p u,ps[i]? = some p -> us[i]? = some u -> OptV R W H u p) : ∀ v ∈ us,v = .non \/ Gv H v := fun v hv => by
 obtain ⟨i,hi,e⟩ := List.getElem_of_mem hv
 exact opt_one gw (h i _ v (List.getElem?_eq_getElem (show i < ps.length by omega)) (by rw [List.getElem?_eq_getElem hi,e]))
theorem sz2 {x : Str} (h : (cps x).length <= 1000) : x.length + 2 <= sizeLine := by
 rw [lenC]
 exact Nat.le_trans (Nat.add_le_add_right h 2) (by decide)
section
variable {P : Program} {w : World} {K : PySem.W.Frag} {mg : Str -> Option Value} {base : Heap} {cP c0 fI : Addr}
theorem scRowAm : FnScope ["word","found"] ["word"] (defScope sRowAm) := ⟨rfl,rfl,rfl,by decide +kernel,rfl,by decide +kernel,by decide +kernel⟩
theorem ok_rowam {f : Addr} {fd : FuncData} {tk : Tok} (F : Fun K "read_row_amount" "read_row_amount" sRowAm f fd) (R : ErN K mg cP c0 fI) (mM : mg "MOST_IN_AMOUNT" = some (.int 999999999 tk)) (cA : Cal P w K mg base (CXg P w) 3 "read_amount" ["text"] (spRa K c0)) : FnOk P w K mg base CX0 4 f fd ["word"] (spOp AmR AmW) := by
 refine F.ok scRowAm (fun vs H Q E h => ?_) (fun cdv A outer s H vs Q E hr h => ?_)
 ·obtain ⟨_,rfl,_⟩ := h
  rfl
 ·obtain ⟨x,rfl,hl,k⟩ := h
  replace hl : (cps x).length <= 1000 := Nat.le_trans hl (by decide)
  refine ⟨_,(pss_cons (ps_tryN ⟨rfl,rfl,rfl⟩ rfl R.m0 R.ctN (fun pins E' σ Ec hp => pss_one (ps_set (i := 1) scRowAm.nd rfl (Or.inl rfl) (pe_calS cA hr rfl hp (pa_cons (pv 0) pa_nil)))) (fun ea => pss_one (ps_ret pe_non)))
   (pss_cons (ps_if (PW.pt (pw_or (pt_not (pt_chain op_le op_le pe_int (pit 1 0) (pe_glob (v := .int 999999999) rfl mM ⟨_,rfl⟩))) (pw_or1 (pt_cmpR op_gt (pit 1 1) (pe_glob (v := .int 999999999) rfl mM ⟨_,rfl⟩) (nomark _)))))
    (pss_one (ps_ret pe_non))
    pss_nil)
   (pss_one (ps_ret (pv 1))))),?_⟩
  refine ⟨rfl,_,rfl,_,rfl,.inr ⟨x,rfl,hl,fun t b rd p H1 s1 h1 => ?_,fun nr dx H1 s1 _ => ⟨c0,rfl,R.ef.i.k,R.sN,k _ H1 s1 (.inr ⟨fun a ⟨t,b,rd,_⟩ => nr t b rd,rfl⟩)⟩⟩⟩
  have sq : SqT K H1 p [.int t,.int b] := SqT.of h1
  refine ⟨p,_,_,rfl,sq,rfl,_,_,rfl,rfl,_,rfl,ite2 (fun g1 => ?_) (fun g1 => ?_)⟩
  ·have g1' : (1 : Int) <= (t : Int) := of_decide_eq_true g1
   refine ⟨_,_,rfl,rfl,_,rfl,?_⟩
   by_cases g2 : (t : Int) <= 999999999
   ·rw [decide_eq_true g2]
    refine iteF ⟨p,_,_,rfl,sq,rfl,_,_,rfl,rfl,_,rfl,ite2 (fun g3 => ?_) (fun g3 => ?_)⟩
    ·have g3' : (999999999 : Int) < (b : Int) := of_decide_eq_true g3
     refine k _ H1 s1 (.inr ⟨fun a ⟨t',b',rd',e,_,_,hb⟩ => ?_,rfl⟩)
     obtain ⟨rfl,rfl⟩ := reads_unique rd rd'
     omega
    ·have g3' : ¬ (999999999 : Int) < (b : Int) := fun z => g3 (decide_eq_true z)
     exact ⟨_,rfl,k _ H1 s1 (.inl ⟨((t : Int),(b : Int)),⟨t,b,rd,rfl,by omega,by omega,by omega⟩,p,rfl,h1⟩)⟩
   ·rw [decide_eq_false g2]
    refine iteT (k _ H1 s1 (.inr ⟨fun a ⟨t',b',rd',e,_,ht,hb⟩ => ?_,rfl⟩))
    obtain ⟨rfl,rfl⟩ := reads_unique rd rd'
    omega
  ·have g1' : ¬ (1 : Int) <= (t : Int) := fun z => g1 (decide_eq_true z)
   refine ⟨_,rfl,iteT (k _ H1 s1 (.inr ⟨fun a ⟨t',b',rd',e,ht,_,hb⟩ => ?_,rfl⟩))⟩
   obtain ⟨rfl,rfl⟩ := reads_unique rd rd'
   omega
theorem scShare : FnScope ["text","words"] ["text"] (defScope sShare) := ⟨rfl,rfl,rfl,by decide +kernel,rfl,by decide +kernel,by decide +kernel⟩
theorem ok_share {f : Addr} {fd : FuncData} (F : Fun K "read_share" "read_share" sShare f fd) (T : Txt mg) (cO : Cal P w K mg base CX0 4 "all_or_none" ["parts"] spAon) (cN : Cal P w K mg base CX0 4 "read_number" ["word"] (spOp NumR NumV)) (cW : Cal P w K mg base CX0 4 "read_name" ["word"] (spOp NameR NameV)) : FnOk P w K mg base CX0 5 f fd ["text"] (spOp ShareR PrV) := by
 refine F.ok scShare (fun vs H Q E h => ?_) (fun cdv A outer s H vs Q E hr h => ?_)
 ·obtain ⟨_,rfl,_⟩ := h
  rfl
 ·obtain ⟨x,rfl,hl,k⟩ := h
  refine ⟨_,(pss_cons (ps_set (i := 1) scShare.nd rfl (Or.inl rfl) (pe_bm PySem.F.plainAttrs_str PySem.F.slot_str_split PySem.F.type_str_split mt_split (pv 0) (pa_cons pe_str pa_nil)))
   (pss_cons (ps_if (pt_cmpR op_ne (pe_callB call_len_seq rfl T.len PySem.boot_len (pa_cons (pv 1) pa_nil)) pe_int (nomark _))
    (pss_one (ps_ret pe_non))
    pss_nil)
   (pss_one (ps_ret (pe_cal cO hr rfl pass0 (pa_cons (pe_lst (pa_cons (pe_cal cN hr rfl pass0 (pa_cons (pe_ix ix_list (pv 1) pe_int (fun _ _ => rfl)) pa_nil)) (pa_cons (pe_cal cW hr rfl pass0 (pa_cons (pe_ix ix_list (pv 1) pe_int (fun _ _ => rfl)) pa_nil)) pa_nil))) pa_nil)))))),?_⟩
  refine ⟨_,rfl,rfl,x,_,rfl,rfl,rfl,sz2 (Nat.le_trans hl (by decide)),fun pp hpp => ?_⟩
  have hls := split_len (y := Str.ofString " ") hl
  have e0 : Txt.split x (Str.ofString " ") = Txt.split x BL := rfl
  generalize hps : Txt.split x (Str.ofString " ") = ps at hls
  have s1 : Same H (upd H pp (.lst (ps.map V.str))) := Same.upd hpp
  have hq : (upd H pp (.lst (ps.map V.str))) pp = some (.lst (ps.map V.str)) := upd_same
  refine ⟨_,rfl,pp,_,rfl,.inl (SqL.of hq),rfl,_,rfl,ite2 (fun h2 => ?_) (fun h2 => ?_)⟩
  ·have h2' : ps.length ≠ 2 := fun z => by
    rw [List.length_map,z] at h2
    exact absurd h2 (by decide)
   refine k _ _ s1 (.inr ⟨fun a ⟨u,v,e,_⟩ => h2' ?_,rfl⟩)
   rw [<- hps,e0,e]
   rfl
  ·have h2' : ps.length = 2 := by
    rw [List.length_map] at h2
    have := h2
    simp only [bne_iff_ne,ne_eq,Decidable.not_not,Bool.not_eq_true,Bool.not_eq_false',decide_eq_true_eq,V.int.injEq] at this
    omega
   obtain ⟨a,b,rfl⟩ : ∃ a b,ps = [a,b] := by
    match ps,h2' with
    | [a,b],_ => exact ⟨a,b,rfl⟩
   refine ⟨_,rfl,pp,_,0,_,rfl,rfl,SqL.of hq,rfl,a,rfl,hls a (by simp),fun v1 H1 t1 o1 => ?_⟩
   refine ⟨_,rfl,pp,_,1,_,rfl,rfl,SqL.of (t1 _ _ hq),rfl,b,rfl,hls b (by simp),fun v2 H2 t2 o2 => ?_⟩
   refine ⟨(by show 2 <= sizeLine; decide),fun z hz => ?_⟩
   have o1' : OptV NumR NumV H2 v1 a := OptV.keep (H := H1) (fun _ _ h => h) o1
   have s3 : Same H2 (upd H2 z (.lst [v1,v2])) := Same.upd hz
   refine ⟨z,_,rfl,upd_same,fun v hv => ?_,fun hn => ?_,fun hn p hp => ?_⟩
   ·rcases List.mem_cons.mp hv with rfl | hv
    ·exact nG s3 (opt_one gNum o1')
    ·rw [List.mem_singleton.mp hv]
     exact nG s3 (opt_one gName o2)
   ·refine k _ _ (((s1.trans t1).trans t2).trans s3) (.inr ⟨fun a' ⟨u,v,e,hu,hv⟩ => ?_,rfl⟩)
    have : [a,b] = [u,v] := by rw [<- hps,e0,e]
    cases this
    rcases non2 hn with rfl | rfl
    ·exact o1.none gNum _ hu
    ·exact o2.none gName _ hv
   ·obtain ⟨n,rn,rfl⟩ := o1.some (fun z => hn (by rw [z]; simp))
    obtain ⟨wd,rw',rfl⟩ := o2.some (fun z => hn (by rw [z]; simp))
    exact k _ _ ((((s1.trans t1).trans t2).trans s3).trans (Same.upd hp)) (.inl ⟨(n,wd),⟨a,b,hps,rn,rw'⟩,p,rfl,upd_same⟩)
end
end K11
namespace L2
open PySem PySem.Spec PyProof.Rows
section
variable {D : Ends} {σ : L2.St} {H : Hp}
end
end L2
namespace K11
open PySem PySem.Spec PyProof.Rows L2 GM TM BQ
def CS : Str := ": "
def CM : Str := ", "
def SC : Str := "; "
def PTS : Str := "parts "
def PartsR (x : Str) (r : Rw) : Prop := ∃ a ps,r = .parts a ps /\ AmR (Txt.partition x CS).1 a /\ L3 ShareR (Txt.split (Txt.partition x CS).2.2 CM) ps /\ ps.length <= 4
theorem gRow {H : Hp} (v : V) (r : Rw) (h : RowV H v r) : Gv H v := by
 cases h with
 | take a _ => exact .inr (.inr ⟨_,_,rfl,a⟩)
 | parts a _ _ _ => exact .inr (.inr ⟨_,_,rfl,a⟩)
 | to a => exact .inr (.inr ⟨_,_,rfl,a⟩)
 | fill a _ => exact .inr (.inr ⟨_,_,rfl,a⟩)
theorem s_tk {H H' : Hp} (s : Same H H') : Tk H H' := Same.tk s
theorem ndT : (["text"] : List Str).Nodup := by decide +kernel
theorem ndW : (["word"] : List Str).Nodup := by decide +kernel
theorem size_in {x : Str} (h : (cps x).length <= 900) : x.length <= sizeLine := by
 rw [lenC]
 exact Nat.le_trans h (by decide)
theorem sz3 {x : Str} (h : (cps x).length <= 900) : x.length + 2 <= sizeLine := sz2 (Nat.le_trans h (by decide))
section
variable {P : Program} {w : World} {K : PySem.W.Frag} {mg : Str -> Option Value} {base : Heap}
theorem scApart : FnScope ["rest","words"] ["rest"] (defScope sApart) := ⟨rfl,rfl,rfl,by decide +kernel,rfl,by decide +kernel,by decide +kernel⟩
theorem ok_apart {f : Addr} {fd : FuncData} (F : Fun K "read_apart" "read_apart" sApart f fd) (T : Txt mg) (cO : Cal P w K mg base CX0 4 "all_or_none" ["parts"] spAon) (cW : Cal P w K mg base CX0 4 "read_name" ["word"] (spOp NameR NameV)) : FnOk P w K mg base CX0 5 f fd ["rest"] (spOp PairR PairV) := by
 refine F.ok scApart (fun vs H Q E h => ?_) (fun cdv A outer s H vs Q E hr h => ?_)
 ·obtain ⟨_,rfl,_⟩ := h
  rfl
 ·obtain ⟨x,rfl,hl,k⟩ := h
  refine ⟨_,(pss_cons (ps_set (i := 1) scApart.nd rfl (Or.inl rfl) (pe_bm PySem.F.plainAttrs_str PySem.F.slot_str_split PySem.F.type_str_split mt_split (pv 0) (pa_cons pe_str pa_nil)))
   (pss_cons (ps_if (pt_cmpR op_ne (pe_callB call_len_seq rfl T.len PySem.boot_len (pa_cons (pv 1) pa_nil)) pe_int (nomark _))
    (pss_one (ps_ret pe_non))
    pss_nil)
   (pss_one (ps_ret (pe_cal cO hr rfl pass0 (pa_cons (pe_comp (N' := ["word"]) (cl := []) (fun _ => [none]) rfl rfl (by decide +kernel) (by decide +kernel) (clOk_plain (by decide +kernel)) (fun _ _ => blkN_none) (pi_list (pv 1)) (fun _ _ _ _ _ => pg_name (i := 0) ndW rfl (Or.inl rfl)) (fun _ _ _ _ _ => pifs_nil) (fun _ _ _ _ _ => pe_cal cW hr rfl pass0 (pa_cons (pv 0) pa_nil))) pa_nil)))))),?_⟩
  refine ⟨_,rfl,rfl,x,_,rfl,rfl,rfl,sz3 hl,fun pp hpp => ?_⟩
  have hls := split_len (y := Str.ofString " ") hl
  generalize hps : Txt.split x (Str.ofString " ") = ps at hls
  have s1 : Same H (upd H pp (.lst (ps.map V.str))) := Same.upd hpp
  have hq : (upd H pp (.lst (ps.map V.str))) pp = some (.lst (ps.map V.str)) := upd_same
  refine ⟨_,rfl,pp,_,rfl,.inl (SqL.of hq),rfl,_,rfl,ite2 (fun h2 => ?_) (fun h2 => ?_)⟩
  ·have h2' : ps.length ≠ 2 := fun z => by
    rw [List.length_map,z] at h2
    exact absurd h2 (by decide)
   refine k _ _ s1 (.inr ⟨fun a ⟨u,v,e,_⟩ => h2' ?_,rfl⟩)
   have e' : ps = [u,v] := hps.symm.trans e
   rw [e']
   rfl
  ·have h2' : ps.length = 2 := by
    rw [List.length_map] at h2
    have := h2
    simp only [bne_iff_ne,ne_eq,Decidable.not_not,Bool.not_eq_true,Bool.not_eq_false',decide_eq_true_eq,V.int.injEq] at this
    omega
   have hS : SqL K (upd H pp (.lst (ps.map V.str))) pp (ps.map V.str) := SqL.of hq
   refine ⟨_,rfl,pp,rfl,⟨_,hS⟩,fun D hD => ?_⟩
   refine comp_rel (Ys.list hS) (fun i _ y H' => ∃ p,ps[i]? = some p /\ OptV NameR NameV H' y p) (fun _ _ _ _ _ ⟨p,e,o⟩ _ => ⟨p,e,o⟩) hD (by rw [List.length_map]; omega) (fun i u H' R hx sm hR => ?_) (fun ys H' sm hD' yl hy => ?_)
   ·rw [List.getElem?_map] at hx
    obtain ⟨p,hp,rfl⟩ := Option.map_eq_some_iff.mp hx
    refine ⟨(Keep.refl _).set rfl,_,rfl,p,rfl,hls p (List.mem_of_getElem? hp),fun v H2 t2 o => hR v H2 t2 ⟨p,hp,o⟩⟩
   ·have yl' : ys.length = ps.length := by rw [yl,List.length_map]
    have hy' : ∀ (i : Nat) p u,ps[i]? = some p -> ys[i]? = some u -> OptV NameR NameV H' u p := fun i p u hp hu => by
     obtain ⟨p',e,o⟩ := hy i (.str p) u (by rw [List.getElem?_map,hp]; rfl) hu
     rw [hp] at e
     cases e
     exact o
    refine ⟨D,ys,rfl,hD',opts_gv gName yl' hy',fun hn => ?_,fun hn p hp => ?_⟩
    ·refine k _ _ (s1.trans sm) (.inr ⟨fun a ⟨u,v,e,hu,hv⟩ => ?_,rfl⟩)
     have e' : ps = [u,v] := hps.symm.trans e
     refine opts_none gName yl' hy' hn [a.1,a.2] ?_
     rw [e']
     refine ⟨rfl,fun i x y hx hy => ?_⟩
     match i with
     | 0 => simp at hx hy; rw [<- hx,<- hy]; exact hu
     | 1 => simp at hx hy; rw [<- hx,<- hy]; exact hv
     | n + 2 => simp at hx
    ·obtain ⟨as,l3,l2⟩ := opts_some yl' hy' hn
     obtain ⟨a,b,rfl⟩ : ∃ a b,ps = [a,b] := by
      match ps,h2' with
      | [a,b],_ => exact ⟨a,b,rfl⟩
     obtain ⟨a',b',rfl⟩ : ∃ a b,as = [a,b] := by
      have := l3.len
      match as,this with
      | [a,b],_ => exact ⟨a,b,rfl⟩
     obtain ⟨u1,u2,rfl⟩ : ∃ a b,ys = [a,b] := by
      match ys,yl' with
      | [a,b],_ => exact ⟨a,b,rfl⟩
     have w1 : u1 = .str a' := l2.at' 0 _ _ rfl rfl
     have w2 : u2 = .str b' := l2.at' 1 _ _ rfl rfl
     subst w1 w2
     exact k _ _ ((s1.trans sm).trans (Same.upd hp)) (.inl ⟨(a',b'),⟨a,b,hps,l3.at' 0 _ _ rfl rfl,l3.at' 1 _ _ rfl rfl⟩,p,rfl,upd_same⟩)
theorem scParts : FnScope ["rest","cut","pairs"] ["rest"] (defScope sParts) := ⟨rfl,rfl,rfl,by decide +kernel,rfl,by decide +kernel,by decide +kernel⟩
theorem ok_parts {f : Addr} {fd : FuncData} {tk : Tok} (F : Fun K "read_parts" "read_parts" sParts f fd) (T : Txt mg) (mM : mg "MOST_PAIRS" = some (.int 4 tk)) (cO : Cal P w K mg base CX0 5 "all_or_none" ["parts"] spAon) (cS : Cal P w K mg base CX0 5 "read_share" ["text"] (spOp ShareR PrV)) (cA : Cal P w K mg base CX0 5 "read_row_amount" ["word"] (spOp AmR AmW)) : FnOk P w K mg base CX0 6 f fd ["rest"] (spOp PartsR RowV) := by
 refine F.ok scParts (fun vs H Q E h => ?_) (fun cdv A outer s H vs Q E hr h => ?_)
 ·obtain ⟨_,rfl,_⟩ := h
  rfl
 ·obtain ⟨x,rfl,hl,k⟩ := h
  refine ⟨_,(pss_cons (ps_set (i := 1) scParts.nd rfl (Or.inl rfl) (pe_bm PySem.F.plainAttrs_str PySem.F.slot_str_partition PySem.F.type_str_partition mt_part (pv 0) (pa_cons pe_str pa_nil)))
   (pss_cons (ps_set (i := 2) scParts.nd rfl (Or.inl rfl) (pe_cal cO hr rfl pass0 (pa_cons (pe_comp (N' := ["text"]) (cl := []) (fun _ => [none]) rfl rfl (by decide +kernel) (by decide +kernel) (clOk_plain (by decide +kernel)) (fun _ _ => blkN_none) (pi_list (pe_bm PySem.F.plainAttrs_str PySem.F.slot_str_split PySem.F.type_str_split mt_split (pit 1 2) (pa_cons pe_str pa_nil))) (fun _ _ _ _ _ => pg_name (i := 0) ndT rfl (Or.inl rfl)) (fun _ _ _ _ _ => pifs_nil) (fun _ _ _ _ _ => pe_cal cS hr rfl pass0 (pa_cons (pv 0) pa_nil))) pa_nil)))
   (pss_cons (ps_if (PW.pt (pw_or (pt_cmpR op_isN (pv 2) pe_non (nomark _)) (pw_or1 (pt_cmpR op_gt (pe_callB call_len_seq rfl T.len PySem.boot_len (pa_cons (pv 2) pa_nil)) (pe_glob (v := .int 4) rfl mM ⟨_,rfl⟩) (nomark _)))))
    (pss_one (ps_ret pe_non))
    pss_nil)
   (pss_one (ps_ret (pe_cal cO hr rfl pass0 (pa_cons (pe_lst (pa_cons pe_str (pa_cons (pe_cal cA hr rfl pass0 (pa_cons (pit 1 0) pa_nil)) (pa_cons (pv 2) pa_nil)))) pa_nil))))))),?_⟩
  refine ⟨_,rfl,rfl,x,_,rfl,rfl,rfl,size_in hl,fun pc hpc => ?_⟩
  have pl := part_len (y := Str.ofString ": ") hl
  have eC : Txt.partition x (Str.ofString ": ") = Txt.partition x CS := rfl
  generalize hpt : Txt.partition x (Str.ofString ": ") = pt at pl
  obtain ⟨p1,p2,p3⟩ := pt
  rw [hpt] at eC
  have s1 : Same H (upd H pc (.tup [.str p1,.str p2,.str p3])) := Same.upd hpc
  have hq : (upd H pc (.tup [.str p1,.str p2,.str p3])) pc = some (.tup [.str p1,.str p2,.str p3]) := upd_same
  refine ⟨pc,_,_,rfl,SqT.of hq,rfl,rfl,p3,_,rfl,rfl,rfl,sz3 pl.2,fun pp hpp => ?_⟩
  have hls := split_len (y := Str.ofString ", ") pl.2
  have hct : (Txt.split p3 (Str.ofString ", ")).length <= (cps p3).length + 1 := split_count (by decide +kernel)
  have eM : Txt.split p3 (Str.ofString ", ") = Txt.split (Txt.partition x CS).2.2 CM := by rw [<- eC]; rfl
  generalize hps : Txt.split p3 (Str.ofString ", ") = ps at hls hct
  rw [hps] at eM
  have s2 := s1.trans (Same.upd (o := .lst (ps.map V.str)) hpp)
  have hS : SqL K (upd (upd H pc (.tup [.str p1,.str p2,.str p3])) pp (.lst (ps.map V.str))) pp (ps.map V.str) := SqL.of upd_same
  refine ⟨pp,rfl,⟨_,hS⟩,fun D hD => ?_⟩
  refine comp_rel (Ys.list hS) (fun i _ y H' => ∃ p,ps[i]? = some p /\ OptV ShareR PrV H' y p) (fun _ _ _ _ _ ⟨p,e,o⟩ kk => ⟨p,e,o.keep fun _ _ z => z.keep kk⟩) hD (by rw [List.length_map]; have : (cps p3).length <= 900 := pl.2; omega) (fun i u H' R hx sm hR => ?_) (fun ys H' sm hD' yl hy => ?_)
  ·rw [List.getElem?_map] at hx
   obtain ⟨p,hp,rfl⟩ := Option.map_eq_some_iff.mp hx
   refine ⟨(Keep.refl _).set rfl,_,rfl,p,rfl,hls p (List.mem_of_getElem? hp),fun v H2 t2 o => hR v H2 t2 ⟨p,hp,o⟩⟩
  ·have yl' : ys.length = ps.length := by rw [yl,List.length_map]
   have hy' : ∀ (i : Nat) p u,ps[i]? = some p -> ys[i]? = some u -> OptV ShareR PrV H' u p := fun i p u hp hu => by
    obtain ⟨p',e,o⟩ := hy i (.str p) u (by rw [List.getElem?_map,hp]; rfl) hu
    rw [hp] at e
    cases e
    exact o
   have s3 := s2.trans sm
   refine ⟨D,ys,rfl,hD',opts_gv gPr yl' hy',fun hn => ?_,fun hn pq hpq => ?_⟩
   ·refine ⟨_,rfl,rfl,_,rfl,iteT (k _ _ s3 (.inr ⟨fun r ⟨a,as,e,_,l3,_⟩ => ?_,rfl⟩))⟩
    rw [<- eM] at l3
    exact opts_none gPr yl' hy' hn as l3
   ·obtain ⟨as,l3,l2⟩ := opts_some yl' hy' hn
    have s4 := s3.trans (Same.upd (o := .tup ys) hpq)
    have hpq' : (upd H' pq (.tup ys)) pq = some (.tup ys) := upd_same
    have al := l3.len
    refine ⟨_,rfl,rfl,_,rfl,iteF ⟨_,rfl,pq,_,rfl,.inr (SqT.of hpq'),_,_,rfl,rfl,_,rfl,ite2 (fun g => ?_) (fun g => ?_)⟩⟩
    ·have g' : (4 : Int) < (ys.length : Int) := of_decide_eq_true g
     refine k _ _ s4 (.inr ⟨fun r ⟨a,as',e,_,l3',h4⟩ => ?_,rfl⟩)
     rw [<- eM] at l3'
     have := l3'.len
     omega
    ·have g' : ¬ (4 : Int) < (ys.length : Int) := fun z => g (decide_eq_true z)
     have hc4 : (upd H' pq (.tup ys)) pc = some (.tup [.str p1,.str p2,.str p3]) := (((Same.upd hpp).trans sm).trans (Same.upd hpq)) _ _ hq
     refine ⟨pc,_,_,rfl,SqT.of hc4,rfl,p1,rfl,pl.1,fun v5 H5 t5 o5 => ?_⟩
     refine ⟨_,rfl,(by show 3 <= sizeLine; decide),fun z hz => ?_⟩
     have s6 : Same H5 (upd H5 z (.lst [.str "parts",v5,.ref pq])) := Same.upd hz
     have hpq5 := t5 _ _ hpq'
     refine ⟨z,_,rfl,upd_same,fun v hv => ?_,fun hn' => ?_,fun hn' q hq' => ?_⟩
     ·simp only [List.mem_cons,List.not_mem_nil,or_false] at hv
      rcases hv with rfl | rfl | rfl
      ·exact .inr (.inl ⟨_,rfl⟩)
      ·exact nG s6 (opt_one gAm o5)
      ·exact .inr (.inr (.inr ⟨pq,ys,rfl,s6 _ _ hpq5⟩))
     ·refine k _ _ ((s4.trans t5).trans s6) (.inr ⟨fun r ⟨a,as',e,ha,_⟩ => ?_,rfl⟩)
      rw [<- eC] at ha
      rcases non3 hn' with e | e | e
      ·cases e
      ·subst e
       exact o5.none gAm _ ha
      ·cases e
     ·obtain ⟨a,ra,m,rfl,hm⟩ := o5.some (fun z => hn' (by rw [z]; simp))
      have s7 := s6.trans (Same.upd (o := .tup [.str "parts",.ref m,.ref pq]) hq')
      refine k _ _ ((s4.trans t5).trans s7) (.inl ⟨.parts a as,⟨a,as,rfl,by rw [<- eC]; exact ra,by rw [<- eM]; exact l3,by omega⟩,.parts upd_same (s7 _ _ hm) (s7 _ _ hpq5) (l2.imp fun _ _ z => z.keep (s_tk ((Same.upd hpq).trans (t5.trans s7))))⟩)
end
end K11
namespace K11
open PySem PySem.Spec PyProof.Rows L2 GM TM BQ
inductive RowR (x : Str) : Rw -> Prop
 | parts {r} : Txt.startswith x PTS = true -> PartsR (Txt.partition x BL).2.2 r -> RowR x r
 | take {b d a w} : Txt.startswith x PTS = false -> Txt.split x BL = [("take" : Str),b,("of" : Str),d] -> AmR b a -> NameR d w -> RowR x (.take a w)
 | fill {b d a w} : Txt.startswith x PTS = false -> Txt.split x BL = [("fill" : Str),b,("with" : Str),d] -> AmR b a -> NameR d w -> RowR x (.fill a w)
 | to {b d n w} : Txt.startswith x PTS = false -> Txt.split x BL = [b,("to" : Str),("one" : Str),("of" : Str),d] -> NumR b n -> NameR d w -> RowR x (.to n w)
theorem eqS (a b : Str) : eqV (.str a) (.str b) = decide (a = b) := by
 show (a == b) = _
 by_cases h : a = b
 ·subst h; simp
 ·rw [decide_eq_false h]; simpa using h
theorem deq_pair {K : PySem.W.Frag} {H : Hp} {a b : Addr} {x1 x2 y1 y2 : Str} (ne : a ≠ b) (ha : SqT K H a [.str x1,.str x2]) (hb : SqT K H b [.str y1,.str y2]) : DEq K H 40 (.ref a) (.ref b) (decide (x1 = y1 /\ x2 = y2)) := by
 have := DEq.tup (n := 39) (e := fun j => if j = 0 then eqV (.str x1) (.str y1) else eqV (.str x2) (.str y2)) ne ha hb (fun j x y hx hy => by
  match j with
  | 0 => simp at hx hy; rw [<- hx,<- hy]; exact DEq.flat rfl rfl
  | 1 => simp at hx hy; rw [<- hx,<- hy]; exact DEq.flat rfl rfl
  | n + 2 => simp at hx)
 have e : ((List.range (min [V.str x1,V.str x2].length [V.str y1,V.str y2].length)).all (fun j => if j = 0 then eqV (.str x1) (.str y1) else eqV (.str x2) (.str y2)) && [V.str x1,V.str x2].length == [V.str y1,V.str y2].length) = decide (x1 = y1 /\ x2 = y2) := by
  show (((List.range 2).all _) && _) = _
  simp [List.range_succ,eqS]
 rw [<- e]
 exact this
theorem eq3 (x1 x2 x3 y1 y2 y3 : Str) : ((List.range (min [V.str x1,V.str x2,V.str x3].length [V.str y1,V.str y2,V.str y3].length)).all (fun j => if j = 0 then eqV (.str x1) (.str y1) else if j = 1 then eqV (.str x2) (.str y2) else eqV (.str x3) (.str y3)) && [V.str x1,V.str x2,V.str x3].length == [V.str y1,V.str y2,V.str y3].length) = decide (x1 = y1 /\ x2 = y2 /\ x3 = y3) := by
 show (((List.range 3).all _) && _) = _
 simp [List.range_succ,eqS,Bool.and_assoc]
theorem deq3 {K : PySem.W.Frag} {H : Hp} {x1 x2 x3 y1 y2 y3 : Str} : ∀ (j : Nat) x y,[V.str x1,V.str x2,V.str x3][j]? = some x -> [V.str y1,V.str y2,V.str y3][j]? = some y -> DEq K H 40 x y (if j = 0 then eqV (.str x1) (.str y1) else if j = 1 then eqV (.str x2) (.str y2) else eqV (.str x3) (.str y3)) := fun j x y hx hy => by
 match j with
 | 0 => simp at hx hy; rw [<- hx,<- hy]; exact DEq.flat rfl rfl
 | 1 => simp at hx hy; rw [<- hx,<- hy]; exact DEq.flat rfl rfl
 | 2 => simp at hx hy; rw [<- hx,<- hy]; exact DEq.flat rfl rfl
 | n + 3 => simp at hx
section
variable {P : Program} {w : World} {K : PySem.W.Frag} {mg : Str -> Option Value} {base : Heap}
theorem scRow : FnScope ["text","words"] ["text"] (defScope sRow) := ⟨rfl,rfl,rfl,by decide +kernel,rfl,by decide +kernel,by decide +kernel⟩
theorem ok_row {f : Addr} {fd : FuncData} (F : Fun K "read_row" "read_row" sRow f fd) (T : Txt mg) (cO : Cal P w K mg base CX0 6 "all_or_none" ["parts"] spAon) (cP : Cal P w K mg base CX0 6 "read_parts" ["rest"] (spOp PartsR RowV)) (cA : Cal P w K mg base CX0 6 "read_row_amount" ["word"] (spOp AmR AmW)) (cN : Cal P w K mg base CX0 6 "read_number" ["word"] (spOp NumR NumV)) (cW : Cal P w K mg base CX0 6 "read_name" ["word"] (spOp NameR NameV)) : FnOk P w K mg base CX0 7 f fd ["text"] (spOp RowR RowV) := by
 refine F.ok scRow (fun vs H Q E h => ?_) (fun cdv A outer s H vs Q E hr h => ?_)
 ·obtain ⟨_,rfl,_⟩ := h
  rfl
 ·obtain ⟨x,rfl,hl,k⟩ := h
  refine ⟨_,(pss_cons (ps_if (pt_val (pe_bm PySem.F.plainAttrs_str PySem.F.slot_str_startswith PySem.F.type_str_startswith mt_starts (pv 0) (pa_cons pe_str pa_nil)))
    (pss_one (ps_ret (pe_cal cP hr rfl pass0 (pa_cons (pe_ix ix_tup (pe_bm PySem.F.plainAttrs_str PySem.F.slot_str_partition PySem.F.type_str_partition mt_part (pv 0) (pa_cons pe_str pa_nil)) pe_int (fun _ _ => rfl)) pa_nil))))
    pss_nil)
   (pss_cons (ps_set (i := 1) scRow.nd rfl (Or.inl rfl) (pe_bm PySem.F.plainAttrs_str PySem.F.slot_str_split PySem.F.type_str_split mt_split (pv 0) (pa_cons pe_str pa_nil)))
   (pss_cons (ps_if (PW.pt (pw_and (pt_cmpR op_eq (pe_callB call_len_seq rfl T.len PySem.boot_len (pa_cons (pv 1) pa_nil)) pe_int (nomark _)) (pw_and1 (pt_cmpR (op_inD hr.units) (pe_tup (pa_cons (pe_ix ix_list (pv 1) pe_int (fun _ _ => rfl)) (pa_cons (pe_ix ix_list (pv 1) pe_int (fun _ _ => rfl)) pa_nil))) (pe_tup (pa_cons (pe_tup (pa_cons pe_str (pa_cons pe_str pa_nil))) (pa_cons (pe_tup (pa_cons pe_str (pa_cons pe_str pa_nil))) pa_nil))) rfl))))
    (pss_one (ps_ret (pe_cal cO hr rfl pass0 (pa_cons (pe_lst (pa_cons (pe_ix ix_list (pv 1) pe_int (fun _ _ => rfl)) (pa_cons (pe_cal cA hr rfl pass0 (pa_cons (pe_ix ix_list (pv 1) pe_int (fun _ _ => rfl)) pa_nil)) (pa_cons (pe_cal cW hr rfl pass0 (pa_cons (pe_ix ix_list (pv 1) pe_int (fun _ _ => rfl)) pa_nil)) pa_nil)))) pa_nil))))
    pss_nil)
   (pss_cons (ps_if (PW.pt (pw_and (pt_cmpR op_eq (pe_callB call_len_seq rfl T.len PySem.boot_len (pa_cons (pv 1) pa_nil)) pe_int (nomark _)) (pw_and1 (pt_cmpR (op_eqLt hr.units) (pe_slice sl_list (pv 1) (po_some pe_int) (po_some pe_int)) (pe_lst (pa_cons pe_str (pa_cons pe_str (pa_cons pe_str pa_nil)))) (nomark _)))))
    (pss_one (ps_ret (pe_cal cO hr rfl pass0 (pa_cons (pe_lst (pa_cons pe_str (pa_cons (pe_cal cN hr rfl pass0 (pa_cons (pe_ix ix_list (pv 1) pe_int (fun _ _ => rfl)) pa_nil)) (pa_cons (pe_cal cW hr rfl pass0 (pa_cons (pe_ix ix_list (pv 1) pe_int (fun _ _ => rfl)) pa_nil)) pa_nil)))) pa_nil))))
    pss_nil)
   (pss_one (ps_ret pe_non)))))),?_⟩
  refine ⟨_,rfl,rfl,x,_,rfl,rfl,_,rfl,ite2 (fun hst => ?_) (fun hst => ?_)⟩
  ·have hst' : Txt.startswith x PTS = true := hst
   refine ⟨_,rfl,rfl,x,_,rfl,rfl,rfl,size_in hl,fun pc hpc => ⟨pc,_,2,_,rfl,rfl,SqT.of upd_same,rfl,_,rfl,(part_len hl).2,fun v H2 t2 o => k _ _ ((Same.upd hpc).trans t2) ?_⟩⟩
   rcases o with ⟨r,hr',hv⟩ | ⟨hn,rfl⟩
   ·exact .inl ⟨r,.parts hst' hr',hv⟩
   ·refine .inr ⟨fun r z => ?_,rfl⟩
    cases z with
    | parts _ h => exact hn r h
    | take h _ _ _ => rw [hst'] at h; cases h
    | fill h _ _ _ => rw [hst'] at h; cases h
    | to h _ _ _ => rw [hst'] at h; cases h
  have hst' : Txt.startswith x PTS = false := by
   cases e : Txt.startswith x PTS with
   | false => rfl
   | true => exact absurd e hst
  refine ⟨_,rfl,rfl,x,_,rfl,rfl,rfl,sz3 hl,fun pp hpp => ?_⟩
  have hls := split_len (y := Str.ofString " ") hl
  generalize hps : Txt.split x (Str.ofString " ") = ps at hls
  have hps' : Txt.split x BL = ps := hps
  have s1 : Same H (upd H pp (.lst (ps.map V.str))) := Same.upd hpp
  have hq : (upd H pp (.lst (ps.map V.str))) pp = some (.lst (ps.map V.str)) := upd_same
  generalize upd H pp (.lst (ps.map V.str)) = H1 at s1 hq
  have bad : ∀ {H'},Same H H' -> (∀ r,¬ RowR x r) -> Q .non H' := fun sm z => k _ _ sm (.inr ⟨z,rfl⟩)
  have one : ∀ r,RowR x r -> ps.length = 4 \/ ps.length = 5 := fun r z => by
   cases z with
   | parts h _ => rw [hst'] at h; cases h
   | take _ h _ _ => rw [hps'] at h; rw [h]; exact .inl rfl
   | fill _ h _ _ => rw [hps'] at h; rw [h]; exact .inl rfl
   | to _ h _ _ => rw [hps'] at h; rw [h]; exact .inr rfl
  have hS : ∀ {H2},Same H1 H2 -> SqL K H2 pp (ps.map V.str) := fun sm => SqL.of (sm _ _ hq)
  by_cases h4 : ps.length = 4
  ·obtain ⟨u,b,v,d,rfl⟩ : ∃ a b c d,ps = [a,b,c,d] := by
    match ps,h4 with
    | [a,b,c,d],_ => exact ⟨a,b,c,d,rfl⟩
   refine ⟨_,rfl,pp,_,rfl,.inl (hS (Same.refl _)),rfl,_,rfl,iteT ?_⟩
   refine ⟨_,rfl,pp,_,0,_,rfl,rfl,hS (Same.refl _),rfl,_,rfl,pp,_,2,_,rfl,rfl,hS (Same.refl _),rfl,(by show 2 <= sizeLine; decide),fun z0 hz0 => ?_⟩
   have g0 : Same H1 (upd H1 z0 (.tup [.str u,.str v])) := Same.upd hz0
   have q0 : (upd H1 z0 (.tup [.str u,.str v])) z0 = some (.tup [.str u,.str v]) := upd_same
   generalize upd H1 z0 (.tup [.str u,.str v]) = G0 at g0 q0
   refine ⟨(by show 2 <= sizeLine; decide),fun t1 ht1 => ?_⟩
   have g1 : Same G0 (upd G0 t1 (.tup [.str "take",.str "of"])) := Same.upd ht1
   have q1 : (upd G0 t1 (.tup [.str "take",.str "of"])) t1 = some (.tup [.str "take",.str "of"]) := upd_same
   have n1 : t1 ≠ z0 := fun z => by rw [z,q0] at ht1; cases ht1
   generalize upd G0 t1 (.tup [.str "take",.str "of"]) = G1 at g1 q1
   refine ⟨(by show 2 <= sizeLine; decide),fun t2 ht2 => ?_⟩
   have g2 : Same G1 (upd G1 t2 (.tup [.str "fill",.str "with"])) := Same.upd ht2
   have q2 : (upd G1 t2 (.tup [.str "fill",.str "with"])) t2 = some (.tup [.str "fill",.str "with"]) := upd_same
   have n2 : t2 ≠ z0 := fun z => by rw [z,g1 _ _ q0] at ht2; cases ht2
   have n21 : t2 ≠ t1 := fun z => by rw [z,q1] at ht2; cases ht2
   generalize upd G1 t2 (.tup [.str "fill",.str "with"]) = G2 at g2 q2
   refine ⟨(by show 2 <= sizeLine; decide),fun t3 ht3 => ?_⟩
   have g3 : Same G2 (upd G2 t3 (.tup [.ref t1,.ref t2])) := Same.upd ht3
   have q3 : (upd G2 t3 (.tup [.ref t1,.ref t2])) t3 = some (.tup [.ref t1,.ref t2]) := upd_same
   generalize upd G2 t3 (.tup [.ref t1,.ref t2]) = G3 at g3 q3
   have gA := ((g0.trans g1).trans g2).trans g3
   have sA := s1.trans gA
   refine ⟨z0,t3,_,fun c => if c = t1 then decide (("take" : Str) = u /\ ("of" : Str) = v) else decide (("fill" : Str) = u /\ ("with" : Str) = v),rfl,rfl,SqT.of q3,fun y hy => ?_,(decide (("take" : Str) = u /\ ("of" : Str) = v) || decide (("fill" : Str) = u /\ ("with" : Str) = v)),by simp [n21],_,rfl,?_⟩
   ·have z0q : SqT K G3 z0 [.str u,.str v] := SqT.of (((g1.trans g2).trans g3) _ _ q0)
    simp only [List.mem_cons,List.not_mem_nil,or_false] at hy
    rcases hy with rfl | rfl
    ·refine ⟨t1,rfl,?_⟩
     show DEq K G3 40 (.ref t1) (.ref z0) (if t1 = t1 then decide (("take" : Str) = u /\ ("of" : Str) = v) else decide (("fill" : Str) = u /\ ("with" : Str) = v))
     rw [if_pos rfl]
     exact deq_pair n1 (SqT.of ((g2.trans g3) _ _ q1)) z0q
    ·refine ⟨t2,rfl,?_⟩
     show DEq K G3 40 (.ref t2) (.ref z0) (if t2 = t1 then decide (("take" : Str) = u /\ ("of" : Str) = v) else decide (("fill" : Str) = u /\ ("with" : Str) = v))
     rw [if_neg n21]
     exact deq_pair n2 (SqT.of (g3 _ _ q2)) z0q
   ·refine ite2 (fun hc => ?_) (fun hc => ?_)
    ·rw [Bool.or_eq_true,decide_eq_true_eq,decide_eq_true_eq] at hc
     refine ⟨_,rfl,pp,_,0,_,rfl,rfl,hS gA,rfl,_,rfl,pp,_,1,_,rfl,rfl,hS gA,rfl,b,rfl,hls b (by simp),fun v1 H4 t4 o1 => ?_⟩
     refine ⟨_,rfl,pp,_,3,_,rfl,rfl,hS (gA.trans t4),rfl,d,rfl,hls d (by simp),fun v2 H5 t5 o2 => ?_⟩
     refine ⟨(by show 3 <= sizeLine; decide),fun z hz => ?_⟩
     have s6 : Same H5 (upd H5 z (.lst [.str u,v1,v2])) := Same.upd hz
     have o1' : OptV AmR AmW H5 v1 b := o1.keep (kAm t5)
     refine ⟨z,_,rfl,upd_same,fun y hy => ?_,fun hn => ?_,fun hn q hq' => ?_⟩
     ·simp only [List.mem_cons,List.not_mem_nil,or_false] at hy
      rcases hy with rfl | rfl | rfl
      ·exact .inr (.inl ⟨_,rfl⟩)
      ·exact nG s6 (opt_one gAm o1')
      ·exact nG s6 (opt_one gName o2)
     ·refine bad (((sA.trans t4).trans t5).trans s6) fun r z' => ?_
      have key : ∀ a w',AmR b a -> NameR d w' -> False := fun a w' ha hw => by
       rcases non3 hn with e | e | e
       ·cases e
       ·subst e; exact o1.none gAm _ ha
       ·subst e; exact o2.none gName _ hw
      cases z' with
      | parts h _ => rw [hst'] at h; cases h
      | take _ h ha hw => rw [hps'] at h; cases h; exact key _ _ ha hw
      | fill _ h ha hw => rw [hps'] at h; cases h; exact key _ _ ha hw
      | to _ h _ _ => rw [hps'] at h; cases h
     ·obtain ⟨a,ra,m,rfl,hm⟩ := o1'.some (fun z => hn (by rw [z]; simp))
      obtain ⟨wd,rwd,rfl⟩ := o2.some (fun z => hn (by rw [z]; simp))
      have s7 := s6.trans (Same.upd (o := .tup [.str u,.ref m,.str wd]) hq')
      rcases hc with ⟨rfl,rfl⟩ | ⟨rfl,rfl⟩
      ·exact k _ _ (((sA.trans t4).trans t5).trans s7) (.inl ⟨.take a wd,.take hst' hps' ra rwd,.take upd_same (s7 _ _ hm)⟩)
      ·exact k _ _ (((sA.trans t4).trans t5).trans s7) (.inl ⟨.fill a wd,.fill hst' hps' ra rwd,.fill upd_same (s7 _ _ hm)⟩)
    ·rw [Bool.or_eq_true,decide_eq_true_eq,decide_eq_true_eq] at hc
     refine ⟨_,rfl,pp,_,rfl,.inl (hS gA),rfl,_,rfl,iteF (bad sA fun r z' => ?_)⟩
     cases z' with
     | parts h _ => rw [hst'] at h; cases h
     | take _ h ha hw => rw [hps'] at h; cases h; exact hc (.inl ⟨rfl,rfl⟩)
     | fill _ h ha hw => rw [hps'] at h; cases h; exact hc (.inr ⟨rfl,rfl⟩)
     | to _ h _ _ => rw [hps'] at h; cases h
  have nlen : ∀ {n : Nat},ps.length ≠ n -> decide (V.int (((ps.map V.str).length : Nat) : Int) = V.int (n : Int)) = false := fun g => decide_eq_false fun z => g (by have := V.int.inj z; rw [List.length_map] at this; omega)
  refine ⟨_,rfl,pp,_,rfl,.inl (hS (Same.refl _)),rfl,_,rfl,?_⟩
  rw [show decide (V.int (((ps.map V.str).length : Nat) : Int) = V.int 4) = false from nlen (n := 4) h4]
  refine iteF ?_
  by_cases h5 : ps.length = 5
  ·obtain ⟨b,w1,w2,w3,d,rfl⟩ : ∃ a b c d e,ps = [a,b,c,d,e] := by
    match ps,h5 with
    | [a,b,c,d,e],_ => exact ⟨a,b,c,d,e,rfl⟩
   refine ⟨_,rfl,pp,_,rfl,.inl (hS (Same.refl _)),rfl,_,rfl,iteT ?_⟩
   refine ⟨_,rfl,_,rfl,_,rfl,pp,_,rfl,hS (Same.refl _),fun z0 hz0 => ?_⟩
   have ec : cutV ([b,w1,w2,w3,d].map V.str) (some 1) (some 4) = [.str w1,.str w2,.str w3] := rfl
   rw [ec]
   have g0 : Same H1 (upd H1 z0 (.lst [.str w1,.str w2,.str w3])) := Same.upd hz0
   have q0 : (upd H1 z0 (.lst [.str w1,.str w2,.str w3])) z0 = some (.lst [.str w1,.str w2,.str w3]) := upd_same
   generalize upd H1 z0 (.lst [.str w1,.str w2,.str w3]) = G0 at g0 q0
   refine ⟨(by show 3 <= sizeLine; decide),fun z1 hz1 => ?_⟩
   have g1 : Same G0 (upd G0 z1 (.lst [.str "to",.str "one",.str "of"])) := Same.upd hz1
   have q1 : (upd G0 z1 (.lst [.str "to",.str "one",.str "of"])) z1 = some (.lst [.str "to",.str "one",.str "of"]) := upd_same
   generalize upd G0 z1 (.lst [.str "to",.str "one",.str "of"]) = G1 at g1 q1
   have gA := g0.trans g1
   have sA := s1.trans gA
   refine ⟨z0,z1,_,_,_,_,rfl,rfl,SqL.of (g1 _ _ q0),SqL.of q1,deq3,eq3 _ _ _ _ _ _,_,rfl,?_⟩
   refine ite2 (fun hc => ?_) (fun hc => ?_)
   ·obtain ⟨rfl,rfl,rfl⟩ := of_decide_eq_true hc
    refine ⟨_,rfl,pp,_,0,_,rfl,rfl,hS gA,rfl,b,rfl,hls b (by simp),fun v1 H4 t4 o1 => ?_⟩
    refine ⟨_,rfl,pp,_,4,_,rfl,rfl,hS (gA.trans t4),rfl,d,rfl,hls d (by simp),fun v2 H5 t5 o2 => ?_⟩
    refine ⟨(by show 3 <= sizeLine; decide),fun z hz => ?_⟩
    have s6 : Same H5 (upd H5 z (.lst [.str "to",v1,v2])) := Same.upd hz
    have o1' : OptV NumR NumV H5 v1 b := OptV.keep (H := H4) (fun _ _ h => h) o1
    refine ⟨z,_,rfl,upd_same,fun y hy => ?_,fun hn => ?_,fun hn q hq' => ?_⟩
    ·simp only [List.mem_cons,List.not_mem_nil,or_false] at hy
     rcases hy with rfl | rfl | rfl
     ·exact .inr (.inl ⟨_,rfl⟩)
     ·exact nG s6 (opt_one gNum o1')
     ·exact nG s6 (opt_one gName o2)
    ·refine bad (((sA.trans t4).trans t5).trans s6) fun r z' => ?_
     cases z' with
     | parts h _ => rw [hst'] at h; cases h
     | take _ h _ _ => rw [hps'] at h; cases h
     | fill _ h _ _ => rw [hps'] at h; cases h
     | to _ h ha hw =>
      rw [hps'] at h
      cases h
      rcases non3 hn with e | e | e
      ·cases e
      ·subst e; exact o1.none gNum _ ha
      ·subst e; exact o2.none gName _ hw
    ·obtain ⟨n,rn,rfl⟩ := o1'.some (fun z => hn (by rw [z]; simp))
     obtain ⟨wd,rwd,rfl⟩ := o2.some (fun z => hn (by rw [z]; simp))
     exact k _ _ (((sA.trans t4).trans t5).trans (s6.trans (Same.upd hq'))) (.inl ⟨.to n wd,.to hst' hps' rn rwd,.to upd_same⟩)
   ·refine bad sA fun r z' => ?_
    cases z' with
    | parts h _ => rw [hst'] at h; cases h
    | take _ h _ _ => rw [hps'] at h; cases h
    | fill _ h _ _ => rw [hps'] at h; cases h
    | to _ h _ _ => rw [hps'] at h; cases h; exact hc (decide_eq_true ⟨rfl,rfl,rfl⟩)
  ·refine ⟨_,rfl,pp,_,rfl,.inl (hS (Same.refl _)),rfl,_,rfl,?_⟩
   rw [show decide (V.int (((ps.map V.str).length : Nat) : Int) = V.int 5) = false from nlen (n := 5) h5]
   exact iteF (bad s1 fun r z' => by rcases one r z' with z | z <;> omega)
end
end K11
namespace K11
open PySem PySem.Spec PyProof.Rows L2 GM TM BQ
def tag : Rw -> Str
 | .take _ _ => "take"
 | .parts _ _ => "parts"
 | .to _ _ => "to"
 | .fill _ _ => "fill"
theorem row_tag {H : Hp} {v : V} {r : Rw} (h : RowV H v r) : ∃ p xs,v = .ref p /\ H p = some (.tup xs) /\ atI xs 0 = some (.str (tag r)) := by
 cases h with
 | take a _ => exact ⟨_,_,rfl,a,rfl⟩
 | parts a _ _ _ => exact ⟨_,_,rfl,a,rfl⟩
 | to a => exact ⟨_,_,rfl,a,rfl⟩
 | fill a _ => exact ⟨_,_,rfl,a,rfl⟩
def RecR (x : Str) (p : Str × List Rw) : Prop := NameR (Txt.partition x CS).1 p.1 /\ L3 RowR (Txt.split (Txt.partition x CS).2.2 SC) p.2 /\ p.2.length <= 6 /\ ∀ r,p.2[0]? = some r -> tag r ≠ "to"
def RecV (H : Hp) (v : V) (p : Str × List Rw) : Prop := ∃ z q us,v = .ref z /\ H z = some (.tup [.str p.1,.ref q]) /\ H q = some (.tup us) /\ L2R (RowV H) us p.2
theorem RecV.keep {H H' : Hp} {v : V} {p : Str × List Rw} (s : Same H H') (h : RecV H v p) : RecV H' v p := by
 obtain ⟨z,q,us,e,a,b,c⟩ := h
 exact ⟨z,q,us,e,s _ _ a,s _ _ b,c.imp fun _ _ z => z.keep (s_tk s)⟩
theorem split_ne (x y : Str) : Txt.split x y ≠ [] := by
 unfold Txt.split
 split
 ·simp
 ·split
  ·simp
  ·rw [StrLaws.partsBetween_eq]
   obtain ⟨p,r,e⟩ := StrLaws.partsFrom_ne x y.length 0 (PySem.Builtin.Str.occurrences x y 0 x.length (x.length + 1))
   rw [e]
   simp
def kOf (w : Str) : Option Nat := if w = "ware" then some 0 else if w = "apart" then some 1 else if w = "recipe" then some 2 else none
def KND : List V := [.str "ware",.str "apart",.str "recipe"]
def spKO : Sp := fun vs H Q _ => ∃ x : Str,vs = [.str x] /\ (cps x).length <= 900 /\ ∀ H',Same H H' -> Q (match kOf (Txt.partition x BL).1 with | some n => .int (n : Int) | none => .non) H'
inductive En where
 | w (x : Str)
 | p (p : Str × Str)
 | r (p : Str × List Rw)
def EnR (n : Nat) (x : Str) (e : En) : Prop := (n = 0 /\ ∃ w,e = .w w /\ NameR x w) \/ (n = 1 /\ ∃ p,e = .p p /\ PairR x p) \/ (n = 2 /\ ∃ p,e = .r p /\ RecR x p)
def EnV (H : Hp) (v : V) : En -> Prop
 | .w x => NameV H v x
 | .p p => PairV H v p
 | .r p => RecV H v p
def spEntry : Sp := fun vs H Q _ => ∃ (n : Nat) (x : Str),vs = [.int (n : Int),.str x] /\ n <= 2 /\ (cps x).length <= 900 /\ ∀ v H',Same H H' -> OptV (EnR n) EnV H' v x -> Q v H'
section
variable {P : Program} {w : World} {K : PySem.W.Frag} {mg : Str -> Option Value} {base : Heap}
theorem scRecipe : FnScope ["rest","cut","rows"] ["rest"] (defScope sRecipe) := ⟨rfl,rfl,rfl,by decide +kernel,rfl,by decide +kernel,by decide +kernel⟩
theorem ok_recipe {f : Addr} {fd : FuncData} {tk : Tok} (F : Fun K "read_recipe" "read_recipe" sRecipe f fd) (T : Txt mg) (mM : mg "MOST_ROWS" = some (.int 6 tk)) (cO : Cal P w K mg base CX0 7 "all_or_none" ["parts"] spAon) (cS : Cal P w K mg base CX0 7 "read_row" ["text"] (spOp RowR RowV)) (cW : Cal P w K mg base CX0 7 "read_name" ["word"] (spOp NameR NameV)) : FnOk P w K mg base CX0 8 f fd ["rest"] (spOp RecR RecV) := by
 refine F.ok scRecipe (fun vs H Q E h => ?_) (fun cdv A outer s H vs Q E hr h => ?_)
 ·obtain ⟨_,rfl,_⟩ := h
  rfl
 ·obtain ⟨x,rfl,hl,k⟩ := h
  refine ⟨_,(pss_cons (ps_set (i := 1) scRecipe.nd rfl (Or.inl rfl) (pe_bm PySem.F.plainAttrs_str PySem.F.slot_str_partition PySem.F.type_str_partition mt_part (pv 0) (pa_cons pe_str pa_nil)))
   (pss_cons (ps_set (i := 2) scRecipe.nd rfl (Or.inl rfl) (pe_cal cO hr rfl pass0 (pa_cons (pe_comp (N' := ["text"]) (cl := []) (fun _ => [none]) rfl rfl (by decide +kernel) (by decide +kernel) (clOk_plain (by decide +kernel)) (fun _ _ => blkN_none) (pi_list (pe_bm PySem.F.plainAttrs_str PySem.F.slot_str_split PySem.F.type_str_split mt_split (pit 1 2) (pa_cons pe_str pa_nil))) (fun _ _ _ _ _ => pg_name (i := 0) ndT rfl (Or.inl rfl)) (fun _ _ _ _ _ => pifs_nil) (fun _ _ _ _ _ => pe_cal cS hr rfl pass0 (pa_cons (pv 0) pa_nil))) pa_nil)))
   (pss_cons (ps_if (PW.pt (pw_or (pt_cmpR op_isN (pv 2) pe_non (nomark _)) (pw_or (pt_cmpR op_gt (pe_callB call_len_seq rfl T.len PySem.boot_len (pa_cons (pv 2) pa_nil)) (pe_glob (v := .int 6) rfl mM ⟨_,rfl⟩) (nomark _)) (pw_or1 (pt_cmpR op_eq (pe_ix ix_tup (pit 2 0) pe_int (fun _ _ => rfl)) pe_str (nomark _))))))
    (pss_one (ps_ret pe_non))
    pss_nil)
   (pss_one (ps_ret (pe_cal cO hr rfl pass0 (pa_cons (pe_lst (pa_cons (pe_cal cW hr rfl pass0 (pa_cons (pit 1 0) pa_nil)) (pa_cons (pv 2) pa_nil))) pa_nil))))))),?_⟩
  refine ⟨_,rfl,rfl,x,_,rfl,rfl,rfl,size_in hl,fun pc hpc => ?_⟩
  have pl := part_len (y := Str.ofString ": ") hl
  have eC : Txt.partition x (Str.ofString ": ") = Txt.partition x CS := rfl
  generalize hpt : Txt.partition x (Str.ofString ": ") = pt at pl
  obtain ⟨p1,p2,p3⟩ := pt
  rw [hpt] at eC
  have s1 : Same H (upd H pc (.tup [.str p1,.str p2,.str p3])) := Same.upd hpc
  have hq : (upd H pc (.tup [.str p1,.str p2,.str p3])) pc = some (.tup [.str p1,.str p2,.str p3]) := upd_same
  refine ⟨pc,_,_,rfl,SqT.of hq,rfl,rfl,p3,_,rfl,rfl,rfl,sz3 pl.2,fun pp hpp => ?_⟩
  have hls := split_len (y := Str.ofString "; ") pl.2
  have hct : (Txt.split p3 (Str.ofString "; ")).length <= (cps p3).length + 1 := split_count (by decide +kernel)
  have hne := split_ne p3 (Str.ofString "; ")
  have eM : Txt.split p3 (Str.ofString "; ") = Txt.split (Txt.partition x CS).2.2 SC := by rw [<- eC]; rfl
  generalize hps : Txt.split p3 (Str.ofString "; ") = ps at hls hct hne
  rw [hps] at eM
  have s2 := s1.trans (Same.upd (o := .lst (ps.map V.str)) hpp)
  have hS : SqL K (upd (upd H pc (.tup [.str p1,.str p2,.str p3])) pp (.lst (ps.map V.str))) pp (ps.map V.str) := SqL.of upd_same
  refine ⟨pp,rfl,⟨_,hS⟩,fun D hD => ?_⟩
  refine comp_rel (Ys.list hS) (fun i _ y H' => ∃ p,ps[i]? = some p /\ OptV RowR RowV H' y p) (fun _ _ _ _ _ ⟨p,e,o⟩ kk => ⟨p,e,o.keep fun _ _ z => z.keep kk⟩) hD (by rw [List.length_map]; have : (cps p3).length <= 900 := pl.2; omega) (fun i u H' R hx sm hR => ?_) (fun ys H' sm hD' yl hy => ?_)
  ·rw [List.getElem?_map] at hx
   obtain ⟨p,hp,rfl⟩ := Option.map_eq_some_iff.mp hx
   refine ⟨(Keep.refl _).set rfl,_,rfl,p,rfl,hls p (List.mem_of_getElem? hp),fun v H2 t2 o => hR v H2 t2 ⟨p,hp,o⟩⟩
  ·have yl' : ys.length = ps.length := by rw [yl,List.length_map]
   have hy' : ∀ (i : Nat) p u,ps[i]? = some p -> ys[i]? = some u -> OptV RowR RowV H' u p := fun i p u hp hu => by
    obtain ⟨p',e,o⟩ := hy i (.str p) u (by rw [List.getElem?_map,hp]; rfl) hu
    rw [hp] at e
    cases e
    exact o
   have s3 := s2.trans sm
   refine ⟨D,ys,rfl,hD',opts_gv gRow yl' hy',fun hn => ?_,fun hn pq hpq => ?_⟩
   ·refine ⟨_,rfl,rfl,_,rfl,iteT (k _ _ s3 (.inr ⟨fun r ⟨_,l3,_⟩ => ?_,rfl⟩))⟩
    rw [<- eM] at l3
    exact opts_none gRow yl' hy' hn _ l3
   ·obtain ⟨as,l3,l2⟩ := opts_some yl' hy' hn
    have s4 := s3.trans (Same.upd (o := .tup ys) hpq)
    have hpq' : (upd H' pq (.tup ys)) pq = some (.tup ys) := upd_same
    have al := l3.len
    have uniq : ∀ bs,L3 RowR ps bs -> True := fun _ _ => trivial
    refine ⟨_,rfl,rfl,_,rfl,iteF ⟨_,rfl,pq,_,rfl,.inr (SqT.of hpq'),_,_,rfl,rfl,_,rfl,ite2 (fun g => ?_) (fun g => ?_)⟩⟩
    ·have g' : (6 : Int) < (ys.length : Int) := of_decide_eq_true g
     refine k _ _ s4 (.inr ⟨fun r ⟨_,l3',h4,_⟩ => ?_,rfl⟩)
     rw [<- eM] at l3'
     have := l3'.len
     omega
    ·have g' : ¬ (6 : Int) < (ys.length : Int) := fun z => g (decide_eq_true z)
     have n0 : 0 < ys.length := by
      have := List.length_pos_iff.mpr hne
      omega
     obtain ⟨y0,hy0⟩ : ∃ y,ys[0]? = some y := ⟨_,List.getElem?_eq_getElem n0⟩
     obtain ⟨r0,hr0⟩ : ∃ r,as[0]? = some r := ⟨_,List.getElem?_eq_getElem (show 0 < as.length by omega)⟩
     have w0 := (l2.at' 0 y0 r0 hy0 hr0).keep (s_tk (Same.upd (o := .tup ys) hpq))
     obtain ⟨rp,rxs,e0,hrp,h0⟩ := row_tag w0
     subst e0
     refine ⟨pq,_,_,rfl,SqT.of hpq',hy0,rp,_,0,_,rfl,rfl,SqT.of hrp,h0,rfl,_,rfl,ite2 (fun gt => ?_) (fun gt => ?_)⟩
     ·have et : tag r0 = "to" := V.str.inj (of_decide_eq_true gt)
      refine k _ _ s4 (.inr ⟨fun r ⟨_,l3',_,h4⟩ => ?_,rfl⟩)
      rw [<- eM] at l3'
      obtain ⟨p0,hp0⟩ : ∃ p,ps[0]? = some p := ⟨_,List.getElem?_eq_getElem (show 0 < ps.length by omega)⟩
      obtain ⟨r1,hr1⟩ : ∃ r',r.2[0]? = some r' := ⟨_,List.getElem?_eq_getElem (show 0 < r.2.length by have := l3'.len; omega)⟩
      have a1 := l3.at' 0 _ _ hp0 hr0
      have a2 := l3'.at' 0 _ _ hp0 hr1
      have h5 := h4 r1 hr1
      refine h5 ?_
      cases a1 with
      | parts h1 h2 => obtain ⟨a,pps,rfl,_⟩ := h2; cases et
      | take h1 _ _ _ => cases et
      | fill h1 _ _ _ => cases et
      | to h1 h2 _ _ =>
       cases a2 with
       | parts h3 _ => rw [h1] at h3; cases h3
       | take _ h3 _ _ => rw [h2] at h3; cases h3
       | fill _ h3 _ _ => rw [h2] at h3; cases h3
       | to _ _ _ _ => rfl
     ·have nt : tag r0 ≠ "to" := fun z => gt (decide_eq_true (by rw [z]))
      have hc4 : (upd H' pq (.tup ys)) pc = some (.tup [.str p1,.str p2,.str p3]) := (((Same.upd hpp).trans sm).trans (Same.upd hpq)) _ _ hq
      refine ⟨pc,_,_,rfl,SqT.of hc4,rfl,p1,rfl,pl.1,fun v5 H5 t5 o5 => ?_⟩
      refine ⟨_,rfl,(by show 2 <= sizeLine; decide),fun z hz => ?_⟩
      have s6 : Same H5 (upd H5 z (.lst [v5,.ref pq])) := Same.upd hz
      have hpq5 := t5 _ _ hpq'
      refine ⟨z,_,rfl,upd_same,fun v hv => ?_,fun hn' => ?_,fun hn' q hq' => ?_⟩
      ·simp only [List.mem_cons,List.not_mem_nil,or_false] at hv
       rcases hv with rfl | rfl
       ·exact nG s6 (opt_one gName o5)
       ·exact .inr (.inr (.inr ⟨pq,ys,rfl,s6 _ _ hpq5⟩))
      ·refine k _ _ ((s4.trans t5).trans s6) (.inr ⟨fun r ⟨ha,_⟩ => ?_,rfl⟩)
       rw [<- eC] at ha
       rcases non2 hn' with e | e
       ·subst e
        exact o5.none gName _ ha
       ·cases e
      ·obtain ⟨wd,rwd,rfl⟩ := o5.some (fun z => hn' (by rw [z]; simp))
       have s7 := s6.trans (Same.upd (o := .tup [.str wd,.ref pq]) hq')
       refine k _ _ ((s4.trans t5).trans s7) (.inl ⟨(wd,as),⟨by rw [<- eC]; exact rwd,by rw [<- eM]; exact l3,by show as.length <= 6; omega,fun r hr' => ?_⟩,q,pq,ys,rfl,upd_same,s7 _ _ hpq5,l2.imp fun _ _ z => z.keep (s_tk ((Same.upd hpq).trans (t5.trans s7)))⟩)
       rw [hr0] at hr'
       cases hr'
       exact nt
theorem scKindOf : FnScope ["line","word"] ["line"] (defScope sKindOf) := ⟨rfl,rfl,rfl,by decide +kernel,rfl,by decide +kernel,by decide +kernel⟩
theorem in_knd (w : Str) : inV (.str w) KND = (kOf w).isSome := by
  unfold kOf
  show (eqV (.str "ware") (.str w) || (eqV (.str "apart") (.str w) || (eqV (.str "recipe") (.str w) || false))) = _
  rw [eqS,eqS,eqS]
  by_cases h1 : w = "ware"
  · subst h1; rfl
  · by_cases h2 : w = "apart"
    · subst h2; rfl
    · by_cases h3 : w = "recipe"
      · subst h3; rfl
      · rw [decide_eq_false (fun z => h1 z.symm),decide_eq_false (fun z => h2 z.symm),decide_eq_false (fun z => h3 z.symm),if_neg h1,if_neg h2,if_neg h3]
        rfl
theorem ok_kindof {f aK : Addr} {fd : FuncData} {oK : Obj} (F : Fun K "kind_of" "kind_of" sKindOf f fd) (T : Txt mg) (mK : mg "KINDS" = some (.ref aK)) (sK : ∀ H : Hp,SqT K H aK KND) (lK : K.lookup aK = some oK) (cK : oK.cls = .type "tuple") (dK : oK.dict = none) : FnOk P w K mg base CX0 1 f fd ["line"] spKO := by
 refine F.ok scKindOf (fun vs H Q E h => ?_) (fun cdv A outer s H vs Q E hr h => ?_)
 ·obtain ⟨_,rfl,_⟩ := h
  rfl
 ·obtain ⟨x,rfl,hl,k⟩ := h
  refine ⟨_,(pss_cons (ps_set (i := 1) scKindOf.nd rfl (Or.inl rfl) (pe_ix ix_tup (pe_bm PySem.F.plainAttrs_str PySem.F.slot_str_partition PySem.F.type_str_partition mt_part (pv 0) (pa_cons pe_str pa_nil)) pe_int (fun _ _ => rfl)))
   (pss_one (ps_ret (pe_ifExp (pt_cmpR op_in_seq (pv 1) (pe_glob (v := .ref aK) rfl mK rfl) rfl) (pe_bm PySem.F.plainAttrs_tuple PySem.F.slot_tuple_index PySem.F.type_tuple_index mt_indexT (pe_glob (v := .ref aK) rfl mK rfl) (pa_cons (pv 1) pa_nil)) pe_non)))),?_⟩
  refine ⟨_,rfl,rfl,x,_,rfl,rfl,rfl,size_in hl,fun pc hpc => ⟨pc,_,0,_,rfl,rfl,SqT.of upd_same,rfl,?_⟩⟩
  have sm : Same H (upd H pc (.tup [.str (Txt.partition x (Str.ofString " ")).1,.str (Txt.partition x (Str.ofString " ")).2.1,.str (Txt.partition x (Str.ofString " ")).2.2])) := Same.upd hpc
  have kk := k _ sm
  have eW : (Txt.partition x BL).1 = (Txt.partition x (Str.ofString " ")).1 := rfl
  rw [eW] at kk
  generalize (Txt.partition x (Str.ofString " ")).1 = wd at kk
  refine ⟨_,rfl,aK,_,rfl,.inr (sK _),rfl,rfl,_,rfl,?_⟩
  show if inV (.str wd) KND = true then _ else _
  rw [in_knd]
  have ty : tyV K "tuple" (.ref aK) H := .inr (.inl ⟨rfl,oK,lK,cK,dK⟩)
  by_cases h1 : wd = "ware"
  ·subst h1
   exact iteT ⟨.inr (.inl ⟨rfl,oK,lK,cK,dK⟩),_,rfl,aK,_,_,0,_,rfl,rfl,sK _,rfl,rfl,rfl,rfl,fun m z hm => absurd hm (by omega),kk⟩
  ·by_cases h2 : wd = "apart"
   ·subst h2
    refine iteT ⟨.inr (.inl ⟨rfl,oK,lK,cK,dK⟩),_,rfl,aK,_,_,1,_,rfl,rfl,sK _,rfl,rfl,rfl,rfl,fun m z hm hz => ?_,kk⟩
    have : m = 0 := by omega
    subst this
    cases hz
    rfl
   ·by_cases h3 : wd = "recipe"
    ·subst h3
     refine iteT ⟨.inr (.inl ⟨rfl,oK,lK,cK,dK⟩),_,rfl,aK,_,_,2,_,rfl,rfl,sK _,rfl,rfl,rfl,rfl,fun m z hm hz => ?_,kk⟩
     have : m = 0 \/ m = 1 := by omega
     rcases this with rfl | rfl <;> cases hz <;> rfl
    ·have e : kOf wd = none := by unfold kOf; rw [if_neg h1,if_neg h2,if_neg h3]
     rw [e] at kk ⊢
     exact iteF kk
theorem scEntry : FnScope ["kind","rest"] ["kind","rest"] (defScope sEntry) := ⟨rfl,rfl,rfl,by decide +kernel,rfl,by decide +kernel,by decide +kernel⟩
theorem ok_entry {f aK : Addr} {fd : FuncData} (F : Fun K "read_entry" "read_entry" sEntry f fd) (mK : mg "KINDS" = some (.ref aK)) (sK : ∀ H : Hp,SqT K H aK KND) (cW : Cal P w K mg base CX0 8 "read_name" ["word"] (spOp NameR NameV)) (cA : Cal P w K mg base CX0 8 "read_apart" ["rest"] (spOp PairR PairV)) (cR : Cal P w K mg base CX0 8 "read_recipe" ["rest"] (spOp RecR RecV)) : FnOk P w K mg base CX0 9 f fd ["kind","rest"] spEntry := by
 refine F.ok scEntry (fun vs H Q E h => ?_) (fun cdv A outer s H vs Q E hr h => ?_)
 ·obtain ⟨_,_,rfl,_⟩ := h
  rfl
 ·obtain ⟨n,x,rfl,hn,hl,k⟩ := h
  refine ⟨_,(pss_cons (ps_if (pt_cmpR op_eq (pe_ix ix_tup (pe_glob (v := .ref aK) rfl mK rfl) (pv 0) (fun _ _ => rfl)) pe_str (nomark _))
    (pss_one (ps_ret (pe_cal cW hr rfl pass0 (pa_cons (pv 1) pa_nil))))
    pss_nil)
   (pss_cons (ps_if (pt_cmpR op_eq (pe_ix ix_tup (pe_glob (v := .ref aK) rfl mK rfl) (pv 0) (fun _ _ => rfl)) pe_str (nomark _))
    (pss_one (ps_ret (pe_cal cA hr rfl pass0 (pa_cons (pv 1) pa_nil))))
    pss_nil)
   (pss_one (ps_ret (pe_cal cR hr rfl pass0 (pa_cons (pv 1) pa_nil)))))),?_⟩
  have hn3 : n = 0 \/ n = 1 \/ n = 2 := by omega
  rcases hn3 with rfl | rfl | rfl
  ·refine ⟨_,rfl,aK,_,0,_,rfl,rfl,sK _,rfl,rfl,_,rfl,iteT ⟨_,rfl,x,rfl,hl,fun v H' sm o => k v H' sm ?_⟩⟩
   rcases o with ⟨a,ra,wa⟩ | ⟨hn,rfl⟩
   ·exact .inl ⟨.w a,.inl ⟨rfl,a,rfl,ra⟩,wa⟩
   ·refine .inr ⟨fun e z => ?_,rfl⟩
    rcases z with ⟨_,a,_,ra⟩ | ⟨z,_⟩ | ⟨z,_⟩
    ·exact hn a ra
    ·cases z
    ·cases z
  ·refine ⟨_,rfl,aK,_,1,_,rfl,rfl,sK _,rfl,rfl,_,rfl,iteF ⟨_,rfl,aK,_,1,_,rfl,rfl,sK _,rfl,rfl,_,rfl,iteT ⟨_,rfl,x,rfl,hl,fun v H' sm o => k v H' sm ?_⟩⟩⟩
   rcases o with ⟨a,ra,wa⟩ | ⟨hn,rfl⟩
   ·exact .inl ⟨.p a,.inr (.inl ⟨rfl,a,rfl,ra⟩),wa⟩
   ·refine .inr ⟨fun e z => ?_,rfl⟩
    rcases z with ⟨z,_⟩ | ⟨_,a,_,ra⟩ | ⟨z,_⟩
    ·cases z
    ·exact hn a ra
    ·cases z
  ·refine ⟨_,rfl,aK,_,2,_,rfl,rfl,sK _,rfl,rfl,_,rfl,iteF ⟨_,rfl,aK,_,2,_,rfl,rfl,sK _,rfl,rfl,_,rfl,iteF ⟨_,rfl,x,rfl,hl,fun v H' sm o => k v H' sm ?_⟩⟩⟩
   rcases o with ⟨a,ra,wa⟩ | ⟨hn,rfl⟩
   ·exact .inl ⟨.r a,.inr (.inr ⟨rfl,a,rfl,ra⟩),wa⟩
   ·refine .inr ⟨fun e z => ?_,rfl⟩
    rcases z with ⟨z,_⟩ | ⟨z,_⟩ | ⟨_,a,_,ra⟩
    ·cases z
    ·cases z
    ·exact hn a ra
end
end K11
namespace L2
open PySem PySem.Spec PyProof.Rows
def Ite (K : PySem.W.Frag) (b : Addr) : It :=
  ⟨fun i H => ∃ ys,SqL K H b ys /\ i < ys.length,
   fun i H v H' => ∃ T,H T = none /\ v = .ref T /\ ∀ ys,SqL K H b ys -> ∃ y,ys[i]? = some y /\ H' = upd H T (.tup [.int i,y]),
   fun i H => ∃ ys,SqL K H b ys /\ i = ys.length⟩
def EnuSt (n b : Nat) (i : Nat) (h : Heap) : Prop := (∃ old,IsEnum h (n + 1) n (i : Int) old) /\ h.IsListIter n b i
theorem turn_enum {P : Program} {w : World} {K : PySem.W.Frag} {es : List Expr} {k1 : Nat} {p1 : Pos} {n b : Nat} (hb : b < n) : Turn P w K (.Tuple es k1 p1) (Ite K b) [n + 1,n] (n + 1) (EnuSt n b) where
 mem := by simp
 obj := fun i h st c hc => by
  obtain ⟨⟨old,c1⟩,⟨o5,d5,_,f5⟩⟩ := st
  have hc' : c = n + 1 \/ c = n := by simpa using hc
  rcases hc' with e | e
  ·subst e; exact ⟨_,c1,fun v z => by cases z⟩
  ·subst e; exact ⟨_,d5,fun v z => by rw [f5] at z; cases z⟩
 keep := fun i h h' st k => by
  obtain ⟨⟨old,c1⟩,c5⟩ := st
  exact ⟨⟨old,k _ (by simp) _ c1⟩,c5.at fun o e => k _ (by simp) o e⟩
 item := by
  intro X hP hw hK hc i pins s σ H E I hf st hg
  subst hP hw hK
  obtain ⟨ys,hy,l2⟩ := hg
  obtain ⟨its',r2,ty,_⟩ := I.list hy
  have e2 := r2.length
  obtain ⟨⟨old,c1⟩,c5⟩ := st
  obtain ⟨vy,hvy⟩ : ∃ v,ys[i]? = some v := ⟨_,List.getElem?_eq_getElem l2⟩
  obtain ⟨uy,huy,ry⟩ := r2.get hvy
  refine wpAny_pyNext_enum_item (x := uy) c1 c5 (isList_of ty) (by rw [<- Array.getElem?_toList,List.toList_toArray]; exact huy) (by show (_ : Nat) ≠ _; omega) fun g cz s2 cT sz kp => ⟨.ref s.heap.objs.size,rfl,?_⟩
  refine wpAny_letOwnedTupleGo_enum (s := { s with heap := g,toks := s.toks + 1 }) cz fun g' cz' sb => ?_
  have hfr : H s.heap.objs.size = none := I.hok.fresh (Nat.le_refl _)
  have I0 : Inv X pins σ (upd H s.heap.objs.size (.tup [.int i,vy])) { s with heap := s.heap.push { cls := .type "tuple",data := .seq #[.int i s.toks,uy] },toks := s.toks + 1 } :=
   I.laid (fun c u q => Heap.get?_push_of_some _ q) (Nat.le_refl _) ⟨by show 2 <= sizeLine; decide,[.int i s.toks,uy],.cons ⟨_,rfl⟩ (.cons ry .nil),⟨_,Heap.get?_push_size s.heap rfl,rfl,_,rfl⟩⟩
  have lz : n + 1 < s.heap.objs.size := Heap.lt_size c1
  have fpn : ∀ c ∈ [n + 1,n],c ≠ s.heap.objs.size := fun c hc' => by
   have hc'' : c = n + 1 \/ c = n := by simpa using hc'
   rcases hc'' with e | e <;> (subst e; exact Nat.ne_of_lt (by omega))
  have hf0 : ∀ c ∈ [n + 1,n],FpOk X pins (upd H s.heap.objs.size (.tup [.int i,vy])) c := fun c hc' => ⟨by rw [upd_ne (fpn c hc')]; exact (hf c hc').1,(hf c hc').2⟩
  have I1 : Inv X pins σ (upd H s.heap.objs.size (.tup [.int i,vy])) { s with heap := g',toks := s.toks + 1 } := by
   refine Inv.turnedL (s := { s with heap := s.heap.push { cls := .type "tuple",data := .seq #[.int i s.toks,uy] },toks := s.toks + 1 }) (h' := g') (t' := s.toks + 1) (ch := [n + 1,n]) I0 (fun c o hc' e => ?_) hf0
   replace e : (s.heap.push { cls := .type "tuple",data := .seq #[.int i s.toks,uy] }).get? c = some o := e
   have hn : ∀ d ∈ [n + 1,n],c ≠ d := fun d hd z => hc' (by rw [z]; exact hd)
   refine sb.extBut _ _ (hn _ (by simp)) ?_
   by_cases ec : c = s.heap.objs.size
   ·rw [ec] at e ⊢
    rw [Heap.get?_push_size s.heap rfl] at e
    cases e
    exact cT
   ·rw [Heap.get?_push_ne _ _ _ ec] at e
    exact kp c o (hn _ (by simp)) (hn _ (by simp)) e
  refine ⟨.ref s.heap.objs.size,_,I1,rfl,⟨_,hfr,rfl,fun ys' hy' => ⟨vy,by rw [I.list_inj hy' hy]; exact hvy,rfl⟩⟩,?_,fun c hc' => (hf0 c hc').1⟩
  exact ⟨⟨uy,cz'⟩,s2.extBut sb.extBut (Nat.ne_of_lt (Nat.lt_succ_self n))⟩
 done := by
  intro X hP hw hK hc i pins s σ H E I hf st hg
  subst hP hw hK
  obtain ⟨ys,hy,l⟩ := hg
  obtain ⟨its',r2,ty,_⟩ := I.list hy
  have e2 := r2.length
  obtain ⟨⟨old,c1⟩,c5⟩ := st
  have hh : X.A.handled = none := I.ok.hd hc
  refine wpAny_pyNext_enum_end hh c1 c5 (isList_of ty) (by rw [<- Array.getElem?_toList,List.toList_toArray]; exact List.getElem?_eq_none (by omega)) fun g kp => ⟨rfl,I.turnedL (t' := s.toks) (ch := [n + 1,n]) (fun c o hc' e => ?_) hf⟩
  exact kp c o (fun z => hc' (by rw [z]; simp)) e
 self := fun _ _ _ _ _ st h => let ⟨⟨_,c1⟩,_⟩ := st; wpAny_pyIter_enum c1 h
def iEnu (K : PySem.W.Frag) (ta : TA) : TI := fun σ H R => ta σ H fun vs H1 => ∃ b,vs = [.ref b] /\ (∃ ys,SqL K H1 b ys) /\ R (Ite K b) H1
theorem bt_enumerate : bootBuiltins "enumerate" = some (.type "enumerate") := by decide +kernel
theorem pi_enum {X : Cx} {es : List Expr} {k1 : Nat} {p1 : Pos} {e1 : Expr} {ta : TA} {p pos : Pos} (hg : Gl X "enumerate") (hm : X.mg "enumerate" = none) (ha : PA X [e1] ta) (hs : starEach [e1] X.env = [(false,eval e1 X.env)] := by rfl) :
  PI X (.Tuple es k1 p1) (.Call (.Name "enumerate" p) [e1] [] pos) (iEnu X.K ta) := by
 intro pins s σ H R I h
 refine Call_ (ld_blt I hg hm bt_enumerate (PyProof.Rows.callWith_type1 (thn (ha pos pins s σ H _ I h) fun us s1 ⟨vs,H1,I1,r1,q1⟩ => ?_) hs rfl))
 obtain ⟨b,rfl,⟨ys,hy⟩,q⟩ := q1
 cases r1 with
 | cons r rr =>
  cases rr
  cases r
  obtain ⟨its',_,ty,_⟩ := I1.list hy
  have lb : b < s1.heap.objs.size := by obtain ⟨o,e,_⟩ := isList_of ty; exact Heap.lt_size e
  refine call_enumerate_list (isList_of ty) fun g c1 c5 _ kp => wpAny_pyIter_enum c1 ?_
  have I2 : Inv X pins σ H1 { s1 with heap := g } := I1.kept (t' := s1.toks) kp
  refine ⟨s1.heap.objs.size + 1,_,_,_,H1,rfl,I2,turn_enum lb,⟨⟨_,c1⟩,c5⟩,fun c hc => ?_,q⟩
  refine I1.fpOk ?_ (I1.hok.fresh ?_)
  all_goals
   have hc' : c = s1.heap.objs.size + 1 \/ c = s1.heap.objs.size := by simpa using hc
   rcases hc' with e | e <;> (subst e; omega)
theorem for_enum {K : PySem.W.Frag} {b : Addr} {ys : List V} {g : TG} {tb : TS} {D : Ends} {σ : St} {H : Hp} (Pv : Nat -> St -> Hp -> Prop) (h0 : Pv 0 σ H) (hl : ∀ i σ H,i <= ys.length -> Pv i σ H -> SqL K H b ys)
  (hs : ∀ i y T σ H,ys[i]? = some y -> H T = none -> Pv i σ H -> g (.ref T) σ (upd H T (.tup [.int (i : Nat),y])) fun σ2 H2 => tb { D with nx := Pv (i + 1),ct := Pv (i + 1),bk := D.nx } σ2 H2) (hd : ∀ σ H,Pv ys.length σ H -> D.nx σ H) :
  ∃ W : Nat -> Nat -> St -> Hp -> Prop,(∃ m,W 0 m σ H) /\ ∀ i m σ H,W i m σ H ->
   ((Ite K b).stop i H /\ D.nx σ H) \/ ((Ite K b).go i H /\ ∃ N : St -> Hp -> Prop,(∀ σ' H',N σ' H' -> ∃ m',m' < m /\ W (i + 1) m' σ' H') /\ ∀ v H',(Ite K b).yld i H v H' -> g v σ H' fun σ2 H2 => tb { D with nx := N,ct := N,bk := D.nx } σ2 H2) := by
 refine ⟨fun i m σ H => m = ys.length - i /\ i <= ys.length /\ Pv i σ H,⟨ys.length,by simp,Nat.zero_le _,h0⟩,?_⟩
 rintro i m σ H ⟨rfl,hi,p⟩
 have q2 := hl i σ H hi p
 by_cases hlt : i < ys.length
 ·refine .inr ⟨⟨ys,q2,hlt⟩,Pv (i + 1),fun σ' H' p' => ⟨ys.length - (i + 1),by omega,rfl,hlt,p'⟩,fun v H' y => ?_⟩
  obtain ⟨T,hT,rfl,y⟩ := y
  obtain ⟨y',e2,rfl⟩ := y ys q2
  exact hs i y' T σ H e2 hT p
 ·have e : i = ys.length := by omega
  subst e
  exact .inl ⟨⟨ys,q2,rfl⟩,hd σ H p⟩
end L2
namespace K11
open PySem PySem.Spec PyProof.Rows L2 GM TM BQ
def NL : Str := "\n"
def MKD : List V := [.int 20,.int 30,.int 12]
structure Bs where
 lo : Nat
 hi : Nat
 ws : List Str
 ps : List (Str × Str)
 rs : List (Str × List Rw)
def Bs.cnt (b : Bs) : Nat -> Nat
 | 0 => b.ws.length
 | 1 => b.ps.length
 | _ => b.rs.length
def mostOf : Nat -> Nat
 | 0 => 20
 | 1 => 30
 | _ => 12
def Bs.add (b : Bs) (n : Nat) : En -> Bs
 | .w x => ⟨n,2,b.ws ++ [x],b.ps,b.rs⟩
 | .p x => ⟨n,2,b.ws,b.ps ++ [x],b.rs⟩
 | .r x => ⟨n,2,b.ws,b.ps,b.rs ++ [x]⟩
def Step (b : Bs) (l : Str) (b' : Bs) : Prop := ∃ n e,kOf (Txt.partition l BL).1 = some n /\ b.lo <= n /\ n <= b.hi /\ b.cnt n ≠ mostOf n /\ EnR n (Txt.partition l BL).2.2 e /\ b' = b.add n e
def B0 : Bs := ⟨0,0,[],[],[]⟩
inductive Run : List Str -> Bs -> Prop
 | nil : Run [] B0
 | snoc {ls l b b'} : Run ls b -> Step b l b' -> Run (ls ++ [l]) b'
def BookV (H : Hp) (v : V) (b : Bs) : Prop := ∃ z a0 a1 a2 u1 u2,v = .ref z /\ H z = some (.tup [.ref a0,.ref a1,.ref a2]) /\ H a0 = some (.tup (b.ws.map V.str)) /\ H a1 = some (.tup u1) /\ L2R (PairV H) u1 b.ps /\ H a2 = some (.tup u2) /\ L2R (RecV H) u2 b.rs
def spBook (K : PySem.W.Frag) (c : Addr) : Sp := fun vs H Q E => ∃ v,vs = [v] /\ ((IsiD K H v "str" false /\ BadR c (.int 0) H E) \/
 ∃ x : Str,v = .str x /\ x.length + 2 <= sizeLine /\ (Txt.split x NL).length <= 100 /\ (∀ l ∈ Txt.split x NL,(cps l).length <= 900) /\ (∀ b,Run (Txt.split x NL) b -> ∀ v H',Same H H' -> BookV H' v b -> Q v H') /\
  (∀ pre l post b,Txt.split x NL = pre ++ l :: post -> Run pre b -> (∀ b',¬ Step b l b') -> BadR c (.int (pre.length : Nat)) H E))
theorem same_own {H H' : Hp} {p : Addr} {o : HO} (s : Same H H') (n : H p = none) : Same H (upd H' p o) := fun b u e => by
 have ne : b ≠ p := fun z => by rw [z,n] at e; cases e
 rw [upd_ne ne]
 exact s b u e
theorem PairV.keep {H H' : Hp} {v : V} {p : Str × Str} (s : Same H H') (h : PairV H v p) : PairV H' v p := by
 obtain ⟨z,e,a⟩ := h
 exact ⟨z,e,s _ _ a⟩
theorem tk_lst {H : Hp} {p : Addr} {xs : List V} {o : HO} (h : H p = some (.lst xs)) : Tk H (upd H p o) := fun a ys e => by
 have ne : a ≠ p := fun z => by rw [z,h] at e; cases e
 rw [upd_ne ne]
 exact e
theorem PairV.tk {H H' : Hp} {v : V} {p : Str × Str} (s : Tk H H') (h : PairV H v p) : PairV H' v p := by
 obtain ⟨z,e,a⟩ := h
 exact ⟨z,e,s _ _ a⟩
theorem RecV.tk {H H' : Hp} {v : V} {p : Str × List Rw} (s : Tk H H') (h : RecV H v p) : RecV H' v p := by
 obtain ⟨z,q,us,e,a,b,c⟩ := h
 exact ⟨z,q,us,e,s _ _ a,s _ _ b,c.imp fun _ _ z => z.keep s⟩
structure BL3 (H : Hp) (bt b0 b1 b2 : Addr) (b : Bs) : Prop where
 t : H bt = some (.tup [.ref b0,.ref b1,.ref b2])
 h0 : H b0 = some (.lst (b.ws.map V.str))
 h1 : ∃ us,H b1 = some (.lst us) /\ L2R (PairV H) us b.ps
 h2 : ∃ us,H b2 = some (.lst us) /\ L2R (RecV H) us b.rs
theorem BL3.keep {H H' : Hp} {bt b0 b1 b2 : Addr} {b : Bs} (h : BL3 H bt b0 b1 b2 b) (s : Same H H') : BL3 H' bt b0 b1 b2 b := by
 obtain ⟨t,h0,⟨u1,a1,l1⟩,⟨u2,a2,l2⟩⟩ := h
 exact ⟨s _ _ t,s _ _ h0,⟨u1,s _ _ a1,l1.imp fun _ _ z => z.keep s⟩,⟨u2,s _ _ a2,l2.imp fun _ _ z => z.keep s⟩⟩
theorem BL3.add0 {H : Hp} {bt b0 b1 b2 : Addr} {b : Bs} (h : BL3 H bt b0 b1 b2 b) (n10 : b1 ≠ b0) (n20 : b2 ≠ b0) (n : Nat) (x : Str) : BL3 (upd H b0 (.lst (b.ws.map V.str ++ [.str x]))) bt b0 b1 b2 (b.add n (.w x)) := by
 have tk : Tk H (upd H b0 (.lst (b.ws.map V.str ++ [.str x]))) := tk_lst h.h0
 obtain ⟨t,h0,⟨u1,a1,l1⟩,⟨u2,a2,l2⟩⟩ := h
 refine ⟨tk _ _ t,?_,⟨u1,by rw [upd_ne n10]; exact a1,l1.imp fun _ _ z => z.tk tk⟩,⟨u2,by rw [upd_ne n20]; exact a2,l2.imp fun _ _ z => z.tk tk⟩⟩
 rw [upd_same]
 show _ = some (HO.lst ((b.ws ++ [x]).map V.str))
 rw [List.map_append]
 rfl
theorem BL3.add1 {H : Hp} {bt b0 b1 b2 : Addr} {b : Bs} {us : List V} {v : V} (h : BL3 H bt b0 b1 b2 b) (hu : H b1 = some (.lst us)) (n10 : b1 ≠ b0) (n21 : b2 ≠ b1) (n : Nat) (x : Str × Str) (hv : PairV H v x) : BL3 (upd H b1 (.lst (us ++ [v]))) bt b0 b1 b2 (b.add n (.p x)) := by
 have tk : Tk H (upd H b1 (.lst (us ++ [v]))) := tk_lst hu
 obtain ⟨t,h0,⟨u1,a1,l1⟩,⟨u2,a2,l2⟩⟩ := h
 rw [hu] at a1
 cases a1
 exact ⟨tk _ _ t,by rw [upd_ne (Ne.symm n10)]; exact h0,⟨us ++ [v],upd_same,(l1.imp fun _ _ z => z.tk tk).snoc (hv.tk tk)⟩,⟨u2,by rw [upd_ne n21]; exact a2,l2.imp fun _ _ z => z.tk tk⟩⟩
theorem BL3.add2 {H : Hp} {bt b0 b1 b2 : Addr} {b : Bs} {us : List V} {v : V} (h : BL3 H bt b0 b1 b2 b) (hu : H b2 = some (.lst us)) (n20 : b2 ≠ b0) (n21 : b2 ≠ b1) (n : Nat) (x : Str × List Rw) (hv : RecV H v x) : BL3 (upd H b2 (.lst (us ++ [v]))) bt b0 b1 b2 (b.add n (.r x)) := by
 have tk : Tk H (upd H b2 (.lst (us ++ [v]))) := tk_lst hu
 obtain ⟨t,h0,⟨u1,a1,l1⟩,⟨u2,a2,l2⟩⟩ := h
 rw [hu] at a2
 cases a2
 exact ⟨tk _ _ t,by rw [upd_ne (Ne.symm n20)]; exact h0,⟨u1,by rw [upd_ne (Ne.symm n21)]; exact a1,l1.imp fun _ _ z => z.tk tk⟩,⟨us ++ [v],upd_same,(l2.imp fun _ _ z => z.tk tk).snoc (hv.tk tk)⟩⟩
theorem call_tuple_ofK {X : Cx} {K : PySem.W.Frag} (h : X.K = K) : CallR X (.type "tuple") (fun xs H Q => ∃ p ys,xs = [.ref p] /\ ((SqL K H p ys /\ ∀ l,H l = none -> Q (.ref l) (upd H l (.tup ys))) \/ (SqT K H p ys /\ Q (.ref p) H))) := h ▸ call_tuple_of
theorem ndE : (["entries"] : List Str).Nodup := by decide +kernel
section
variable {P : Program} {w : World} {K : PySem.W.Frag} {mg : Str -> Option Value} {base : Heap} {cP c0 fI : Addr}
theorem scBook : FnScope ["text","book","lowest","highest","place","line","kind","entry"] ["text"] (defScope sBook) := ⟨rfl,rfl,rfl,by decide +kernel,rfl,by decide +kernel,by decide +kernel⟩
theorem ok_book {f aK aM : Addr} {fd fdI : FuncData} (F : Fun K "read_book" "read_book" sBook f fd) (T : Txt mg) (R : ErN K mg cP c0 fI) (FI : FnOk P w K mg base CX0 1 fI fdI ["self","row"] (spInit c0)) (bI : Binds K fdI ["self","row"] []) (mK : mg "KINDS" = some (.ref aK)) (sK : ∀ H : Hp,SqT K H aK KND) (mM : mg "MOST_OF_KIND" = some (.ref aM)) (sM : ∀ H : Hp,SqT K H aM MKD)
  (cK : Cal P w K mg base CX0 9 "kind_of" ["line"] spKO) (cE : Cal P w K mg base CX0 9 "read_entry" ["kind","rest"] spEntry) : FnOk P w K mg base (CXg P w) 10 f fd ["text"] (spBook K c0) := by
 refine F.okF scBook (fun vs H Q E h => ?_) (fun cdv A outer s H vs Q E hr h => ?_)
 ·obtain ⟨_,rfl,_⟩ := h
  rfl
 ·obtain ⟨v,rfl,h⟩ := h
  refine ⟨_,(pss_cons (ps_if (pt_not (pt_val (pe_callB call_isiZ rfl T.isi boot_isinstance (pa_cons (pv 0) (pa_cons (pe_bltn (v := .ty "str") rfl T.str' bt_str rfl) pa_nil)))))
    (pss_one (ps_raiseI (k := 1) rfl xe_f rfl (hr.mono (by decide)) rfl R.m0 R.ef.i FI bI (pa_cons pe_int pa_nil)))
    pss_nil)
   (pss_cons (ps_set (i := 1) scBook.nd rfl (Or.inl rfl) (pe_tup (pa_cons (pe_lst pa_nil) (pa_cons (pe_lst pa_nil) (pa_cons (pe_lst pa_nil) pa_nil)))))
   (pss_cons (ps_set (i := 2) scBook.nd rfl (Or.inl rfl) pe_int)
   (pss_cons (ps_set (i := 3) scBook.nd rfl (Or.inl rfl) pe_int)
   (pss_cons (ps_for PassesOwn.leaving rfl (pi_enum rfl T.enum' (pa_cons (pe_bm PySem.F.plainAttrs_str PySem.F.slot_str_split PySem.F.type_str_split mt_split (pv 0) (pa_cons pe_str pa_nil)) pa_nil)) (pg_tup rfl (pgs_cons (pg_name (i := 4) scBook.nd rfl (Or.inl rfl)) (pgs_cons (pg_name (i := 5) scBook.nd rfl (Or.inl rfl)) pgs_nil)))
    (pss_cons (ps_set (i := 6) scBook.nd rfl (Or.inl rfl) (pe_cal cK hr rfl pass0 (pa_cons (pv 5) pa_nil)))
   (pss_cons (ps_if (PW.pt (pw_or (pt_cmpR op_isN (pv 6) pe_non (nomark _)) (pw_or (pt_not (pt_chain op_le op_le (pv 2) (pv 6) (pv 3))) (pw_or1 (pt_cmpR op_eq (pe_callB call_len_seq rfl T.len PySem.boot_len (pa_cons (pe_ix ix_tup (pv 1) (pv 6) (fun _ _ => rfl)) pa_nil)) (pe_ix ix_tup (pe_glob (v := .ref aM) rfl mM rfl) (pv 6) (fun _ _ => rfl)) (nomark _))))))
    (pss_one (ps_raiseI (k := 1) rfl xe_f rfl (hr.mono (by decide)) rfl R.m0 R.ef.i FI bI (pa_cons (pv 4) pa_nil)))
    pss_nil)
   (pss_cons (ps_set (i := 7) scBook.nd rfl (Or.inl rfl) (pe_cal cE hr rfl pass0 (pa_cons (pv 6) (pa_cons (pe_ix ix_tup (pe_bm PySem.F.plainAttrs_str PySem.F.slot_str_partition PySem.F.type_str_partition mt_part (pv 5) (pa_cons pe_str pa_nil)) pe_int (fun _ _ => rfl)) pa_nil))))
   (pss_cons (ps_if (pt_cmpR op_isN (pv 7) pe_non (nomark _))
    (pss_one (ps_raiseI (k := 1) rfl xe_f rfl (hr.mono (by decide)) rfl R.m0 R.ef.i FI bI (pa_cons (pv 4) pa_nil)))
    pss_nil)
   (pss_cons (ps_expr (pe_bm PySem.F.plainAttrs_list PySem.F.slot_list_append PySem.F.type_list_append mt_append (pe_ix ix_tup (pv 1) (pv 6) (fun _ _ => rfl)) (pa_cons (pv 7) pa_nil)))
   (pss_cons (ps_set (i := 2) scBook.nd rfl (Or.inl rfl) (pv 6))
   (pss_one (ps_set (i := 3) scBook.nd rfl (Or.inl rfl) (pe_op op_sub (pe_callB call_len_seq rfl T.len PySem.boot_len (pa_cons (pe_glob (v := .ref aK) rfl mK rfl) pa_nil)) pe_int))))))))))
   (pss_one (ps_ret (pe_callTy call_tuple_of rfl T.tup' bt_tuple (pa_cons (pe_comp (N' := ["entries"]) (cl := []) (fun _ => [none]) rfl rfl (by decide +kernel) (by decide +kernel) (clOk_plain (by decide +kernel)) (fun _ _ => blkN_none) (pi_tup (pv 1)) (fun _ _ _ _ _ => pg_name (i := 0) ndE rfl (Or.inl rfl)) (fun _ _ _ _ _ => pifs_nil) (fun _ _ _ _ _ => pe_callTy (call_tuple_ofK (K := K) rfl) rfl T.tup' bt_tuple (pa_cons (pv 0) pa_nil))) pa_nil))))))))),?_⟩
  rcases h with ⟨hi,hb⟩ | ⟨x,rfl,hz,hn,hls,kG,kB⟩
  ·exact ⟨_,rfl,v,"str",false,rfl,hi,_,rfl,iteT (raise_badR (.inr ⟨0,rfl,by decide⟩) hb)⟩
  refine ⟨_,rfl,_,"str",true,rfl,.inl .str_str,_,rfl,iteF ?_⟩
  refine ⟨(by show 0 <= sizeLine; decide),fun b0 hb0 => ⟨(by show 0 <= sizeLine; decide),fun b1 hb1 => ⟨(by show 0 <= sizeLine; decide),fun b2 hb2 => ⟨(by show 3 <= sizeLine; decide),fun bt hbt => ?_⟩⟩⟩⟩
  have sa : Same H (upd (upd (upd (upd H b0 (.lst [])) b1 (.lst [])) b2 (.lst [])) bt (.tup [.ref b0,.ref b1,.ref b2])) := (((Same.upd hb0).trans (Same.upd hb1)).trans (Same.upd hb2)).trans (Same.upd hbt)
  have n10 : b1 ≠ b0 := fun z => by rw [z,upd_same] at hb1; cases hb1
  have n21 : b2 ≠ b1 := fun z => by rw [z,upd_same] at hb2; cases hb2
  have n20 : b2 ≠ b0 := fun z => by rw [z,upd_ne (Ne.symm n10),upd_same] at hb2; cases hb2
  have f0 : H b0 = none := hb0
  have f1 : H b1 = none := by rw [upd_ne n10] at hb1; exact hb1
  have f2 : H b2 = none := by rw [upd_ne n21,upd_ne n20] at hb2; exact hb2
  have bl0 : BL3 (upd (upd (upd (upd H b0 (.lst [])) b1 (.lst [])) b2 (.lst [])) bt (.tup [.ref b0,.ref b1,.ref b2])) bt b0 b1 b2 B0 :=
   ⟨upd_same,(((Same.upd hb1).trans (Same.upd hb2)).trans (Same.upd hbt)) _ _ upd_same,⟨[],((Same.upd hb2).trans (Same.upd hbt)) _ _ upd_same,L2R.nil⟩,⟨[],(Same.upd hbt) _ _ upd_same,L2R.nil⟩⟩
  generalize upd (upd (upd (upd H b0 (.lst [])) b1 (.lst [])) b2 (.lst [])) bt (.tup [.ref b0,.ref b1,.ref b2]) = Ha at sa bl0
  refine ⟨_,rfl,rfl,x,_,rfl,rfl,rfl,hz,fun pp hpp => ?_⟩
  have eS : Txt.split x NL = Txt.split x (Str.ofString "\n") := rfl
  rw [eS] at hn hls kG kB
  generalize Txt.split x (Str.ofString "\n") = ls at hn hls kG kB
  have hq0 : (upd Ha pp (.lst (ls.map V.str))) pp = some (.lst (ls.map V.str)) := upd_same
  have sb := sa.trans (Same.upd (o := .lst (ls.map V.str)) hpp)
  have bl1 := bl0.keep (Same.upd (o := .lst (ls.map V.str)) hpp)
  have np0 : b0 ≠ pp := fun z => by rw [<- z,bl0.h0] at hpp; cases hpp
  have np1 : b1 ≠ pp := fun z => by obtain ⟨_,a,_⟩ := bl0.h1; rw [<- z,a] at hpp; cases hpp
  have np2 : b2 ≠ pp := fun z => by obtain ⟨_,a,_⟩ := bl0.h2; rw [<- z,a] at hpp; cases hpp
  generalize upd Ha pp (.lst (ls.map V.str)) = Hb at hq0 sb bl1
  refine ⟨pp,rfl,⟨_,SqL.of hq0⟩,?_⟩
  refine for_enum (ys := ls.map V.str) (fun i σ H' => ∃ (b : Bs) (v4 v5 v6 v7 : Option V),σ = [some (.str x),some (.ref bt),some (.int (b.lo : Int)),some (.int (b.hi : Int)),v4,v5,v6,v7] /\ Same H H' /\ H' pp = some (.lst (ls.map V.str)) /\ BL3 H' bt b0 b1 b2 b /\ Run (ls.take i) b /\ b.ws.length + b.ps.length + b.rs.length <= i)
   ⟨B0,none,none,none,none,rfl,sb,hq0,bl1,.nil,Nat.le_refl _⟩ ?_ ?_ ?_
  ·intro i σ H' _ hh
   obtain ⟨_,_,_,_,_,_,_,h,_⟩ := hh
   exact SqL.of h
  ·intro i y p σ H2 hy hp hh
   obtain ⟨b,v4,v5,v6,v7,rfl,s2,hq2,bl,run,cn⟩ := hh
   rw [List.getElem?_map] at hy
   obtain ⟨l,hl,rfl⟩ := Option.map_eq_some_iff.mp hy
   have il : i < ls.length := (List.getElem?_eq_some_iff.mp hl).1
   have i100 : i < 1000 := by omega
   have el : ls = ls.take i ++ l :: ls.drop (i + 1) := by
    have h1 : ls.drop i = l :: ls.drop (i + 1) := by
     rw [List.drop_eq_getElem_cons il]
     congr 1
     exact Option.some.inj ((List.getElem?_eq_getElem il).symm.trans hl)
    rw [<- h1,List.take_append_drop]
   have ti : (ls.take i).length = i := by rw [List.length_take]; omega
   have bad : (∀ b',¬ Step b l b') -> ∀ {H'},Same H H' -> BadR c0 (.int (i : Nat)) H' E := fun ns H' s' => by
    have := kB _ _ _ b el run ns
    rw [ti] at this
    exact this.mono s'
   have t1 := Same.upd (o := .tup [.int (i : Nat),.str l]) hp
   have s3 := s2.trans t1
   have bl3 := bl.keep t1
   have hq3 := t1 _ _ hq2
   refine ⟨p,_,rfl,SqT.of upd_same,rfl,_,_,rfl,_,_,rfl,rfl,?_⟩
   generalize upd H2 p (.tup [.int (i : Nat),.str l]) = H3 at s3 bl3 hq3
   refine ⟨_,rfl,l,rfl,hls l (List.mem_of_getElem? hl),fun H4 s4 => ?_⟩
   have bl4 := bl3.keep s4
   have s04 := s3.trans s4
   have hq4 := s4 _ _ hq3
   cases ek : kOf (Txt.partition l BL).1 with
   | none =>
    refine ⟨_,rfl,rfl,_,rfl,iteT ⟨_,rfl,raise_badR (.inr ⟨i,rfl,i100⟩) (bad (fun b' ⟨n,e,h,_⟩ => ?_) s04)⟩⟩
    rw [ek] at h
    cases h
   | some n =>
    have n2 : n <= 2 := by
     unfold kOf at ek
     split at ek
     ·cases ek; decide
     ·split at ek
      ·cases ek; decide
      ·split at ek
       ·cases ek; decide
       ·cases ek
    have only : ∀ {b'},Step b l b' -> b.lo <= n /\ n <= b.hi /\ b.cnt n ≠ mostOf n /\ ∃ e,EnR n (Txt.partition l BL).2.2 e := fun ⟨m,e,h1,h2,h3,h4,h5,_⟩ => by
     rw [ek] at h1
     cases h1
     exact ⟨h2,h3,h4,e,h5⟩
    refine ⟨_,rfl,rfl,_,rfl,iteF ⟨_,rfl,_,rfl,_,_,rfl,rfl,_,rfl,ite2 (fun g1 => ?_) (fun g1 => ?_)⟩⟩
    rotate_left
    ·have g1' : ¬ ((b.lo : Int) <= (n : Int)) := fun z => g1 (decide_eq_true z)
     exact ⟨_,rfl,iteT ⟨_,rfl,raise_badR (.inr ⟨i,rfl,i100⟩) (bad (fun b' st => g1' (by have := (only st).1; omega)) s04)⟩⟩
    have g1' : ((b.lo : Int) <= (n : Int)) := of_decide_eq_true g1
    refine ⟨_,rfl,_,_,rfl,rfl,_,rfl,?_⟩
    by_cases g2 : (n : Int) <= (b.hi : Int)
    rotate_left
    ·rw [decide_eq_false g2]
     exact iteT ⟨_,rfl,raise_badR (.inr ⟨i,rfl,i100⟩) (bad (fun b' st => g2 (by have := (only st).2.1; omega)) s04)⟩
    rw [decide_eq_true g2]
    obtain ⟨bk,ys,hbt,hbk,hlen,hf,hM⟩ : ∃ bk ys,atI [V.ref b0,V.ref b1,V.ref b2] (n : Int) = some (.ref bk) /\ H4 bk = some (.lst ys) /\ ys.length = b.cnt n /\ H bk = none /\ atI MKD (n : Int) = some (.int (mostOf n : Nat)) := by
     have h3 : n = 0 \/ n = 1 \/ n = 2 := by omega
     rcases h3 with rfl | rfl | rfl
     ·exact ⟨b0,_,rfl,bl4.h0,by rw [List.length_map]; rfl,f0,rfl⟩
     ·obtain ⟨us,a,l2⟩ := bl4.h1
      exact ⟨b1,us,rfl,a,l2.len,f1,rfl⟩
     ·obtain ⟨us,a,l2⟩ := bl4.h2
      exact ⟨b2,us,rfl,a,l2.len,f2,rfl⟩
    refine iteF ⟨_,rfl,_,rfl,bt,_,_,_,rfl,rfl,SqT.of bl4.t,hbt,bk,_,rfl,.inl (SqL.of hbk),_,rfl,aM,_,_,_,rfl,rfl,sM _,hM,rfl,_,rfl,ite2 (fun g3 => ?_) (fun g3 => ?_)⟩
    ·have g3' : b.cnt n = mostOf n := by
      have := V.int.inj (of_decide_eq_true g3)
      omega
     exact ⟨_,rfl,raise_badR (.inr ⟨i,rfl,i100⟩) (bad (fun b' st => (only st).2.2.1 g3') s04)⟩
    have g3' : b.cnt n ≠ mostOf n := fun z => g3 (decide_eq_true (by rw [hlen,z]))
    refine ⟨_,rfl,_,rfl,rfl,l,_,rfl,rfl,rfl,size_in (hls l (List.mem_of_getElem? hl)),fun pc hpc => ⟨pc,_,2,_,rfl,rfl,SqT.of upd_same,rfl,n,_,rfl,n2,(part_len (hls l (List.mem_of_getElem? hl))).2,fun u H5 s5 o => ?_⟩⟩
    have t45 := (Same.upd hpc).trans s5
    have s05 := s04.trans t45
    have bl5 := bl4.keep t45
    have hq5 := t45 _ _ hq4
    rcases o with ⟨e,re,we⟩ | ⟨hno,rfl⟩
    rotate_left
    ·exact ⟨_,rfl,rfl,_,rfl,iteT ⟨_,rfl,raise_badR (.inr ⟨i,rfl,i100⟩) (bad (fun b' st => by obtain ⟨e,he⟩ := (only st).2.2.2; exact hno e he) s05)⟩⟩
    have ti1 : ls.take (i + 1) = ls.take i ++ [l] := by rw [List.take_add_one,hl]; rfl
    have step : Step b l (b.add n e) := ⟨n,e,ek,by omega,by omega,g3',re,rfl⟩
    have run' : Run (ls.take (i + 1)) (b.add n e) := by rw [ti1]; exact .snoc run step
    have ppne : ∀ {q : Addr} {o : HO},q ≠ pp -> (upd H5 q o) pp = some (.lst (ls.map V.str)) := fun nq => by rw [upd_ne (Ne.symm nq)]; exact hq5
    rcases re with ⟨rfl,wd,rfl,_⟩ | ⟨rfl,pr,rfl,_⟩ | ⟨rfl,rc,rfl,_⟩
    ·have eu : u = .str wd := we
     subst eu
     refine ⟨_,rfl,rfl,_,rfl,iteF ?_⟩
     refine ⟨_,rfl,_,rfl,bt,_,_,_,rfl,rfl,SqT.of bl5.t,rfl,.inl ⟨rfl,_,SqL.of bl5.h0⟩,_,rfl,b0,_,_,rfl,rfl,bl5.h0,small1000 (by rw [List.length_map]; omega),?_⟩
     refine ⟨_,rfl,aK,_,rfl,.inr (sK _),_,_,rfl,rfl,_,_,_,_,_,rfl,same_own s05 f0,ppne np0,bl5.add0 n10 n20 0 wd,run',?_⟩
     show (b.ws ++ [wd]).length + b.ps.length + b.rs.length <= i + 1
     rw [List.length_append,List.length_singleton]
     omega
    ·obtain ⟨z,rfl,hz⟩ := we
     obtain ⟨us,hus,lus⟩ := bl5.h1
     refine ⟨_,rfl,rfl,_,rfl,iteF ?_⟩
     refine ⟨_,rfl,_,rfl,bt,_,_,_,rfl,rfl,SqT.of bl5.t,rfl,.inl ⟨rfl,_,SqL.of hus⟩,_,rfl,b1,_,_,rfl,rfl,hus,small1000 (by have := lus.len; omega),?_⟩
     refine ⟨_,rfl,aK,_,rfl,.inr (sK _),_,_,rfl,rfl,_,_,_,_,_,rfl,same_own s05 f1,ppne np1,bl5.add1 hus n10 n21 1 pr ⟨z,rfl,hz⟩,run',?_⟩
     show b.ws.length + (b.ps ++ [pr]).length + b.rs.length <= i + 1
     rw [List.length_append,List.length_singleton]
     omega
    ·have we' : RecV H5 u rc := we
     obtain ⟨z,q,us',rfl,_⟩ := we
     obtain ⟨us,hus,lus⟩ := bl5.h2
     refine ⟨_,rfl,rfl,_,rfl,iteF ?_⟩
     refine ⟨_,rfl,_,rfl,bt,_,_,_,rfl,rfl,SqT.of bl5.t,rfl,.inl ⟨rfl,_,SqL.of hus⟩,_,rfl,b2,_,_,rfl,rfl,hus,small1000 (by have := lus.len; omega),?_⟩
     refine ⟨_,rfl,aK,_,rfl,.inr (sK _),_,_,rfl,rfl,_,_,_,_,_,rfl,same_own s05 f2,ppne np2,bl5.add2 hus n20 n21 2 rc we',run',?_⟩
     show b.ws.length + b.ps.length + (b.rs ++ [rc]).length <= i + 1
     rw [List.length_append,List.length_singleton]
     omega
  ·intro σ H2 hh
   obtain ⟨b,v4,v5,v6,v7,rfl,s2,hq2,bl,run,cn⟩ := hh
   rw [List.length_map,List.take_of_length_le (Nat.le_refl _)] at run
   obtain ⟨t,h0,⟨u1,a1,l1⟩,⟨u2,a2,l2⟩⟩ := bl
   have sT : SqT K H2 bt [.ref b0,.ref b1,.ref b2] := SqT.of t
   refine ⟨_,rfl,bt,rfl,⟨_,sT⟩,fun D hD => ?_⟩
   refine comp_rel (Ys.tup sT) (fun i _ y H' => ∃ z,y = .ref z /\ H' z = some (.tup (match i with | 0 => b.ws.map V.str | 1 => u1 | _ => u2))) (fun _ _ _ _ _ ⟨z,e,h⟩ kk => ⟨z,e,kk _ _ h⟩) hD (by show 3 <= 1000; decide) (fun i y H' R hy sm hR => ?_) (fun ys H' sm hD' yl hy => ?_)
   ·match i with
    | 0 =>
     cases hy
     refine ⟨(Keep.refl _).set rfl,_,rfl,b0,_,rfl,.inl ⟨SqL.of (sm _ _ h0),fun l hl => hR _ _ (Same.upd hl) ⟨l,rfl,upd_same⟩⟩⟩
    | 1 =>
     cases hy
     refine ⟨(Keep.refl _).set rfl,_,rfl,b1,_,rfl,.inl ⟨SqL.of (sm _ _ a1),fun l hl => hR _ _ (Same.upd hl) ⟨l,rfl,upd_same⟩⟩⟩
    | 2 =>
     cases hy
     refine ⟨(Keep.refl _).set rfl,_,rfl,b2,_,rfl,.inl ⟨SqL.of (sm _ _ a2),fun l hl => hR _ _ (Same.upd hl) ⟨l,rfl,upd_same⟩⟩⟩
    | n + 3 => simp at hy
   ·obtain ⟨y0,y1,y2,rfl⟩ : ∃ a b c,ys = [a,b,c] := by
     match ys,yl with
     | [a,b,c],_ => exact ⟨a,b,c,rfl⟩
    obtain ⟨z0,rfl,e0⟩ := hy 0 _ _ rfl rfl
    obtain ⟨z1,rfl,e1⟩ := hy 1 _ _ rfl rfl
    obtain ⟨z2,rfl,e2⟩ := hy 2 _ _ rfl rfl
    refine ⟨D,_,rfl,.inl ⟨SqL.of hD',fun l hl => kG b run _ _ ((s2.trans sm).trans (Same.upd hl)) ?_⟩⟩
    have sl : Same H' (upd H' l (.tup [.ref z0,.ref z1,.ref z2])) := Same.upd hl
    exact ⟨l,z0,z1,z2,u1,u2,rfl,upd_same,sl _ _ e0,sl _ _ e1,l1.imp fun _ _ z => z.keep (sm.trans sl),sl _ _ e2,l2.imp fun _ _ z => z.keep (sm.trans sl)⟩
end
end K11
namespace L2
open PySem PySem.Spec PyProof.Rows
def jn (sep : Str) : List Str -> Str
 | [x] => x
 | l => Builtin.Str.glued sep l
theorem strs_toks {ss : List Str} : ∀ {us : List Value},Vals (ss.map V.str) us -> ∃ l : List (Str × Tok),us = PySem.strValues l /\ l.map (·.1) = ss := by
 induction ss with
 | nil => intro us r; rw [List.map_nil] at r; cases r; exact ⟨[],rfl,rfl⟩
 | cons x ss ih =>
  intro us r
  rw [List.map_cons] at r
  cases r with
  | cons r1 r2 =>
   obtain ⟨t,rfl⟩ := r1
   obtain ⟨l,rfl,e⟩ := ih r2
   exact ⟨(x,t) :: l,rfl,by rw [List.map_cons,e]⟩
theorem fold_len (sep : Str) (m : Nat) : ∀ (ss : List Str) (n : Nat),(∀ x ∈ ss,x.length <= m) -> ss.foldl (· + ·.length + sep.length) n <= n + ss.length * (m + sep.length)
 | [],n,_ => by simp
 | x :: r,n,h => by
  rw [List.foldl_cons,List.length_cons,Nat.succ_mul]
  have h1 := h x (List.mem_cons_self ..)
  have := fold_len sep m r (n + x.length + sep.length) fun y hy => h y (List.mem_cons_of_mem _ hy)
  omega
theorem sum_len (m : Nat) : ∀ ss : List Str,(∀ x ∈ ss,x.length <= m) -> (ss.map (·.length)).sum <= ss.length * m
 | [],_ => by simp
 | x :: r,h => by
  rw [List.map_cons,List.sum_cons,List.length_cons,Nat.succ_mul]
  have h1 := h x (List.mem_cons_self ..)
  have := sum_len m r fun y hy => h y (List.mem_cons_of_mem _ hy)
  omega
def rJoin (K : PySem.W.Frag) : V -> List V -> Hp -> VK -> Prop := fun z vs H Q => ∃ sep a ss,z = .str sep /\ vs = [.ref a] /\ SqL K H a (ss.map V.str) /\ sep.length <= 10 /\ ss.length <= 100 /\ (∀ x ∈ ss,x.length <= 1000) /\ Q (.str (jn sep ss)) H
section
variable {X : Cx}
theorem mt_join : MtR X "str.join" (rJoin X.K) := by
 intro pins s σ H z vs v us Q I rx rv h
 obtain ⟨sep,a,ss,rfl,rfl,hS,h1,h2,h3,q⟩ := h
 obtain ⟨t,rfl⟩ := rx
 obtain ⟨u,rfl,ru⟩ := rv.one
 cases ru
 obtain ⟨its,r,pl,hz⟩ := I.list hS
 obtain ⟨l,rfl,e⟩ := strs_toks r
 have hlong : Builtin.Str.tooLong ((l.map (·.1)).toArray.foldl (· + ·.length + sep.length) 0) = false := by
  unfold Builtin.Str.tooLong
  rw [e,List.foldl_toArray]
  have := fold_len sep 1000 ss 0 h3
  have h4 : ss.length * (1000 + sep.length) <= 100 * 1010 := Nat.mul_le_mul h2 (by omega)
  exact decide_eq_false (by
   have : (101000 : Nat) <= sizeLine := by decide
   omega)
 refine call_meets PySem.F.slot_str_join (typeIs_str _ _ _) PySem.F.entry_str_join (PySem.F.args_str_join_2 _ _) (PySem.meets_str_join_list sep t a l hlong) ⟨pl.isList,?_⟩
 have gl : (Builtin.Str.glued sep ss).length <= sizeLine := by
  rw [size_glued]
  have h5 := sum_len 1000 ss h3
  have h6 : (ss.length - 1) * sep.length <= 100 * 10 := Nat.mul_le_mul (by omega) h1
  have h7 : ss.length * 1000 <= 100 * 1000 := Nat.mul_le_mul_right _ h2
  have : (101000 : Nat) <= sizeLine := by decide
  omega
 subst e
 rcases l with _ | ⟨p,_ | ⟨p2,r⟩⟩
 ·exact ⟨gl,.str _,H,I.tok _,⟨_,rfl⟩,q⟩
 ·exact ⟨.str p.1,H,I,⟨_,rfl⟩,q⟩
 ·exact ⟨gl,.str _,H,I.tok _,⟨_,rfl⟩,q⟩
def tx : V -> Str
 | .int n => toString n
 | .str x => x
 | _ => Str.empty
def TxOk (v : V) : Prop := (∃ n : Nat,v = .int n /\ n < 10 ^ 60) \/ ∃ x,v = .str x /\ x.length <= 100
end
end L2
namespace K11
open PySem PySem.Spec PyProof.Rows L2 GM TM BQ
theorem dg_le : ∀ (k n : Nat),1 <= k -> n < 10 ^ k -> (dg n).length <= k := by
 intro k
 induction k with
 | zero => intro n h; omega
 | succ k ih =>
  intro n _ h
  by_cases h10 : n < 10
  ·rw [dg_lt h10]
   show 1 <= k + 1
   omega
  ·have hm : 0 < n / 10 := by omega
   have e : n = n / 10 * 10 + n % 10 := by omega
   have hk : 1 <= k := by
    cases k with
    | zero => omega
    | succ k => omega
   have := ih (n / 10) hk (by rw [Nat.pow_succ] at h; omega)
   rw [e,dg_snoc hm (by omega),List.length_append]
   show _ + 1 <= _
   omega
theorem cps_jn (sep : Str) : ∀ ss : List Str,cps (jn sep ss) = ST.jl (cps sep) (ss.map cps)
 | [] => rfl
 | [x] => rfl
 | x :: y :: r => by
  have g : ∀ l : List Str,Builtin.Str.glued sep l = Str.join sep l := fun l => StrLaws.glued_eq_join sep l
  have e2 : ∀ z zs,jn sep (z :: zs) = Str.join sep (z :: zs) := fun z zs => by
   cases zs with
   | nil => rfl
   | cons a b => show Builtin.Str.glued sep (z :: a :: b) = _; exact g _
  have e : jn sep (x :: y :: r) = x ++ sep ++ jn sep (y :: r) := by rw [e2,e2]; rfl
  rw [e,cps_append',cps_append',cps_jn sep (y :: r)]
  rfl
def amT (a : BQ.Q) : List Nat := showL a.1.toNat a.2.toNat
def shT (p : Int × Str) : List Nat := dg p.1.toNat ++ 32 :: cps p.2
def rowT : Rw -> List Nat
 | .take a x => cps ("take " : Str) ++ amT a ++ cps (" of " : Str) ++ cps x
 | .fill a x => cps ("fill " : Str) ++ amT a ++ cps (" with " : Str) ++ cps x
 | .parts a ps => cps ("parts " : Str) ++ amT a ++ cps (": " : Str) ++ ST.jl (cps (", " : Str)) (ps.map shT)
 | .to n x => dg n.toNat ++ cps (" to one of " : Str) ++ cps x
def AmN (a : BQ.Q) : Prop := 0 <= a.1 /\ a.1 < 10000000000 /\ 0 <= a.2 /\ a.2 < 10000000000
def RwB : Rw -> Prop
 | .take a x => AmN a /\ (cps x).length <= 8
 | .fill a x => AmN a /\ (cps x).length <= 8
 | .parts a ps => AmN a /\ ps.length <= 10 /\ ∀ p ∈ ps,0 <= p.1 /\ p.1 < 10000000000 /\ (cps p.2).length <= 8
 | .to n x => 0 <= n /\ n < 10000000000 /\ (cps x).length <= 8
theorem amT_len {a : BQ.Q} (h : AmN a) : (amT a).length <= 21 := by
 have h1 := dg_le 10 a.1.toNat (by decide) (by have := h.1; have := h.2.1; omega)
 have h2 := dg_le 10 a.2.toNat (by decide) (by have := h.2.2.1; have := h.2.2.2; omega)
 unfold amT showL
 split
 ·omega
 ·rw [List.length_append,List.length_cons]
  omega
def spAmT : Sp := fun vs H Q _ => ∃ (p : Addr) (a : BQ.Q),vs = [.ref p] /\ AmV H p a /\ AmN a /\ ∀ x : Str,cps x = amT a -> Q (.str x) H
def spRowT : Sp := fun vs H Q _ => ∃ (v : V) (r : Rw),vs = [v] /\ RowV H v r /\ RwB r /\ ∀ (x : Str) H',Same H H' -> cps x = rowT r -> Q (.str x) H'
theorem logI {n : Int} (h0 : 0 <= n) (h : n < 10000000000) : n.natAbs.log2 < 1920 := by
 obtain ⟨m,rfl⟩ := Int.eq_ofNat_of_zero_le h0
 exact logT (Nat.lt_trans (show m < 10000000000 by omega) (by decide +kernel))
theorem cpsI {n : Int} (h0 : 0 <= n) : cps ((toString n : String) : Str) = dg n.toNat := by
 obtain ⟨m,rfl⟩ := Int.eq_ofNat_of_zero_le h0
 exact cpsT m
theorem lenI {n : Int} (h0 : 0 <= n) (h : n < 10000000000) : ((toString n : String) : Str).length <= 10 := by
 rw [lenC,cpsI h0]
 exact dg_le 10 _ (by decide) (by omega)
theorem szA {a b : Nat} (h : a + b <= 2000) : a + b <= sizeLine := Nat.le_trans h (by decide)
theorem ndMT : (["_law_many","_law_thing"] : List Str).Nodup := by decide +kernel
section
variable {P : Program} {w : World} {K : PySem.W.Frag} {mg : Str -> Option Value} {base : Heap}
theorem scAmT : FnScope ["_law_one"] ["_law_one"] (defScope sAmT) := ⟨rfl,rfl,rfl,by decide +kernel,rfl,by decide +kernel,by decide +kernel⟩
theorem ok_amt {f : Addr} {fd : FuncData} (F : Fun K "_law_amount_text" "_law_amount_text" sAmT f fd) (T : Txt mg) : FnOk P w K mg base CX0 1 f fd ["_law_one"] spAmT := by
 refine F.ok scAmT (fun vs H Q E h => ?_) (fun cdv A outer s H vs Q E hr h => ?_)
 ·obtain ⟨_,_,rfl,_⟩ := h
  rfl
 ·obtain ⟨p,a,rfl,hs,hn,k⟩ := h
  refine ⟨_,(pss_cons (ps_if (pt_cmpR op_eq (pit 0 1) pe_int (nomark _))
    (pss_one (ps_ret (pe_callTy call_str_int rfl T.str' bt_str (pa_cons (pit 0 0) pa_nil))))
    pss_nil)
   (pss_one (ps_ret (pe_op op_add_str (pe_op op_add_str (pe_callTy call_str_int rfl T.str' bt_str (pa_cons (pit 0 0) pa_nil)) pe_str) (pe_callTy call_str_int rfl T.str' bt_str (pa_cons (pit 0 1) pa_nil)))))),?_⟩
  have sl1 : cps ("/" : Str) = [47] := by decide +kernel
  have hs' : SqT K H p [.int a.1,.int a.2] := SqT.of hs
  have l1 := lenI hn.1 hn.2.1
  have l2 := lenI hn.2.2.1 hn.2.2.2
  have l3 : ("/" : Str).length = 1 := by decide +kernel
  refine ⟨p,_,_,rfl,hs',rfl,rfl,_,rfl,ite2 (fun hc => ?_) (fun hc => ?_)⟩
  ·have e : a.2 = 1 := V.int.inj (of_decide_eq_true hc)
   refine ⟨p,_,_,rfl,hs',rfl,_,rfl,logI hn.1 hn.2.1,k _ ?_⟩
   rw [cpsI hn.1]
   unfold amT showL
   rw [e]
   rfl
  ·have e : a.2 ≠ 1 := fun z => hc (decide_eq_true (by rw [z]))
   refine ⟨p,_,_,rfl,hs',rfl,_,rfl,logI hn.1 hn.2.1,_,_,rfl,rfl,szA (by omega),p,_,_,rfl,hs',rfl,_,rfl,logI hn.2.2.1 hn.2.2.2,_,_,rfl,rfl,szA (by rw [lenA]; omega),k _ ?_⟩
   rw [cps_append',cps_append',cpsI hn.1,cpsI hn.2.2.1,sl1]
   unfold amT showL
   rw [if_neg (show ¬ a.2.toNat = 1 by have := hn.2.2.1; omega)]
   simp
theorem scRowT : FnScope ["_law_row_here","_law_text","_law_parts_here"] ["_law_row_here"] (defScope sRowT) := ⟨rfl,rfl,rfl,by decide +kernel,rfl,by decide +kernel,by decide +kernel⟩
theorem ok_rowt {f : Addr} {fd : FuncData} (F : Fun K "_law_row_text" "_law_row_text" sRowT f fd) (T : Txt mg) (cA : Cal P w K mg base CX0 1 "_law_amount_text" ["_law_one"] spAmT) : FnOk P w K mg base CX0 2 f fd ["_law_row_here"] spRowT := by
 refine F.ok scRowT (fun vs H Q E h => ?_) (fun cdv A outer s H vs Q E hr h => ?_)
 ·obtain ⟨_,_,rfl,_⟩ := h
  rfl
 ·obtain ⟨v,r,rfl,hv,hb,k⟩ := h
  refine ⟨_,(pss_cons (ps_if (pt_cmpR op_eq (pit 0 0) pe_str (nomark _))
    (pss_one (ps_ret (pe_op op_add_str (pe_op op_add_str (pe_callTy call_str_int rfl T.str' bt_str (pa_cons (pit 0 1) pa_nil)) pe_str) (pit 0 2))))
    pss_nil)
   (pss_cons (ps_set (i := 1) scRowT.nd rfl (Or.inl rfl) (pe_op op_add_str (pe_op op_add_str (pit 0 0) pe_str) (pe_cal cA hr rfl pass0 (pa_cons (pit 0 1) pa_nil))))
   (pss_cons (ps_if (pt_cmpR op_eq (pit 0 0) pe_str (nomark _))
    (pss_one (ps_ret (pe_op op_add_str (pe_op op_add_str (pv 1) pe_str) (pit 0 2))))
    pss_nil)
   (pss_cons (ps_if (pt_cmpR op_eq (pit 0 0) pe_str (nomark _))
    (pss_one (ps_ret (pe_op op_add_str (pe_op op_add_str (pv 1) pe_str) (pit 0 2))))
    pss_nil)
   (pss_cons (ps_comp (iy := 2) (N' := ["_law_many","_law_thing"]) (cl := []) (g := gTup K 2 (gCons (L2.gName 0) (gCons (L2.gName 1) gNil))) (fun _ => [none,none]) rfl rfl (by decide +kernel) (by decide +kernel) (clOk_plain (by decide +kernel)) (fun _ _ => blkN_none) (pi_tup (pit 0 2)) (fun _ _ _ _ _ => pg_tup rfl (pgs_cons (pg_name (i := 0) ndMT rfl (Or.inl rfl) (Or.inr rfl)) (pgs_cons (pg_name (i := 1) ndMT rfl (Or.inl rfl) (Or.inr rfl)) pgs_nil))) (fun _ _ _ _ _ => pifs_nil) (fun _ _ _ _ _ => pe_op op_add_str (pe_op op_add_str (pe_callTy call_str_int rfl T.str' bt_str (pa_cons (pv 0) pa_nil)) pe_str) (pv 1)) scRowT.nd rfl (Or.inl rfl) (Or.inr rfl) rfl)
   (pss_one (ps_ret (pe_op op_add_str (pe_op op_add_str (pv 1) pe_str) (pe_bm PySem.F.plainAttrs_str PySem.F.slot_str_join PySem.F.type_str_join mt_join pe_str (pa_cons (pv 2) pa_nil)))))))))),?_⟩
  have eA : ∀ {y : Str} {a : BQ.Q},cps y = amT a -> AmN a -> y.length <= 21 := fun e h => by rw [lenC,e]; exact amT_len h
  have l1 : (" " : Str).length = 1 := by decide +kernel
  have l2 : (" of " : Str).length = 4 := by decide +kernel
  have l3 : (" with " : Str).length = 6 := by decide +kernel
  have l4 : (" to one of " : Str).length = 11 := by decide +kernel
  have l5 : (": " : Str).length = 2 := by decide +kernel
  have l6 : ("take" : Str).length = 4 := by decide +kernel
  have l7 : ("fill" : Str).length = 4 := by decide +kernel
  have l8 : ("parts" : Str).length = 5 := by decide +kernel
  cases hv with
  | @to p n x h =>
   have hs : SqT K H p [.str "to",.int n,.str x] := SqT.of h
   obtain ⟨n0,n1,hx⟩ := hb
   have ln := lenI n0 n1
   have lx : x.length <= 8 := by rw [lenC]; exact hx
   refine ⟨p,_,_,rfl,hs,rfl,rfl,_,rfl,iteT ⟨p,_,_,rfl,hs,rfl,_,rfl,logI n0 n1,_,_,rfl,rfl,szA (by omega),p,_,_,rfl,hs,rfl,_,_,rfl,rfl,szA (by rw [lenA]; omega),k _ _ (Same.refl _) ?_⟩⟩
   rw [cps_append',cps_append',cpsI n0]
   rfl
  | @take p m a x h ha =>
   have hs : SqT K H p [.str "take",.ref m,.str x] := SqT.of h
   obtain ⟨hn,hx⟩ := hb
   have lx : x.length <= 8 := by rw [lenC]; exact hx
   refine ⟨p,_,_,rfl,hs,rfl,rfl,_,rfl,iteF ⟨p,_,_,rfl,hs,rfl,_,_,rfl,rfl,szA (by omega),p,_,_,rfl,hs,rfl,m,a,rfl,ha,hn,fun y ey => ?_⟩⟩
   have ly := eA ey hn
   refine ⟨_,_,rfl,rfl,szA (by rw [lenA]; omega),p,_,_,rfl,hs,rfl,rfl,_,rfl,iteT ⟨_,rfl,_,_,rfl,rfl,szA (by rw [lenA,lenA]; omega),p,_,_,rfl,hs,rfl,_,_,rfl,rfl,szA (by rw [lenA,lenA,lenA]; omega),k _ _ (Same.refl _) ?_⟩⟩
   simp only [cps_append']
   rw [ey]
   rfl
  | @fill p m a x h ha =>
   have hs : SqT K H p [.str "fill",.ref m,.str x] := SqT.of h
   obtain ⟨hn,hx⟩ := hb
   have lx : x.length <= 8 := by rw [lenC]; exact hx
   refine ⟨p,_,_,rfl,hs,rfl,rfl,_,rfl,iteF ⟨p,_,_,rfl,hs,rfl,_,_,rfl,rfl,szA (by omega),p,_,_,rfl,hs,rfl,m,a,rfl,ha,hn,fun y ey => ?_⟩⟩
   have ly := eA ey hn
   refine ⟨_,_,rfl,rfl,szA (by rw [lenA]; omega),p,_,_,rfl,hs,rfl,rfl,_,rfl,iteF ⟨p,_,_,rfl,hs,rfl,rfl,_,rfl,iteT ⟨_,rfl,_,_,rfl,rfl,szA (by rw [lenA,lenA]; omega),p,_,_,rfl,hs,rfl,_,_,rfl,rfl,szA (by rw [lenA,lenA,lenA]; omega),k _ _ (Same.refl _) ?_⟩⟩⟩
   simp only [cps_append']
   rw [ey]
   rfl
  | @parts p m q a us ps h ha hq l2r =>
   have hs : SqT K H p [.str "parts",.ref m,.ref q] := SqT.of h
   obtain ⟨hn,hpl,hps⟩ := hb
   refine ⟨p,_,_,rfl,hs,rfl,rfl,_,rfl,iteF ⟨p,_,_,rfl,hs,rfl,_,_,rfl,rfl,szA (by omega),p,_,_,rfl,hs,rfl,m,a,rfl,ha,hn,fun y ey => ?_⟩⟩
   have ly := eA ey hn
   refine ⟨_,_,rfl,rfl,szA (by rw [lenA]; omega),p,_,_,rfl,hs,rfl,rfl,_,rfl,iteF ⟨p,_,_,rfl,hs,rfl,rfl,_,rfl,iteF ⟨p,_,_,rfl,hs,rfl,q,rfl,⟨_,SqT.of hq⟩,fun D hD => ?_⟩⟩⟩
   have sU : SqT K H q us := SqT.of hq
   have ul := l2r.len
   refine comp_rel (Ys.tup sU) (fun i _ y _ => ∃ pr z,ps[i]? = some pr /\ y = .str z /\ cps z = shT pr) (fun _ _ _ _ _ h _ => h) hD (by omega) (fun i u H' R hu sm hR => ?_) (fun ys H' sm hD' yl hy => ?_)
   ·obtain ⟨pr,hpr,z,rfl,hz⟩ := l2r.get hu
    obtain ⟨n0,n1,hx⟩ := hps pr (List.mem_of_getElem? hpr)
    have ln := lenI n0 n1
    have lx : pr.2.length <= 8 := by rw [lenC]; exact hx
    refine ⟨z,_,rfl,SqT.of (sm _ _ hz),rfl,_,_,rfl,_,_,rfl,rfl,((Keep.refl _).set rfl).set rfl,?_⟩
    refine ⟨_,rfl,_,rfl,logI n0 n1,_,_,rfl,rfl,szA (by omega),_,rfl,_,_,rfl,rfl,szA (by rw [lenA]; omega),hR _ H' (Same.refl _) ⟨pr,_,hpr,rfl,?_⟩⟩
    rw [cps_append',cps_append',cpsI n0]
    unfold shT
    simp [show cps (" " : Str) = [32] by decide +kernel]
   ·obtain ⟨zs,ezs,ecs⟩ : ∃ zs : List Str,ys = zs.map V.str /\ zs.map cps = ps.map shT := by
     clear hD' hD k
     have key : ∀ (ys : List V) (ps : List (Int × Str)),ys.length = ps.length -> (∀ (i : Nat) y,ys[i]? = some y -> ∃ pr z,ps[i]? = some pr /\ y = .str z /\ cps z = shT pr) -> ∃ zs : List Str,ys = zs.map V.str /\ zs.map cps = ps.map shT := by
      intro ys
      induction ys with
      | nil =>
       intro ps hl _
       have : ps = [] := List.length_eq_zero_iff.mp hl.symm
       subst this
       exact ⟨[],rfl,rfl⟩
      | cons y ys ih =>
       intro ps hl h
       cases ps with
       | nil => simp at hl
       | cons p ps =>
        obtain ⟨pr,z,e1,rfl,e2⟩ := h 0 y rfl
        cases e1
        obtain ⟨zs,a,b⟩ := ih ps (by simpa using hl) (fun i y hy => by simpa using h (i + 1) y (by simpa using hy))
        exact ⟨z :: zs,by rw [a]; rfl,by simp [b,e2]⟩
     refine key ys ps (by omega) fun i y hy' => ?_
     have hi : i < us.length := by have := (List.getElem?_eq_some_iff.mp hy').1; omega
     exact hy i _ y (List.getElem?_eq_getElem hi) hy'
    subst ezs
    have zl : zs.length = ps.length := by
     have := congrArg List.length ecs
     simpa using this
    have zz : ∀ z ∈ zs,z.length <= 19 := fun z hz => by
     obtain ⟨i,hi,e⟩ := List.getElem_of_mem hz
     have e1 : cps z = shT (ps[i]'(by omega)) := by
      have h1 : (zs.map cps)[i]? = (ps.map shT)[i]? := by rw [ecs]
      rw [List.getElem?_map,List.getElem?_map,List.getElem?_eq_getElem hi,List.getElem?_eq_getElem (show i < ps.length by omega),e] at h1
      exact Option.some.inj h1
     obtain ⟨n0,n1,hx⟩ := hps _ (List.getElem_mem (show i < ps.length by omega))
     rw [lenC,e1]
     unfold shT
     have := dg_le 10 (ps[i]'(by omega)).1.toNat (by decide) (by omega)
     rw [List.length_append,List.length_cons]
     omega
    have jl' : (jn ", " zs).length <= 300 := by
     rw [lenC,cps_jn]
     have key : ∀ zs : List Str,(∀ z ∈ zs,z.length <= 19) -> (ST.jl (cps (", " : Str)) (zs.map cps)).length <= 21 * zs.length := by
      intro zs
      induction zs with
      | nil => intro _; exact Nat.zero_le _
      | cons z r ih =>
       intro h
       have hz := h z (by simp)
       rw [lenC] at hz
       cases r with
       | nil => show (cps z).length <= 21 * 1; omega
       | cons z' r =>
        have := ih fun y hy => h y (List.mem_cons_of_mem _ hy)
        show (cps z ++ cps (", " : Str) ++ ST.jl (cps (", " : Str)) ((z' :: r).map cps)).length <= _
        rw [List.length_append,List.length_append,show (cps (", " : Str)).length = 2 by decide +kernel]
        simp only [List.length_cons] at this ⊢
        omega
     have := key zs zz
     omega
    refine ⟨_,rfl,_,_,rfl,rfl,szA (by rw [lenA,lenA]; omega),rfl,_,rfl,", ",D,zs,rfl,rfl,SqL.of hD',by decide +kernel,by omega,fun z hz => Nat.le_trans (zz z hz) (by decide),_,_,rfl,rfl,szA (by rw [lenA,lenA,lenA]; omega),k _ _ sm ?_⟩
    simp only [cps_append']
    rw [ey,cps_jn,ecs]
    rfl
end
end K11
namespace K11
open PySem PySem.Spec PyProof.Rows L2 GM TM BQ
def waT (x : Str) : List Nat := cps ("ware " : Str) ++ cps x
def apT (p : Str × Str) : List Nat := cps ("apart " : Str) ++ cps p.1 ++ cps (" " : Str) ++ cps p.2
def recT (p : Str × List Rw) : List Nat := cps ("recipe " : Str) ++ cps p.1 ++ cps (": " : Str) ++ ST.jl (cps ("; " : Str)) (p.2.map rowT)
def linesT (b : Bs) : List (List Nat) := b.ws.map waT ++ b.ps.map apT ++ b.rs.map recT
structure BkB (b : Bs) : Prop where
 w : b.ws.length <= 30 /\ ∀ x ∈ b.ws,(cps x).length <= 8
 p : b.ps.length <= 40 /\ ∀ x ∈ b.ps,(cps x.1).length <= 8 /\ (cps x.2).length <= 8
 r : b.rs.length <= 20 /\ ∀ x ∈ b.rs,(cps x.1).length <= 8 /\ x.2.length <= 10 /\ (∀ r ∈ x.2,RwB r /\ (rowT r).length <= 900) /\ (recT x).length <= 900
def spLines : Sp := fun vs H Q _ => ∃ (v : V) (b : Bs),vs = [v] /\ BookV H v b /\ BkB b /\ ∀ (l : Addr) (ls : List Str) H',Same H H' -> H' l = some (.lst (ls.map V.str)) -> ls.map cps = linesT b -> Q (.ref l) H'
theorem strs_of {α : Type} (f : α -> List Nat) : ∀ (ys : List V) (ps : List α),ys.length = ps.length -> (∀ (i : Nat) y,ys[i]? = some y -> ∃ pr z,ps[i]? = some pr /\ y = .str z /\ cps z = f pr) -> ∃ zs : List Str,ys = zs.map V.str /\ zs.map cps = ps.map f := by
 intro ys
 induction ys with
 | nil =>
  intro ps hl _
  have : ps = [] := List.length_eq_zero_iff.mp hl.symm
  subst this
  exact ⟨[],rfl,rfl⟩
 | cons y ys ih =>
  intro ps hl h
  cases ps with
  | nil => simp at hl
  | cons p ps =>
   obtain ⟨pr,z,e1,rfl,e2⟩ := h 0 y rfl
   cases e1
   obtain ⟨zs,a,b⟩ := ih ps (by simpa using hl) (fun i y hy => by simpa using h (i + 1) y (by simpa using hy))
   exact ⟨z :: zs,by rw [a]; rfl,by simp [b,e2]⟩
theorem len_of {α : Type} {f : α -> List Nat} {zs : List Str} {ps : List α} {B : Nat} (e : zs.map cps = ps.map f) (h : ∀ p ∈ ps,(f p).length <= B) : ∀ z ∈ zs,z.length <= B := fun z hz => by
 have : cps z ∈ ps.map f := by rw [<- e]; exact List.mem_map.mpr ⟨z,hz,rfl⟩
 obtain ⟨p,hp,ep⟩ := List.mem_map.mp this
 rw [lenC,<- ep]
 exact h p hp
theorem ndN : (["_law_name"] : List Str).Nodup := by decide +kernel
theorem ndR : (["_law_row_here"] : List Str).Nodup := by decide +kernel
section
variable {P : Program} {w : World} {K : PySem.W.Frag} {mg : Str -> Option Value} {base : Heap}
theorem scLines : FnScope ["_law_book_here","_law_lines_here","_law_one","_law_other","_law_name","_law_rows","_law_texts"] ["_law_book_here"] (defScope sLines) := ⟨rfl,rfl,rfl,by decide +kernel,rfl,by decide +kernel,by decide +kernel⟩
theorem ok_lines {f : Addr} {fd : FuncData} (F : Fun K "_law_lines" "_law_lines" sLines f fd) (cR : Cal P w K mg base CX0 2 "_law_row_text" ["_law_row_here"] spRowT) : FnOk P w K mg base CX0 3 f fd ["_law_book_here"] spLines := by
 refine F.ok scLines (fun vs H Q E h => ?_) (fun cdv A outer s H vs Q E hr h => ?_)
 ·obtain ⟨_,_,rfl,_⟩ := h
  rfl
 ·obtain ⟨v,b,rfl,⟨z,a0,a1,a2,u1,u2,rfl,hz,h0,h1,l1,h2,l2⟩,bb,k⟩ := h
  refine ⟨_,(pss_cons (ps_comp (iy := 1) (N' := ["_law_name"]) (cl := []) (g := L2.gName 0) (fun _ => [none]) rfl rfl (by decide +kernel) (by decide +kernel) (clOk_plain (by decide +kernel)) (fun _ _ => blkN_none) (pi_tup (pit 0 0)) (fun _ _ _ _ _ => pg_name (i := 0) ndN rfl (Or.inl rfl) (Or.inr rfl)) (fun _ _ _ _ _ => pifs_nil) (fun _ _ _ _ _ => pe_op op_add_str pe_str (pv 0)) scLines.nd rfl (Or.inl rfl) (Or.inr rfl) rfl)
   (pss_cons (ps_for PassesOwn.never rfl (pi_tup (pit 0 1)) (pg_tup rfl (pgs_cons (pg_name (i := 2) scLines.nd rfl (Or.inl rfl)) (pgs_cons (pg_name (i := 3) scLines.nd rfl (Or.inl rfl)) pgs_nil)))
    (pss_one (ps_expr (pe_bm PySem.F.plainAttrs_list PySem.F.slot_list_append PySem.F.type_list_append mt_append (pv 1) (pa_cons (pe_op op_add_str (pe_op op_add_str (pe_op op_add_str pe_str (pv 2)) pe_str) (pv 3)) pa_nil)))))
   (pss_cons (ps_for PassesOwn.never rfl (pi_tup (pit 0 2)) (pg_tup rfl (pgs_cons (pg_name (i := 4) scLines.nd rfl (Or.inl rfl)) (pgs_cons (pg_name (i := 5) scLines.nd rfl (Or.inl rfl)) pgs_nil)))
    (pss_cons (ps_comp (iy := 6) (N' := ["_law_row_here"]) (cl := []) (g := L2.gName 0) (fun _ => [none]) rfl rfl (by decide +kernel) (by decide +kernel) (clOk_plain (by decide +kernel)) (fun _ _ => blkN_none) (pi_tup (pv 5)) (fun _ _ _ _ _ => pg_name (i := 0) ndR rfl (Or.inl rfl) (Or.inr rfl)) (fun _ _ _ _ _ => pifs_nil) (fun _ _ _ _ _ => pe_cal cR hr rfl pass0 (pa_cons (pv 0) pa_nil)) scLines.nd rfl (Or.inl rfl) (Or.inr rfl) rfl)
   (pss_one (ps_expr (pe_bm PySem.F.plainAttrs_list PySem.F.slot_list_append PySem.F.type_list_append mt_append (pv 1) (pa_cons (pe_op op_add_str (pe_op op_add_str (pe_op op_add_str pe_str (pv 4)) pe_str) (pe_bm PySem.F.plainAttrs_str PySem.F.slot_str_join PySem.F.type_str_join mt_join pe_str (pa_cons (pv 6) pa_nil))) pa_nil))))))
   (pss_one (ps_ret (pv 1)))))),?_⟩
  have sz : SqT K H z [.ref a0,.ref a1,.ref a2] := SqT.of hz
  have s0 : SqT K H a0 (b.ws.map V.str) := SqT.of h0
  have L1 : ("ware " : Str).length = 5 := by decide +kernel
  have L2' : ("apart " : Str).length = 6 := by decide +kernel
  have L3' : (" " : Str).length = 1 := by decide +kernel
  have L4 : ("recipe " : Str).length = 7 := by decide +kernel
  have L5 : (": " : Str).length = 2 := by decide +kernel
  refine ⟨z,_,_,rfl,sz,rfl,a0,rfl,⟨_,s0⟩,fun D hD => ?_⟩
  refine comp_rel (Ys.tup s0) (fun i _ y _ => ∃ x t,b.ws[i]? = some x /\ y = .str t /\ cps t = waT x) (fun _ _ _ _ _ h _ => h) hD (by rw [List.length_map]; have := bb.w.1; omega) (fun i u H' R hu sm hR => ?_) (fun ys H1 s1 hD1 yl hy => ?_)
  ·rw [List.getElem?_map] at hu
   obtain ⟨x,hx,rfl⟩ := Option.map_eq_some_iff.mp hu
   have lx : x.length <= 8 := by rw [lenC]; exact bb.w.2 x (List.mem_of_getElem? hx)
   refine ⟨(Keep.refl _).set rfl,_,rfl,_,_,rfl,rfl,szA (by omega),hR _ H' (Same.refl _) ⟨x,_,hx,rfl,?_⟩⟩
   rw [cps_append']
   rfl
  obtain ⟨z0,rfl,e0⟩ := strs_of waT ys b.ws (by rw [yl,List.length_map]) (fun i y hy' => by
   have hi : i < b.ws.length := by have := (List.getElem?_eq_some_iff.mp hy').1; rw [yl,List.length_map] at this; exact this
   exact hy i _ y (by rw [List.getElem?_map,List.getElem?_eq_getElem hi]; rfl) hy')
  have q1 : SqT K H1 a1 u1 := SqT.of (s1 _ _ h1)
  refine ⟨z,_,_,rfl,SqT.of (s1 _ _ hz),rfl,a1,rfl,⟨_,q1⟩,?_⟩
  refine for_tup (xs := u1) (fun i σ H' => ∃ (ls : List Str) (v2 v3 : Option V),σ = [some (.ref z),some (.ref D),v2,v3,none,none,none] /\ Same H H' /\ H' D = some (.lst (ls.map V.str)) /\ ls.map cps = b.ws.map waT ++ (b.ps.take i).map apT)
   ⟨z0,none,none,rfl,s1,hD1,by rw [e0]; simp⟩ ?_ ?_ ?_
  ·intro i σ H' _ hh
   obtain ⟨_,_,_,_,s',_⟩ := hh
   exact SqT.of (s' _ _ h1)
  ·intro i u σ H2 hu hh
   obtain ⟨ls,v2,v3,rfl,s2,hD2,el⟩ := hh
   obtain ⟨pr,hpr,zz,rfl,hzz⟩ := l1.get hu
   have lp := bb.p.2 pr (List.mem_of_getElem? hpr)
   have ip : i < b.ps.length := (List.getElem?_eq_some_iff.mp hpr).1
   have lx : pr.1.length <= 8 := by rw [lenC]; exact lp.1
   have ly : pr.2.length <= 8 := by rw [lenC]; exact lp.2
   refine ⟨zz,_,rfl,SqT.of (s2 _ _ hzz),rfl,_,_,rfl,_,_,rfl,rfl,?_⟩
   have ll : ls.length <= 70 := by
    have := congrArg List.length el
    simp only [List.length_map,List.length_append,List.length_take] at this
    have := bb.w.1
    have := bb.p.1
    omega
   refine ⟨_,rfl,.inl ⟨rfl,_,SqL.of hD2⟩,_,rfl,_,_,rfl,rfl,szA (by omega),_,_,rfl,rfl,szA (by rw [lenA]; omega),_,rfl,_,_,rfl,rfl,szA (by rw [lenA,lenA]; omega),D,_,_,rfl,rfl,hD2,small1000 (by rw [List.length_map]; omega),?_⟩
   refine ⟨ls ++ [("apart " : Str) ++ pr.1 ++ (" " : Str) ++ pr.2],_,_,rfl,same_own s2 hD,?_,?_⟩
   ·rw [upd_same,List.map_append]
    rfl
   ·rw [List.map_append,el,List.take_add_one,hpr,List.map_append,List.append_assoc]
    simp only [List.map_cons,List.map_nil,cps_append',Option.toList]
    rfl
  intro σ H2 hh
  obtain ⟨ls,v2,v3,rfl,s2,hD2,el⟩ := hh
  rw [l1.len,List.take_of_length_le (Nat.le_refl _)] at el
  have q2 : SqT K H2 a2 u2 := SqT.of (s2 _ _ h2)
  refine ⟨z,_,_,rfl,SqT.of (s2 _ _ hz),rfl,a2,rfl,⟨_,q2⟩,?_⟩
  refine for_tup (xs := u2) (fun i σ H' => ∃ (ls : List Str) (v2 v3 v4 v5 v6 : Option V),σ = [some (.ref z),some (.ref D),v2,v3,v4,v5,v6] /\ Same H H' /\ H' D = some (.lst (ls.map V.str)) /\ ls.map cps = b.ws.map waT ++ b.ps.map apT ++ (b.rs.take i).map recT)
   ⟨ls,_,_,_,_,_,rfl,s2,hD2,by rw [el]; simp⟩ ?_ ?_ ?_
  ·intro i σ H' _ hh
   obtain ⟨_,_,_,_,_,_,_,s',_⟩ := hh
   exact SqT.of (s' _ _ h2)
  ·intro i u σ H3 hu hh
   obtain ⟨ls,v2,v3,v4,v5,v6,rfl,s3,hD3,el⟩ := hh
   obtain ⟨rc,hrc,zz,q,us,rfl,hzz,hq,lr⟩ := l2.get hu
   obtain ⟨ln,lr10,lrows,lrec⟩ := bb.r.2 rc (List.mem_of_getElem? hrc)
   have lx : rc.1.length <= 8 := by rw [lenC]; exact ln
   refine ⟨zz,_,rfl,SqT.of (s3 _ _ hzz),rfl,_,_,rfl,_,_,rfl,rfl,?_⟩
   have ll : ls.length <= 90 := by
    have := congrArg List.length el
    simp only [List.length_map,List.length_append,List.length_take] at this
    have := bb.w.1
    have := bb.p.1
    have := bb.r.1
    omega
   have sQ : SqT K H3 q us := SqT.of (s3 _ _ hq)
   have ul := lr.len
   refine ⟨_,rfl,q,rfl,⟨_,sQ⟩,fun D2 hD2' => ?_⟩
   refine comp_rel (Ys.tup sQ) (fun i _ y _ => ∃ r t,rc.2[i]? = some r /\ y = .str t /\ cps t = rowT r) (fun _ _ _ _ _ h _ => h) hD2' (by omega) (fun j y H' R hy sm hR => ?_) (fun ys H4 s4 hD4 yl hy => ?_)
   ·obtain ⟨r,hr',hv⟩ := lr.get hy
    exact ⟨(Keep.refl _).set rfl,_,rfl,y,r,rfl,hv.keep (s_tk (s3.trans sm)),(lrows r (List.mem_of_getElem? hr')).1,fun x H5 s5 e => hR _ H5 s5 ⟨r,x,hr',rfl,e⟩⟩
   obtain ⟨ts,rfl,et⟩ := strs_of rowT ys rc.2 (by omega) (fun j y hy' => by
    have hi : j < us.length := by have := (List.getElem?_eq_some_iff.mp hy').1; omega
    exact hy j _ y (List.getElem?_eq_getElem hi) hy')
   have tl : ts.length = rc.2.length := by
    have := congrArg List.length et
    simpa using this
   have tz := len_of et (fun r hr' => (lrows r hr').2)
   have hD5 : H4 D = some (.lst (ls.map V.str)) := s4 _ _ hD3
   have jl' : (jn "; " ts).length <= 900 := by
    rw [lenC,cps_jn,et]
    have : (recT rc).length <= 900 := lrec
    unfold recT at this
    rw [List.length_append] at this
    omega
   refine ⟨_,rfl,.inl ⟨rfl,_,SqL.of hD5⟩,_,rfl,_,_,rfl,rfl,szA (by omega),_,_,rfl,rfl,szA (by rw [lenA]; omega),rfl,_,rfl,"; ",D2,ts,rfl,rfl,SqL.of hD4,by decide +kernel,by omega,fun t ht => Nat.le_trans (tz t ht) (by decide),_,_,rfl,rfl,szA (by rw [lenA,lenA]; omega),D,_,_,rfl,rfl,hD5,small1000 (by rw [List.length_map]; omega),?_⟩
   refine ⟨ls ++ [("recipe " : Str) ++ rc.1 ++ (": " : Str) ++ jn "; " ts],_,_,_,_,_,rfl,same_own (s3.trans s4) hD,?_,?_⟩
   ·rw [upd_same,List.map_append]
    rfl
   ·rw [List.map_append,el,List.take_add_one,hrc,List.map_append,List.append_assoc]
    simp only [List.map_cons,List.map_nil,cps_append',Option.toList,cps_jn,et]
    rfl
  ·intro σ H3 hh
   obtain ⟨ls,v2,v3,v4,v5,v6,rfl,s3,hD3,el⟩ := hh
   rw [l2.len,List.take_of_length_le (Nat.le_refl _)] at el
   exact ⟨_,rfl,k D ls H3 s3 hD3 el⟩
end
end K11
namespace K11
open PySem PySem.Spec PyProof.Rows L2 GM TM BQ
inductive Pl : Dt -> Prop
 | i (n : Int) : Pl (.i n)
 | s (x : Str) : Pl (.s x)
 | t {l : List Dt} : (∀ d ∈ l,Pl d) -> Pl (.t l)
def spSame (K : PySem.W.Frag) (n : Nat) : Sp := fun vs H Q _ => ∃ (x y : V) (d : Dt) (m : Nat),n = m + 1 /\ vs = [x,y] /\ Dv K H m x d /\ Dv K H m y d /\ Pl d /\ ∀ H',Same H H' -> Q (.bl true) H'
theorem Run.pre : ∀ {ls b},Run ls b -> ∀ pre l post,ls = pre ++ l :: post -> ∃ b0 b1,Run pre b0 /\ Step b0 l b1 := by
 intro ls b h
 induction h with
 | nil => intro pre l post e; cases pre <;> simp at e
 | @snoc ls l0 b b' hr hs ih =>
  intro pre l post e
  rcases List.eq_nil_or_concat post with rfl | ⟨post',x,rfl⟩
  ·have := List.append_inj' e rfl
   obtain ⟨rfl,e2⟩ := this
   cases e2
   exact ⟨b,b',hr,hs⟩
  ·rw [List.concat_eq_append,<- List.cons_append,<- List.append_assoc] at e
   obtain ⟨rfl,_⟩ := List.append_inj' e rfl
   exact ih pre l post' rfl
theorem NameR.det {x a b : Str} (h : NameR x a) (k : NameR x b) : a = b := by rw [h.2,k.2]
theorem NumR.det {x : Str} {a b : Int} (h : NumR x a) (k : NumR x b) : a = b := by rw [h.2.1,k.2.1]
theorem AmR.det {x : Str} {a b : BQ.Q} (h : AmR x a) (k : AmR x b) : a = b := by
 obtain ⟨t,u,r,rfl,_⟩ := h
 obtain ⟨t',u',r',rfl,_⟩ := k
 obtain ⟨rfl,rfl⟩ := reads_unique r r'
 rfl
theorem ShareR.det {x : Str} {a b : Int × Str} (h : ShareR x a) (k : ShareR x b) : a = b := by
 obtain ⟨p,q,e,h1,h2⟩ := h
 obtain ⟨p',q',e',k1,k2⟩ := k
 rw [e] at e'
 cases e'
 exact Prod.ext (h1.det k1) (h2.det k2)
theorem PairR.det {x : Str} {a b : Str × Str} (h : PairR x a) (k : PairR x b) : a = b := by
 obtain ⟨p,q,e,h1,h2⟩ := h
 obtain ⟨p',q',e',k1,k2⟩ := k
 rw [e] at e'
 cases e'
 exact Prod.ext (h1.det k1) (h2.det k2)
theorem L3.det {α : Type} {R : Str -> α -> Prop} (dt : ∀ x a b,R x a -> R x b -> a = b) {xs : List Str} {as bs : List α} (h : L3 R xs as) (k : L3 R xs bs) : as = bs := by
 refine List.ext_getElem? fun i => ?_
 have l1 := h.len
 have l2 := k.len
 by_cases hi : i < xs.length
 ·obtain ⟨a,ha⟩ : ∃ a,as[i]? = some a := ⟨_,List.getElem?_eq_getElem (by omega)⟩
  obtain ⟨b,hb⟩ : ∃ b,bs[i]? = some b := ⟨_,List.getElem?_eq_getElem (by omega)⟩
  rw [ha,hb,dt _ _ _ (h.at' i _ a (List.getElem?_eq_getElem hi) ha) (k.at' i _ b (List.getElem?_eq_getElem hi) hb)]
 ·rw [List.getElem?_eq_none (by omega),List.getElem?_eq_none (by omega)]
theorem PartsR.det {x : Str} {a b : Rw} (h : PartsR x a) (k : PartsR x b) : a = b := by
 obtain ⟨p,q,rfl,h1,h2,_⟩ := h
 obtain ⟨p',q',rfl,k1,k2,_⟩ := k
 rw [h1.det k1,L3.det (R := ShareR) (fun _ _ _ a b => ShareR.det a b) h2 k2]
theorem RowR.det {x : Str} {a b : Rw} (h : RowR x a) (k : RowR x b) : a = b := by
 cases h with
 | parts h1 h2 =>
  cases k with
  | parts k1 k2 => exact h2.det k2
  | take k1 _ _ _ => rw [h1] at k1; cases k1
  | fill k1 _ _ _ => rw [h1] at k1; cases k1
  | to k1 _ _ _ => rw [h1] at k1; cases k1
 | take h1 h2 h3 h4 =>
  cases k with
  | parts k1 k2 => rw [h1] at k1; cases k1
  | take k1 k2 k3 k4 => rw [h2] at k2; cases k2; rw [h3.det k3,h4.det k4]
  | fill k1 k2 _ _ => rw [h2] at k2; cases k2
  | to k1 k2 _ _ => rw [h2] at k2; cases k2
 | fill h1 h2 h3 h4 =>
  cases k with
  | parts k1 k2 => rw [h1] at k1; cases k1
  | take k1 k2 _ _ => rw [h2] at k2; cases k2
  | fill k1 k2 k3 k4 => rw [h2] at k2; cases k2; rw [h3.det k3,h4.det k4]
  | to k1 k2 _ _ => rw [h2] at k2; cases k2
 | to h1 h2 h3 h4 =>
  cases k with
  | parts k1 k2 => rw [h1] at k1; cases k1
  | take k1 k2 _ _ => rw [h2] at k2; cases k2
  | fill k1 k2 _ _ => rw [h2] at k2; cases k2
  | to k1 k2 k3 k4 => rw [h2] at k2; cases k2; rw [h3.det k3,h4.det k4]
theorem RecR.det {x : Str} {a b : Str × List Rw} (h : RecR x a) (k : RecR x b) : a = b := Prod.ext (h.1.det k.1) (L3.det (R := RowR) (fun _ _ _ a b => RowR.det a b) h.2.1 k.2.1)
theorem EnR.det {n : Nat} {x : Str} {a b : En} (h : EnR n x a) (k : EnR n x b) : a = b := by
 rcases h with ⟨rfl,u,rfl,h⟩ | ⟨rfl,u,rfl,h⟩ | ⟨rfl,u,rfl,h⟩ <;> rcases k with ⟨z,v,rfl,k⟩ | ⟨z,v,rfl,k⟩ | ⟨z,v,rfl,k⟩ <;> (try cases z)
 ·rw [h.det k]
 ·rw [h.det k]
 ·rw [h.det k]
theorem Step.det {b b1 b2 : Bs} {l : Str} (h : Step b l b1) (k : Step b l b2) : b1 = b2 := by
 obtain ⟨n,e,h1,_,_,_,h2,rfl⟩ := h
 obtain ⟨n',e',k1,_,_,_,k2,rfl⟩ := k
 rw [h1] at k1
 cases k1
 rw [h2.det k2]
theorem Run.det {ls : List Str} {b1 : Bs} (h : Run ls b1) : ∀ {b2},Run ls b2 -> b1 = b2 := by
 induction h with
 | nil =>
  intro b2 k
  generalize e : ([] : List Str) = ls at k
  cases k with
  | nil => rfl
  | snoc _ _ => simp at e
 | @snoc ls l b b' hr hs ih =>
  intro b2 k
  generalize e : ls ++ [l] = ls' at k
  cases k with
  | nil => simp at e
  | @snoc ls2 l2 c c' kr ks =>
   obtain ⟨rfl,e2⟩ := List.append_inj' e rfl
   cases e2
   have := ih kr
   subst this
   exact hs.det ks
section
variable {P : Program} {w : World} {K : PySem.W.Frag} {mg : Str -> Option Value} {base : Heap} {cP c0 fI : Addr}
theorem no_same {k : Nat} {f : Addr} {fd : FuncData} : FnOk P w K mg base CX0 k f fd ["_law_found","_law_due"] (spSame K 0) := ⟨fun vs H Q E ⟨_,_,_,_,h,_⟩ => by omega,fun A outer s H args us vs Q E _ _ _ _ ⟨_,_,_,_,h,_⟩ => by omega⟩
theorem bt_list : bootBuiltins "list" = some (.type "list") := by decide +kernel
theorem scSame : FnScope ["_law_found","_law_due","_law_one","_law_other"] ["_law_found","_law_due"] (defScope sSame) := ⟨rfl,rfl,rfl,by decide +kernel,rfl,by decide +kernel,by decide +kernel⟩
theorem ok_same {k n : Nat} {f : Addr} {fd : FuncData} (F : Fun K "_law_same" "_law_same" sSame f fd) (T : Txt mg) (cW : Cal P w K mg base CX0 k "_law_whole" ["_law_found"] spWhole) (cS : Cal P w K mg base CX0 k "_law_same" ["_law_found","_law_due"] (spSame K n)) : FnOk P w K mg base CX0 (k + 1) f fd ["_law_found","_law_due"] (spSame K (n + 1)) := by
 refine F.ok scSame (fun vs H Q E h => ?_) (fun cdv A outer s H vs Q E hr h => ?_)
 ·obtain ⟨_,_,_,_,_,rfl,_⟩ := h
  rfl
 ·obtain ⟨x,y,d,m,em,rfl,dx,dy,pl,kk⟩ := h
  have em' : m = n := by omega
  subst em'
  refine ⟨_,(pss_cons (ps_if (pt_val (pe_callB call_isi rfl T.isi boot_isinstance (pa_cons (pv 1) (pa_cons (pe_bltn (v := .ty "str") rfl T.str' bt_str rfl) pa_nil))))
    (pss_one (ps_ret (pe_and (pe_callB call_isi rfl T.isi boot_isinstance (pa_cons (pv 0) (pa_cons (pe_bltn (v := .ty "str") rfl T.str' bt_str rfl) pa_nil))) (pe_one (pe_cmpR op_eq (pv 0) (pv 1) (nomark _))))))
    pss_nil)
   (pss_cons (ps_if (pt_val (pe_callB call_isi rfl T.isi boot_isinstance (pa_cons (pv 1) (pa_cons (pe_bltn (v := .ty "int") rfl T.int' bt_int rfl) pa_nil))))
    (pss_one (ps_ret (pe_and (pe_cal cW hr rfl pass0 (pa_cons (pv 0) pa_nil)) (pe_one (pe_cmpR op_eq (pv 0) (pv 1) (nomark _))))))
    pss_nil)
   (pss_cons (ps_if (pt_cmpR op_ne (pe_callB call_isi rfl T.isi boot_isinstance (pa_cons (pv 1) (pa_cons (pe_bltn (v := .ty "tuple") rfl T.tup' bt_tuple rfl) pa_nil))) (pe_callB call_isi rfl T.isi boot_isinstance (pa_cons (pv 0) (pa_cons (pe_bltn (v := .ty "tuple") rfl T.tup' bt_tuple rfl) pa_nil))) (nomark _))
    (pss_one (ps_ret pe_bl))
    pss_nil)
   (pss_cons (ps_if (PW.pt (pw_or (pt_cmpR op_ne (pe_callB call_isi rfl T.isi boot_isinstance (pa_cons (pv 1) (pa_cons (pe_bltn (v := .ty "list") rfl T.list' bt_list rfl) pa_nil))) (pe_callB call_isi rfl T.isi boot_isinstance (pa_cons (pv 0) (pa_cons (pe_bltn (v := .ty "list") rfl T.list' bt_list rfl) pa_nil))) (nomark _)) (pw_or1 (pt_cmpR op_ne (pe_callB call_len_seq rfl T.len PySem.boot_len (pa_cons (pv 0) pa_nil)) (pe_callB call_len_seq rfl T.len PySem.boot_len (pa_cons (pv 1) pa_nil)) (nomark _)))))
    (pss_one (ps_ret pe_bl))
    pss_nil)
   (pss_cons (ps_for PassesOwn.never rfl (pi_zip2 rfl T.zip' (pa_cons (pv 0) (pa_cons (pv 1) pa_nil))) (pg_tup rfl (pgs_cons (pg_name (i := 2) scSame.nd rfl (Or.inl rfl)) (pgs_cons (pg_name (i := 3) scSame.nd rfl (Or.inl rfl)) pgs_nil)))
    (pss_one (ps_if (pt_not (pt_val (pe_cal cS hr rfl pass0 (pa_cons (pv 2) (pa_cons (pv 3) pa_nil)))))
    (pss_one (ps_ret pe_bl))
    pss_nil)))
   (pss_one (ps_ret pe_bl))))))),?_⟩
  cases pl with
  | i n =>
   cases dx
   cases dy
   refine ⟨_,rfl,_,"str",false,rfl,.int_str,_,rfl,iteF ⟨_,rfl,_,"int",true,rfl,.int_int,_,rfl,iteT ⟨_,rfl,n,rfl,_,rfl,iteT ⟨_,rfl,_,rfl,rfl,?_⟩⟩⟩⟩
   rw [show decide (V.int n = V.int n) = true from decide_eq_true rfl]
   exact kk _ (Same.refl _)
  | s z =>
   cases dx
   cases dy
   refine ⟨_,rfl,_,"str",true,rfl,.str_str,_,rfl,iteT ⟨_,rfl,_,"str",true,rfl,.str_str,_,rfl,iteT ⟨_,rfl,_,rfl,rfl,?_⟩⟩⟩
   rw [show decide (V.str z = V.str z) = true from decide_eq_true rfl]
   exact kk _ (Same.refl _)
  | @t l pl =>
   cases dx with
   | @t n a xs _ ha la hxs =>
    cases dy with
    | @t _ b ys _ hb lb hys =>
     refine ⟨_,rfl,_,"str",false,rfl,.tup_str hb.sq,_,rfl,iteF ⟨_,rfl,_,"int",false,rfl,.tup_int hb.sq,_,rfl,iteF ⟨_,rfl,_,"tuple",true,rfl,.tup_tuple hb.sq,_,rfl,_,"tuple",true,rfl,.tup_tuple ha.sq,rfl,_,rfl,iteF ?_⟩⟩⟩
     refine ⟨_,rfl,_,"list",false,rfl,.tup_list hb.sq,_,rfl,_,"list",false,rfl,.tup_list ha.sq,rfl,_,rfl,iteF ⟨_,rfl,a,xs,rfl,.inr ha.sq,_,rfl,b,ys,rfl,.inr hb.sq,rfl,_,rfl,?_⟩⟩
     have exy : xs.length = ys.length := by omega
     rw [show (!decide (V.int (xs.length : Int) = V.int (ys.length : Int))) = false from by rw [exy,decide_eq_true rfl]; rfl]
     refine iteF ⟨_,rfl,_,rfl,a,b,rfl,⟨xs,ha.sq⟩,⟨ys,hb.sq⟩,?_⟩
     refine for_zip2 (xs := xs) (ys := ys) (fun i σ H' => ∃ v2 v3,σ = [some (.ref a),some (.ref b),v2,v3] /\ Same H H') ⟨none,none,rfl,Same.refl _⟩ (fun i σ H' _ hh => by obtain ⟨_,_,_,s'⟩ := hh; exact ⟨((s_tk s').sqz ha).sq,((s_tk s').sqz hb).sq⟩) exy ?_ (fun σ H' hh => by obtain ⟨_,_,rfl,s'⟩ := hh; exact kk _ s')
     intro i u v T' σ H2 hu hv hT hh
     obtain ⟨v2,v3,rfl,s2⟩ := hh
     have s3 := s2.trans (Same.upd (o := .tup [u,v]) hT)
     refine ⟨T',_,rfl,SqT.of upd_same,rfl,_,_,rfl,_,_,rfl,rfl,?_⟩
     have il : i < l.length := by have := (List.getElem?_eq_some_iff.mp hu).1; omega
     have hd : l[i]? = some l[i] := List.getElem?_eq_getElem il
     refine ⟨_,rfl,_,rfl,u,v,l[i],n,rfl,rfl,(hxs i u _ hu hd).keep (s_tk s3),(hys i v _ hv hd).keep (s_tk s3),pl _ (List.getElem_mem il),fun H' s' => ⟨_,rfl,iteF ⟨_,_,rfl,s3.trans s'⟩⟩⟩
end
end K11
namespace K11
open PySem PySem.Spec PyProof.Rows L2 GM TM BQ
def mkS (l : List Nat) : Str := ⟨l.toArray⟩
theorem cps_mk (l : List Nat) : cps (mkS l) = l := by simp [mkS,cps]
theorem BLc : cps BL = [32] := by decide +kernel
theorem CSc : cps CS = [58,32] := by decide +kernel
theorem CMc : cps CM = [44,32] := by decide +kernel
theorem SCc : cps SC = [59,32] := by decide +kernel
theorem NLc : cps NL = [10] := by decide +kernel
theorem PTc : cps PTS = [112,97,114,116,115,32] := by decide +kernel
theorem kBL : PySem.Builtin.Str.strKind BL = 1 := by decide +kernel
theorem kCM : PySem.Builtin.Str.strKind CM = 1 := by decide +kernel
theorem kSC : PySem.Builtin.Str.strKind SC = 1 := by decide +kernel
theorem kNL : PySem.Builtin.Str.strKind NL = 1 := by decide +kernel
theorem Wr.no {x : Str} (h : Wr x) {c : Nat} (hc : c < 97) : c ∉ cps x := fun z => by
 have := h.lt c z
 omega
theorem dg_no {n c : Nat} (h : c < 48 \/ 57 < c) : c ∉ dg n := fun z => by
 have := (dg_shape n).1 c z
 omega
theorem am_no {a : BQ.Q} {c : Nat} (h : c < 47 \/ 57 < c) : c ∉ amT a := by
 unfold amT showL
 split
 ·exact dg_no (by omega)
 ·intro z
  rcases List.mem_append.mp z with z | z
  ·exact dg_no (by omega) z
  ·rcases List.mem_cons.mp z with z | z
   ·omega
   ·exact dg_no (by omega) z
theorem dg_head (n : Nat) : ∃ c r,dg n = c :: r /\ 48 <= c /\ c <= 57 := by
 have h := dg_shape n
 cases e : dg n with
 | nil => exact absurd e h.2.1
 | cons c r => exact ⟨c,r,rfl,h.1 c (by rw [e]; simp)⟩
theorem not_parts {x : Str} {c : Nat} {r : List Nat} (e : cps x = c :: r) (h : c ≠ 112) : Txt.startswith x PTS = false := by
 rw [ST.starts_iff]
 refine decide_eq_false fun z => ?_
 rw [PTc,e] at z
 obtain ⟨t,ht⟩ := z
 simp only [List.cons_append,List.cons.injEq] at ht
 exact h ht.1.symm
def AmG (a : BQ.Q) : Prop := ∃ t b : Nat,a = ((t : Int),(b : Int)) /\ 1 <= t /\ 1 <= b /\ Nat.gcd t b = 1 /\ t < 10000000000 /\ b < 10000000000
theorem AmG.reads {a : BQ.Q} (h : AmG a) : ∃ t b : Nat,a = ((t : Int),(b : Int)) /\ Reads (amT a) t b /\ 1 <= t := by
 obtain ⟨t,b,rfl,h1,h2,g,l1,l2⟩ := h
 exact ⟨t,b,rfl,show_reads (Nat.lt_trans l1 (by decide +kernel)) (Nat.lt_trans l2 (by decide +kernel)) h2 g,h1⟩
theorem AmG.n {a : BQ.Q} (h : AmG a) : AmN a := by
 obtain ⟨t,b,rfl,h1,h2,g,l1,l2⟩ := h
 exact ⟨by show (0 : Int) <= (t : Int); omega,by show (t : Int) < _; omega,by show (0 : Int) <= (b : Int); omega,by show (b : Int) < _; omega⟩
theorem AmG.am {a : BQ.Q} (h : AmG a) (h1 : a.1 <= 999999999) (h2 : a.2 <= 999999999) {x : Str} (e : cps x = amT a) : AmR x a := by
 obtain ⟨t,b,rfl,r,t1⟩ := h.reads
 exact ⟨t,b,by rw [e]; exact r,rfl,t1,by have : (t : Int) <= 999999999 := h1; omega,by have : (b : Int) <= 999999999 := h2; omega⟩
theorem fill_words {x : Str} {u v b d : Str} (e : cps x = cps u ++ cps BL ++ (cps b ++ cps BL ++ (cps v ++ cps BL ++ cps d))) (hu : 32 ∉ cps u) (hb : 32 ∉ cps b) (hv : 32 ∉ cps v) (hd : 32 ∉ cps d) : Txt.split x BL = [u,b,v,d] := by
 refine ST.split_parts BLc kBL (by simp) (fun p hp => ?_) (by rw [e]; rfl)
 simp only [List.mem_cons,List.not_mem_nil,or_false] at hp
 rcases hp with rfl | rfl | rfl | rfl <;> assumption
theorem take_words {x : Str} {a : BQ.Q} {d : Str} (hd : Wr d) (e : cps x = rowT (.take a d)) : Txt.startswith x PTS = false /\ Txt.split x BL = [("take" : Str),mkS (amT a),("of" : Str),d] := by
 refine ⟨not_parts (c := 116) (r := (rowT (.take a d)).drop 1) (by rw [e]; rfl) (by decide),fill_words ?_ (by decide +kernel) (by rw [cps_mk]; exact am_no (by omega)) (by decide +kernel) (hd.no (by decide))⟩
 rw [e,cps_mk,BLc]
 show cps ("take " : Str) ++ amT a ++ cps (" of " : Str) ++ cps d = _
 rw [show cps ("take " : Str) = cps ("take" : Str) ++ [32] by decide +kernel,show cps (" of " : Str) = [32] ++ cps ("of" : Str) ++ [32] by decide +kernel]
 simp
theorem fill_words' {x : Str} {a : BQ.Q} {d : Str} (hd : Wr d) (e : cps x = rowT (.fill a d)) : Txt.startswith x PTS = false /\ Txt.split x BL = [("fill" : Str),mkS (amT a),("with" : Str),d] := by
 refine ⟨not_parts (c := 102) (r := (rowT (.fill a d)).drop 1) (by rw [e]; rfl) (by decide),fill_words ?_ (by decide +kernel) (by rw [cps_mk]; exact am_no (by omega)) (by decide +kernel) (hd.no (by decide))⟩
 rw [e,cps_mk,BLc]
 show cps ("fill " : Str) ++ amT a ++ cps (" with " : Str) ++ cps d = _
 rw [show cps ("fill " : Str) = cps ("fill" : Str) ++ [32] by decide +kernel,show cps (" with " : Str) = [32] ++ cps ("with" : Str) ++ [32] by decide +kernel]
 simp
theorem to_words {x : Str} {n : Int} {d : Str} (hd : Wr d) (e : cps x = rowT (.to n d)) : Txt.startswith x PTS = false /\ Txt.split x BL = [mkS (dg n.toNat),("to" : Str),("one" : Str),("of" : Str),d] := by
 obtain ⟨c,r,ec,c1,c2⟩ := dg_head n.toNat
 have e' : cps x = dg n.toNat ++ cps (" to one of " : Str) ++ cps d := e
 refine ⟨not_parts (c := c) (r := r ++ cps (" to one of " : Str) ++ cps d) (by rw [e',ec]; simp) (by omega),ST.split_parts BLc kBL (by simp) (fun p hp => ?_) ?_⟩
 ·simp only [List.mem_cons,List.not_mem_nil,or_false] at hp
  rcases hp with rfl | rfl | rfl | rfl | rfl
  ·rw [cps_mk]; exact dg_no (by omega)
  ·decide +kernel
  ·decide +kernel
  ·decide +kernel
  ·exact hd.no (by decide)
 ·rw [e']
  show _ = cps (mkS (dg n.toNat)) ++ cps BL ++ (cps ("to" : Str) ++ cps BL ++ (cps ("one" : Str) ++ cps BL ++ (cps ("of" : Str) ++ cps BL ++ cps d)))
  rw [cps_mk,BLc,show cps (" to one of " : Str) = [32] ++ cps ("to" : Str) ++ [32] ++ cps ("one" : Str) ++ [32] ++ cps ("of" : Str) ++ [32] by decide +kernel]
  simp
theorem share_words {p : Int × Str} (hd : Wr p.2) {x : Str} (e : cps x = shT p) : Txt.split x BL = [mkS (dg p.1.toNat),p.2] := by
 refine ST.split_parts BLc kBL (by simp) (fun q hq => ?_) ?_
 ·simp only [List.mem_cons,List.not_mem_nil,or_false] at hq
  rcases hq with rfl | rfl
  ·rw [cps_mk]; exact dg_no (by omega)
  ·exact hd.no (by decide)
 ·rw [e]
  show _ = cps (mkS (dg p.1.toNat)) ++ cps BL ++ cps p.2
  rw [cps_mk,BLc]
  show dg p.1.toNat ++ 32 :: cps p.2 = _
  simp
theorem num_read {n : Int} (h1 : 1 <= n) (h2 : n <= 1000) : NumR (mkS (dg n.toNat)) n := by
 refine ⟨by rw [cps_mk]; exact fig_dg (Nat.lt_trans (show n.toNat < 1001 by omega) (by decide +kernel)),?_,h1,h2⟩
 rw [cps_mk,dg_val]
 omega
theorem jl_parts {x : Str} {Y : Str} {c : Nat} {r : List Nat} (hY : cps Y = c :: r) (hk : PySem.Builtin.Str.strKind Y = 1) {α : Type} {f : α -> List Nat} {ps : List α} (hp : ps ≠ []) (hc : ∀ p ∈ ps,c ∉ f p) (e : cps x = ST.jl (cps Y) (ps.map f)) : Txt.split x Y = ps.map fun p => mkS (f p) := by
 refine ST.split_parts hY hk (by simpa using hp) (fun q hq => ?_) ?_
 ·obtain ⟨p,h,rfl⟩ := List.mem_map.mp hq
  rw [cps_mk]
  exact hc p h
 ·rw [e,List.map_map]
  congr 1
theorem parts_words {x : Str} {a : BQ.Q} {ps : List (Int × Str)} (hp : ps ≠ []) (hw : ∀ p ∈ ps,Wr p.2) (e : cps x = rowT (.parts a ps)) : Txt.startswith x PTS = true /\ (Txt.partition (Txt.partition x BL).2.2 CS).1 = mkS (amT a) /\ Txt.split (Txt.partition (Txt.partition x BL).2.2 CS).2.2 CM = ps.map fun p => mkS (shT p) := by
 have e' : cps x = cps ("parts " : Str) ++ amT a ++ cps (": " : Str) ++ ST.jl (cps (", " : Str)) (ps.map shT) := e
 have p1 : Txt.partition x BL = (("parts" : Str),BL,mkS (amT a ++ cps (": " : Str) ++ ST.jl (cps (", " : Str)) (ps.map shT))) := by
  refine ST.part_at BLc (by decide +kernel) ?_
  rw [cps_mk,e',BLc,show cps ("parts " : Str) = cps ("parts" : Str) ++ [32] by decide +kernel]
  simp
 have p2 : Txt.partition (mkS (amT a ++ cps (": " : Str) ++ ST.jl (cps (", " : Str)) (ps.map shT))) CS = (mkS (amT a),CS,mkS (ST.jl (cps (", " : Str)) (ps.map shT))) := by
  refine ST.part_at CSc (by rw [cps_mk]; exact am_no (by omega)) ?_
  rw [cps_mk,cps_mk,cps_mk]
  rfl
 refine ⟨?_,?_,?_⟩
 ·rw [ST.starts_iff]
  refine decide_eq_true ?_
  rw [e',List.append_assoc,List.append_assoc]
  exact ⟨_,rfl⟩
 ·rw [p1]
  show (Txt.partition (mkS _) CS).1 = _
  rw [p2]
 ·rw [p1]
  show Txt.split (Txt.partition (mkS _) CS).2.2 CM = _
  rw [p2]
  refine jl_parts CMc kCM hp (fun p h z => ?_) (by rw [cps_mk]; rfl)
  unfold shT at z
  rcases List.mem_append.mp z with z | z
  ·exact dg_no (by omega) z
  ·rcases List.mem_cons.mp z with z | z
   ·omega
   ·exact (hw p h).no (by decide) z
inductive RwG : Rw -> Prop
 | take {a x} : AmG a -> Wr x -> RwG (.take a x)
 | fill {a x} : AmG a -> Wr x -> RwG (.fill a x)
 | to {n x} : 1 <= n -> n < 10000000000 -> Wr x -> RwG (.to n x)
 | parts {a ps} : AmG a -> ps ≠ [] -> ps.length <= 10 -> (∀ p ∈ ps,Wr p.2 /\ 1 <= p.1 /\ p.1 <= 1000) -> RwG (.parts a ps)
inductive Fit : Rw -> Prop
 | take {a x} : a.1 <= 999999999 -> a.2 <= 999999999 -> Fit (.take a x)
 | fill {a x} : a.1 <= 999999999 -> a.2 <= 999999999 -> Fit (.fill a x)
 | to {n x} : n <= 1000 -> Fit (.to n x)
 | parts {a ps} : a.1 <= 999999999 -> a.2 <= 999999999 -> ps.length <= 4 -> Fit (.parts a ps)
theorem RwG.b {r : Rw} (h : RwG r) : RwB r := by
 have w8 : ∀ {x : Str},Wr x -> (cps x).length <= 8 := fun h => by rw [<- lenC]; exact h.l8
 cases h with
 | take a x => exact ⟨a.n,w8 x⟩
 | fill a x => exact ⟨a.n,w8 x⟩
 | to h1 h2 x => exact ⟨by omega,h2,w8 x⟩
 | parts a h1 h2 h3 => exact ⟨a.n,h2,fun p hp => by obtain ⟨a,b,c⟩ := h3 p hp; exact ⟨by omega,by omega,w8 a⟩⟩
theorem row_fit {r : Rw} (g : RwG r) (f : Fit r) : RowR (mkS (rowT r)) r := by
 cases g with
 | take a x =>
  cases f with
  | take f1 f2 =>
   obtain ⟨h1,h2⟩ := take_words x (cps_mk _)
   exact .take h1 h2 (a.am f1 f2 (cps_mk _)) ⟨x,rfl⟩
 | fill a x =>
  cases f with
  | fill f1 f2 =>
   obtain ⟨h1,h2⟩ := fill_words' x (cps_mk _)
   exact .fill h1 h2 (a.am f1 f2 (cps_mk _)) ⟨x,rfl⟩
 | to h1 h2 x =>
  cases f with
  | to f1 =>
   obtain ⟨k1,k2⟩ := to_words x (cps_mk _)
   exact .to k1 k2 (num_read h1 f1) ⟨x,rfl⟩
 | @parts a ps am h1 h2 h3 =>
  cases f with
  | parts f1 f2 f3 =>
   obtain ⟨k1,k2,k3⟩ := parts_words h1 (fun p hp => (h3 p hp).1) (cps_mk (rowT (.parts a ps)))
   refine .parts k1 ⟨a,ps,rfl,by rw [k2]; exact am.am f1 f2 (cps_mk _),?_,f3⟩
   rw [k3]
   refine ⟨by simp,fun i x y hx hy => ?_⟩
   rw [List.getElem?_map,hy] at hx
   cases hx
   obtain ⟨w1,w2,w3⟩ := h3 y (List.mem_of_getElem? hy)
   exact ⟨_,_,share_words w1 (cps_mk _),num_read w2 w3,⟨w1,rfl⟩⟩
theorem row_no {r : Rw} (g : RwG r) : 59 ∉ rowT r := by
 have sep : ∀ {u v : List Nat},59 ∉ u -> 59 ∉ v -> 59 ∉ u ++ v := fun h k z => (List.mem_append.mp z).elim h k
 cases g with
 | take a x => exact sep (sep (sep (by decide +kernel) (am_no (by omega))) (by decide +kernel)) (x.no (by decide))
 | fill a x => exact sep (sep (sep (by decide +kernel) (am_no (by omega))) (by decide +kernel)) (x.no (by decide))
 | to _ _ x => exact sep (sep (dg_no (by omega)) (by decide +kernel)) (x.no (by decide))
 | @parts a ps am g1 g2 g3 =>
  refine sep (sep (sep (by decide +kernel) (am_no (by omega))) (by decide +kernel)) ?_
  have key : ∀ ps : List (Int × Str),(∀ p ∈ ps,Wr p.2) -> 59 ∉ ST.jl (cps (", " : Str)) (ps.map shT) := by
   intro ps
   induction ps with
   | nil => intro _; simp [ST.jl]
   | cons p r ih =>
    intro h
    have hp : 59 ∉ shT p := sep (dg_no (by omega)) (fun z => by
     rcases List.mem_cons.mp z with z | z
     ·omega
     ·exact (h p (by simp)).no (by decide) z)
    cases r with
    | nil => exact hp
    | cons q r => exact sep (sep hp (by decide +kernel)) (ih fun x hx => h x (List.mem_cons_of_mem _ hx))
  exact key ps fun p hp => (g3 p hp).1
theorem rec_cut {l : Str} {p : Str × List Rw} (e : cps l = recT p) (hw : Wr p.1) (hn : p.2 ≠ []) (hg : ∀ r ∈ p.2,RwG r) : (Txt.partition l BL).1 = "recipe" /\ (Txt.partition (Txt.partition l BL).2.2 CS).1 = p.1 /\ Txt.split (Txt.partition (Txt.partition l BL).2.2 CS).2.2 SC = p.2.map fun r => mkS (rowT r) := by
 have e' : cps l = cps ("recipe " : Str) ++ cps p.1 ++ cps (": " : Str) ++ ST.jl (cps ("; " : Str)) (p.2.map rowT) := e
 have p1 : Txt.partition l BL = (("recipe" : Str),BL,mkS (cps p.1 ++ cps (": " : Str) ++ ST.jl (cps ("; " : Str)) (p.2.map rowT))) := by
  refine ST.part_at BLc (by decide +kernel) ?_
  rw [cps_mk,e',BLc,show cps ("recipe " : Str) = cps ("recipe" : Str) ++ [32] by decide +kernel]
  simp
 have p2 : Txt.partition (mkS (cps p.1 ++ cps (": " : Str) ++ ST.jl (cps ("; " : Str)) (p.2.map rowT))) CS = (p.1,CS,mkS (ST.jl (cps ("; " : Str)) (p.2.map rowT))) := by
  refine ST.part_at CSc (hw.no (by decide)) ?_
  rw [cps_mk,cps_mk]
  rfl
 refine ⟨by rw [p1],?_,?_⟩
 ·rw [p1]
  show (Txt.partition (mkS _) CS).1 = _
  rw [p2]
 ·rw [p1]
  show Txt.split (Txt.partition (mkS _) CS).2.2 SC = _
  rw [p2]
  exact jl_parts SCc kSC hn (fun r h => row_no (hg r h)) (by rw [cps_mk]; rfl)
theorem ware_cut {l x : Str} (e : cps l = waT x) : (Txt.partition l BL).1 = "ware" /\ (Txt.partition l BL).2.2 = x := by
 have p1 : Txt.partition l BL = (("ware" : Str),BL,x) := by
  refine ST.part_at BLc (by decide +kernel) ?_
  rw [e,BLc]
  show cps ("ware " : Str) ++ cps x = _
  rw [show cps ("ware " : Str) = cps ("ware" : Str) ++ [32] by decide +kernel]
 rw [p1]
 exact ⟨rfl,rfl⟩
theorem pair_cut {l : Str} {p : Str × Str} (e : cps l = apT p) (h1 : Wr p.1) (h2 : Wr p.2) : (Txt.partition l BL).1 = "apart" /\ PairR (Txt.partition l BL).2.2 p := by
 have p1 : Txt.partition l BL = (("apart" : Str),BL,mkS (cps p.1 ++ cps (" " : Str) ++ cps p.2)) := by
  refine ST.part_at BLc (by decide +kernel) ?_
  rw [cps_mk,e,BLc]
  show cps ("apart " : Str) ++ cps p.1 ++ cps (" " : Str) ++ cps p.2 = _
  rw [show cps ("apart " : Str) = cps ("apart" : Str) ++ [32] by decide +kernel]
  simp
 rw [p1]
 refine ⟨rfl,p.1,p.2,ST.split_parts BLc kBL (by simp) (fun q hq => ?_) ?_,⟨h1,rfl⟩,⟨h2,rfl⟩⟩
 ·simp only [List.mem_cons,List.not_mem_nil,or_false] at hq
  rcases hq with rfl | rfl
  ·exact h1.no (by decide)
  ·exact h2.no (by decide)
 ·rw [cps_mk]
  rfl
end K11
namespace K11
open PySem PySem.Spec PyProof.Rows L2 GM TM BQ
def waS (x : Str) : Str := mkS (waT x)
def apS (p : Str × Str) : Str := mkS (apT p)
def recS (p : Str × List Rw) : Str := mkS (recT p)
def linesS (b : Bs) : List Str := b.ws.map waS ++ b.ps.map apS ++ b.rs.map recS
theorem lines_eq {ls : List Str} {b : Bs} (e : ls.map cps = linesT b) : ls = linesS b := by
 refine ST.map_cps_inj (e.trans ?_)
 unfold linesT linesS
 simp only [List.map_append,List.map_map]
 congr 1
structure RcG (p : Str × List Rw) : Prop where
 w : Wr p.1
 n : p.2 ≠ []
 g : ∀ r ∈ p.2,RwG r
 f : ∀ r,p.2[0]? = some r -> tag r ≠ "to"
def RcF (p : Str × List Rw) : Prop := p.2.length <= 6 /\ ∀ r ∈ p.2,Fit r
theorem rec_fit {p : Str × List Rw} (g : RcG p) (f : RcF p) : (Txt.partition (recS p) BL).1 = "recipe" /\ RecR (Txt.partition (recS p) BL).2.2 p := by
 obtain ⟨h1,h2,h3⟩ := rec_cut (l := recS p) (cps_mk _) g.w g.n g.g
 refine ⟨h1,⟨by rw [h2]; exact g.w,by rw [h2]⟩,?_,f.1,g.f⟩
 rw [h3]
 refine ⟨by simp,fun i x y hx hy => ?_⟩
 rw [List.getElem?_map,hy] at hx
 cases hx
 exact row_fit (g.g y (List.mem_of_getElem? hy)) (f.2 y (List.mem_of_getElem? hy))
theorem kA : kOf "apart" = some 1 := by decide +kernel
theorem kR : kOf "recipe" = some 2 := by decide +kernel
theorem step_w {b : Bs} {x : Str} (hw : Wr x) (h1 : b.lo = 0) (h2 : b.ws.length ≠ 20) : Step b (waS x) (b.add 0 (.w x)) := by
 obtain ⟨e1,e2⟩ := ware_cut (l := waS x) (cps_mk _)
 exact ⟨0,.w x,by rw [e1]; rfl,by omega,Nat.zero_le _,h2,.inl ⟨rfl,x,rfl,by rw [e2]; exact ⟨hw,rfl⟩⟩,rfl⟩
theorem step_p {b : Bs} {p : Str × Str} (h : Wr p.1) (h' : Wr p.2) (h1 : b.lo <= 1) (h2 : b.hi = 2) (h3 : b.ps.length ≠ 30) : Step b (apS p) (b.add 1 (.p p)) := by
 obtain ⟨e1,e2⟩ := pair_cut (l := apS p) (cps_mk _) h h'
 exact ⟨1,.p p,by rw [e1]; exact kA,h1,by omega,h3,.inr (.inl ⟨rfl,p,rfl,e2⟩),rfl⟩
theorem step_r {b : Bs} {p : Str × List Rw} (g : RcG p) (f : RcF p) (h1 : b.lo <= 2) (h2 : b.hi = 2) (h3 : b.rs.length ≠ 12) : Step b (recS p) (b.add 2 (.r p)) := by
 obtain ⟨e1,e2⟩ := rec_fit g f
 exact ⟨2,.r p,by rw [e1]; exact kR,h1,by omega,h3,.inr (.inr ⟨rfl,p,rfl,e2⟩),rfl⟩
end K11
namespace BQ
open GM L2
open PySem (Str)
structure SmR (a : Q) : Prop where
 am : Am a
 t1 : 1 <= a.1
 tm : a.1 <= 999999999
 bm : a.2 <= 999999999
theorem SmR.bt {a : Q} (h : SmR a) : Bt 30 a.1 /\ Bt 30 a.2 := ⟨bt_of 30 (c := 1000000000) h.am.t0 (by have := h.tm; omega),bt_of 30 (c := 1000000000) (by have := h.am.b1; omega) (by have := h.bm; omega)⟩
def ROL (l : Q) : Rw -> Prop
 | .take a _ => SmR a
 | .parts a ps => SmR a /\ 1 <= ps.length /\ ps.length <= 4 /\ ∀ p ∈ ps,1 <= p.1 /\ p.1 <= 1000
 | .to n _ => 1 <= n /\ n <= 1000 /\ 1 <= l.1
 | .fill a _ => SmR a /\ l.1 * a.2 <= a.1 * l.2
def bhd (l : Q) : Rw -> Q
 | .take a _ => add l a
 | .parts a _ => add l a
 | .to n _ => lw (l.1 * (n + 1)) l.2
 | .fill a _ => a
inductive RsL : List Rw -> Q -> Prop
 | nil : RsL [] (0,1)
 | snoc {rs l r} : RsL rs l -> ROL l r -> RsL (rs ++ [r]) (bhd l r)
theorem add_bt {a b : Q} {n : Nat} (h : Am a) (k : Am b) (h1 : Bt n a.1) (h2 : Bt n a.2) (k1 : Bt 30 b.1) (k2 : Bt 30 b.2) : Bt (n + 40) (add a b).1 /\ Bt (n + 40) (add a b).2 := by
 have e1 : Bt (n + 30) (a.1 * b.2) := h1.mul k2
 have e2 : Bt (n + 30) (b.1 * a.2) := by have := k1.mul h2; rwa [Nat.add_comm] at this
 exact lw_bt (h.num k) (h.mul k) ((e1.add e2).mono (by omega)) ((h2.mul k2).mono (by omega))
theorem bhd_ok {l : Q} {r : Rw} {n : Nat} (h : Am l) (h1 : Bt n l.1) (h2 : Bt n l.2) (ok : ROL l r) : Am (bhd l r) /\ Bt (n + 40) (bhd l r).1 /\ Bt (n + 40) (bhd l r).2 /\ 1 <= (bhd l r).1 := by
 cases r with
 | take a x =>
  have ok' : SmR a := ok
  have b := add_bt h ok'.am h1 h2 ok'.bt.1 ok'.bt.2
  exact ⟨add_am h ok'.am,b.1,b.2,add_pos h ok'.am (.inr ok'.t1)⟩
 | parts a ps =>
  have ok' : SmR a := ok.1
  have b := add_bt h ok'.am h1 h2 ok'.bt.1 ok'.bt.2
  exact ⟨add_am h ok'.am,b.1,b.2,add_pos h ok'.am (.inr ok'.t1)⟩
 | to m x =>
  obtain ⟨m1,m2,l1⟩ := ok
  have b : Bt 10 (m + 1) := bt_of 10 (c := 1002) (by omega) (by omega)
  have p1 : 1 <= l.1 * (m + 1) := mul1 l1 (by omega)
  have := lw_bt (T := l.1 * (m + 1)) (B := l.2) (n := n + 40) (by omega) h.b1 ((h1.mul b).mono (by omega)) (h2.mono (by omega))
  exact ⟨lw_am (by omega) h.b1,this.1,this.2,lw_pos p1 h.b1⟩
 | fill a x =>
  have ok' : SmR a := ok.1
  exact ⟨ok'.am,ok'.bt.1.mono (by omega),ok'.bt.2.mono (by omega),ok'.t1⟩
theorem RsL.ok {rs : List Rw} {l : Q} (h : RsL rs l) : Am l /\ Bt (40 * rs.length + 40) l.1 /\ Bt (40 * rs.length + 40) l.2 /\ (rs = [] -> l = (0,1)) := by
 induction h with
 | nil => exact ⟨am0,(bt_of 2 (c := 2) (by decide) (by decide) : Bt 2 (0 : Int)).mono (by decide),(bt_of 2 (c := 2) (by decide) (by decide) : Bt 2 (1 : Int)).mono (by decide),fun _ => rfl⟩
 | @snoc rs l r _ ok ih =>
  obtain ⟨a,b,c,_⟩ := ih
  obtain ⟨a',b',c',_⟩ := bhd_ok a b c ok
  refine ⟨a',?_,?_,fun z => by simp at z⟩
  ·rw [List.length_append]; exact b'.mono (by simp; omega)
  ·rw [List.length_append]; exact c'.mono (by simp; omega)
theorem RsL.rows {rs : List Rw} {l : Q} (h : RsL rs l) : ∀ r ∈ rs,∃ l',ROL l' r := by
 induction h with
 | nil => exact fun r h => nomatch h
 | snoc _ ok ih =>
  intro r hr
  rcases List.mem_append.mp hr with h | h
  ·exact ih r h
  ·rw [List.mem_singleton.mp h]; exact ⟨_,ok⟩
theorem RsL.first {rs : List Rw} {l : Q} (h : RsL rs l) : ∀ r,rs[0]? = some r -> ROL (0,1) r := by
 induction h with
 | nil => intro r h; simp at h
 | @snoc rs l r' h' ok ih =>
  intro r hr
  cases rs with
  | nil =>
   have := h'.ok.2.2.2 rfl
   subst this
   simp at hr
   rw [<- hr]; exact ok
  | cons a b => exact ih r (by simpa using hr)
def thg : Rw -> List Str
 | .take _ x => [x]
 | .parts _ ps => ps.map (·.2)
 | .to _ x => [x]
 | .fill _ x => [x]
theorem add_ge {l o : Q} (hl : Am l) (ho : Am o) : l.1 * (add l o).2 <= (add l o).1 * l.2 := by
 have am := add_am hl ho
 have cr : (add l o).1 * (l.2 * o.2) = (l.1 * o.2 + o.1 * l.2) * (add l o).2 := lw_cross _ _
 have b1 := hl.b1
 have b2 := ho.b1
 have b3 := am.b1
 have o0 := ho.t0
 generalize add l o = z at *
 refine Int.le_of_mul_le_mul_right (a := l.2 * o.2) ?_ (by have := BQ.mul1 b1 b2; omega)
 have e : z.1 * l.2 * (l.2 * o.2) = z.1 * (l.2 * o.2) * l.2 := by grind
 rw [e,cr]
 have n : 0 <= o.1 * l.2 * z.2 * l.2 := Int.mul_nonneg (Int.mul_nonneg (Int.mul_nonneg o0 (by omega)) (by omega)) (by omega)
 have e2 : (l.1 * o.2 + o.1 * l.2) * z.2 * l.2 = l.1 * z.2 * (l.2 * o.2) + o.1 * l.2 * z.2 * l.2 := by grind
 omega
theorem lw_smr {T B : Int} (h0 : 1 <= T) (h1 : 1 <= B) (hT : T <= 999999999) (hB : B <= 999999999) : SmR (lw T B) := by
 have l := lw_le (T := T) (B := B) (by omega) h1
 exact ⟨lw_am (by omega) h1,lw_pos h0 h1,by have := l.1; omega,by have := l.2; omega⟩
end BQ
namespace L2
open PySem PySem.Spec PyProof.Rows
def Fz (H H' : Hp) : Prop := ∀ b o,H b = some o -> H' b = some o \/ ∃ ob kvs,o = .dK kvs /\ H' b = some (.frz ob (.dK kvs))
def Hld (d : Addr) (ob : Obj) (kvs : List (Key × V)) (H H' : Hp) : Prop := H' d = some (.frz ob (.dK kvs)) /\ (∀ b,b ≠ d -> H' b = H b) /\ (H d = some (.dK kvs) \/ H d = some (.frz ob (.dK kvs)))
section
variable {X : Cx}
def iDictR (tl : TE) : TI := fun σ H R => tl σ H fun x H1 => ∃ d kvs,x = .ref d /\ Rd H1 d (.dK kvs) /\ ∀ ob H2,Hld d ob kvs H1 H2 -> R (Itd d ob kvs) H2
def rDictD : List V -> Hp -> VK -> Prop := fun xs H Q => ∃ a kvs,xs = [.ref a] /\ Rd H a (.dK kvs) /\ ∀ p,H p = none -> Q (.ref p) (upd H p (.dK kvs))
def DDeq (K : PySem.W.Frag) (H : Hp) (ka kb : List (Key × V)) : Prop := ka.length = kb.length /\ ∀ kv ∈ ka,∃ v' d,valV kb kv.1 = some v' /\ Dv K H 30 kv.2 d /\ Dv K H 30 v' d
def rNeDD (K : PySem.W.Frag) : R2 := fun x y H Q => ∃ a b ka kb,x = .ref a /\ y = .ref b /\ Rd H a (.dK ka) /\ Rd H b (.dK kb) /\ DDeq K H ka kb /\ Q (.bl false) H
def rEqDD (K : PySem.W.Frag) : R2 := fun x y H Q => ∃ a b ka kb,x = .ref a /\ y = .ref b /\ Rd H a (.dK ka) /\ Rd H b (.dK kb) /\ DDeq K H ka kb /\ Q (.bl true) H
end
end L2
namespace L2
open PySem PySem.Spec PyProof.Rows
def EqIn (P : Program) (w : World) (A : Around) (s : Shared) (y x : Value) : Prop := ∀ (E : Value -> Shared -> Prop) (Q : Bool -> Shared -> Prop),Q true s -> wpAny (model P w) A (eqBool y x) Q E s
section
open AutoSeq1 MeetsSeq MeetsSeq2 MeetsSeq3 SeqAt
variable {P : Program} {w : World}
end
section
variable {X : Cx}
def rNeLD (K : PySem.W.Frag) : R2 := fun x y H Q => ∃ a b xs ys,x = .ref a /\ y = .ref b /\ SqL K H a xs /\ SqL K H b ys /\ xs.length = ys.length /\
 (∀ (j : Nat) x y,xs[j]? = some x -> ys[j]? = some y -> ∃ da db ka kb,x = .ref da /\ y = .ref db /\ Rd H da (.dK ka) /\ Rd H db (.dK kb) /\ DDeq K H ka kb) /\ Q (.bl false) H
end
end L2
namespace HT
open PySem PyProof.Rows
def lexLtS : List Str -> List Str -> Bool
 | [],[] => false
 | [],_ :: _ => true
 | _ :: _,[] => false
 | x :: xs,y :: ys => if x = y then lexLtS xs ys else decide (x.cps.toList < y.cps.toList)
section
open PySem.SeqAt
open PySem.AutoSeq1 (wpAny_loadPart')
open PySem.MeetsSeq PySem.MeetsSeq2 PySem.MeetsSeq3
end
section
variable {prog : Program} {w : World} {A : Around} {E : Value -> Shared -> Prop} {s : Shared}
end
end HT
namespace L2
open PySem PySem.Spec PyProof.Rows
section
variable {X : Cx}
def rLtTS (K : PySem.W.Frag) : R2 := fun x y H Q => ∃ a b ns ms,x = .ref a /\ y = .ref b /\ SqT K H a (ns.map V.str) /\ SqT K H b (ms.map V.str) /\ Q (.bl (HT.lexLtS ns ms)) H
end
end L2
namespace HT
open PySem PySem.Spec PyProof.Rows
section
variable {prog : Program} {w : World} {A : Around} {E : Value -> Shared -> Prop} {s : Shared}
theorem cat_tup0 {t b : Addr} {ws : List Value} {Q : Value -> Shared -> Prop} (ht : IsTup s.heap t #[]) (hb : IsTup s.heap b ws.toArray) (h : Q (.ref b) s) : wpAny (model prog w) A (binaryOp .Add (.ref t) (.ref b)) Q E s := by
 obtain ⟨⟨cls,dd,data,sl⟩,ho,hc,n,hd⟩ := id ht
 obtain ⟨⟨cls2,dd2,data2,sl2⟩,ho2,hc2,n2,hd2⟩ := id hb
 simp only at hc hd hc2 hd2
 subst hc hd hc2 hd2
 exact concat_meets ⟨_,ho,rfl⟩ ⟨_,ho2,rfl⟩ noFill_tuple_add seq_tuple_add PySem.F.slot_tuple_add PySem.F.entry_tuple_add (PySem.F.args_tuple_add_2 _ _)
   (tuple_addW0 t b #[] ws.toArray n n2 dd dd2 sl sl2 (by simp)) ⟨ho,ho2,h⟩
end
end HT
namespace L2
open PySem PySem.Spec PyProof.Rows
section
variable {X : Cx}
def rCatT0 (K : PySem.W.Frag) : R2 := fun x y H Q => ∃ a b ys,x = .ref a /\ y = .ref b /\ SqT K H a [] /\ SqT K H b ys /\ Q (.ref b) H
theorem op_catT0 : OpR X (binaryOp .Add) (rCatT0 X.K) := by
 intro pins s σ H x y v u Q I rx ry h
 obtain ⟨a,b,ys,rfl,rfl,ha,hb,q⟩ := h
 cases rx
 cases ry
 obtain ⟨its,r1,p1,_⟩ := I.tuple ha
 obtain ⟨its2,r2,p2,_⟩ := I.tuple hb
 cases r1
 exact HT.cat_tup0 p1 p2 ⟨.ref b,H,I,rfl,q⟩
def rCatTA (K : PySem.W.Frag) : R2 := fun x y H Q => rCatT0 K x y H Q \/ rCatT K x y H Q
theorem op_catTA : OpR X (binaryOp .Add) (rCatTA X.K) := by
 intro pins s σ H x y v u Q I rx ry h
 rcases h with h | h
 ·exact op_catT0 pins s σ H x y v u Q I rx ry h
 ·exact op_catT pins s σ H x y v u Q I rx ry h
def rRepT (K : PySem.W.Frag) : R2 := fun x y H Q => ∃ a k xs,x = .ref a /\ y = .int k /\ SqT K H a xs /\ xs ≠ [] /\ 2 <= k /\ k <= 1000 /\ xs.length <= 1000 /\ ∀ p,H p = none -> Q (.ref p) (upd H p (.tup (List.replicate k.toNat xs).flatten))
end
end L2
namespace L2
open PySem PySem.Spec PyProof.Rows
def Itr3 (lo c : Int) (n : Nat) : It := ⟨fun i _ => i < n,fun i H x H' => H' = H /\ x = .int (lo + (i : Nat) * c),fun i _ => n <= i⟩
def iRng3 (ta : TA) : TI := fun σ H R => ta σ H fun vs H1 => ∃ i j c : Int,vs = [.int i,.int j,.int c] /\ (-(2 ^ 20) <= i /\ i <= 2 ^ 20 /\ -(2 ^ 20) <= j /\ j <= 2 ^ 20 /\ 0 < c /\ c <= 2 ^ 20) /\ R (Itr3 i c (if i < j then (j - i - 1) / c + 1 else 0).toNat) H1
end L2
namespace L2
open PySem PySem.Spec PyProof.Rows
def tSortR (K : PySem.W.Frag) (te : TE) : TE := fun σ H Q => te σ H fun x H1 => ∃ (a : Addr) (ns : List Int),x = .ref a /\ SqL K H1 a (ns.map V.int) /\ ns.length < 64 /\
 ∀ (p : Addr) (ns' : List Int),ns'.Perm ns -> ns'.Pairwise (· ≥ ·) -> H1 p = none -> Q (.ref p) (upd H1 p (.lst (ns'.map V.int)))
abbrev rngObj (n : Int) (t u v : Tok) : Obj := { cls := .type "range",data := .fields #[.int 0 t,.int n u,.int 1 v] }
abbrev rngIt (n : Int) : Obj := { cls := .type "range_iterator",data := .fields #[rawInt (n - 1),rawInt n,rawInt (-1)] }
section
variable {prog : Program} {w : World} {A : Around} {E : Value -> Shared -> Prop} {s : Shared}
end
def iRev (ta : TA) : TI := fun σ H R => ta σ H fun vs H1 => ∃ n : Int,vs = [.int n] /\ 0 <= n /\ n < 2 ^ 62 /\ R (Itr3 (n - 1) (-1) n.toNat) H1
end L2
namespace TR
open PySem PySem.Spec PyProof.Rows L2 GM
theorem seq_nx {t u : TS} {D : Ends} {σ : L2.St} {H : Hp} (S : L2.St -> Hp -> Prop) (h : ∀ σ' H',S σ' H' -> u D σ' H') (g : ∀ N : L2.St -> Hp -> Prop,(∀ σ' H',S σ' H' -> N σ' H') -> t { D with nx := N } σ H) : tSeq t u D σ H := g (u D) h
def Top2 (l : List Int) (f s : Int) : Prop := ∃ r,(l ++ [0,0]).Perm (f :: s :: r) /\ s <= f /\ ∀ x ∈ r,x <= s
def Nd (ds : List Int) (d : Int) : Prop := ∃ f s,Top2 ds f s /\ d = max f (s + 1)
def av : List Int -> Int
 | [] => 0
 | c :: r => av r - c + 1
def Okc : List Int -> Prop
 | [] => True
 | c :: r => Okc r /\ 0 <= c /\ c < 64 /\ c <= av r
def Gd (p : List Int) (m l : Int) : Prop := ∀ r,Okc r -> l <= av r -> Okc (p ++ r) /\ av r - l + m <= av (p ++ r)
def Am (H : Hp) (m : Addr) (n : Nat) : Prop := ∃ t b : Int,H m = some (.tup [.int t,.int b]) /\ 0 <= t /\ 1 <= b /\ Bt (64 * n - 1) t /\ Bt (64 * n - 1) b
abbrev Pt := V × Nat × Int
def szs (cs : List Pt) : Nat := (cs.map (·.2.1)).sum
def Tr (H : Hp) : Nat -> V -> Nat -> Int -> Prop
 | 0,_,_,_ => False
 | n + 1,v,s,d =>
  (∃ (p m : Addr) (x : Str),v = .ref p /\ H p = some (.tup [.str "ware",.str x,.ref m]) /\ Am H m 1 /\ s = 1 /\ d = 0) \/
  (∃ (p m q : Addr) (x : Str) (cs : List Pt),v = .ref p /\ H p = some (.tup [.str "recipe",.str x,.ref m,.ref q]) /\ H q = some (.tup (cs.map (·.1))) /\ 1 <= cs.length /\ cs.length < 64 /\
   (∀ c ∈ cs,Tr H n c.1 c.2.1 c.2.2) /\ s = 1 + szs cs /\ Nd (cs.map (·.2.2)) d /\ Am H m s)
def Bx (a : Addr) (H H' : Hp) : Prop := ∀ b o,b ≠ a -> H b = some o -> H' b = some o
theorem Bx.tk {a : Addr} {H H' : Hp} {xs : List V} (h : Bx a H H') (ha : H a = some (.lst xs)) : Tk H H' := fun b ys e => h b _ (fun z => by rw [z,ha] at e; cases e) e
def nzc (cs : List Int) : Nat := (cs.filter fun c => c != 0).length
structure Pile (H : Hp) (cs : List Int) (j : Nat) (pl : List Pt) : Prop where
 tr : ∀ c ∈ pl,Tr H (nzc (cs.drop (cs.length - j)) + 1) c.1 c.2.1 c.2.2
 sz : szs pl = j
 ln : (pl.length : Int) = av (cs.drop (cs.length - j))
 hd : 1 <= j -> ∃ pl' q,pl = pl' ++ [q] /\ ∀ c,cs[cs.length - j]? = some c -> 1 <= c -> 1 <= q.2.2
def AtP (H : Hp) : V -> List Nat -> V -> Prop
 | v,[],u => v = u
 | v,k :: r,u => ∃ (p m q : Addr) (x : Str) (vs : List V) (c : V),v = .ref p /\ H p = some (.tup [.str "recipe",.str x,.ref m,.ref q]) /\ H q = some (.tup vs) /\ vs[k]? = some c /\ AtP H c r u
abbrev pth (ks : List Nat) : List V := ks.map fun (k : Nat) => V.int (k : Int)
def Ent (H : Hp) (root : V) (N : Nat) (e : Addr) (s : Nat) : Prop := ∃ (pa : Addr) (ks : List Nat) (v : V) (n : Nat) (d : Int),H e = some (.tup [.ref pa,v]) /\ H pa = some (.tup (pth ks)) /\ AtP H root ks v /\ Tr H n v s d /\ ks.length + n <= N
end TR
namespace L2
open PySem PySem.Spec PyProof.Rows
def Itv (K : PySem.W.Frag) (a : Addr) (n : Nat) : It :=
 ⟨fun i H => ∃ xs,SqL K H a xs /\ xs.length = n /\ i < n,fun i H x H' => H' = H /\ ∀ xs,SqL K H a xs -> xs[n - 1 - i]? = some x,fun i H => n <= i⟩
def iRevL (K : PySem.W.Frag) (ta : TA) : TI := fun σ H R => ta σ H fun vs H1 => ∃ a xs,vs = [.ref a] /\ SqL K H1 a xs /\ R (Itv K a xs.length) H1
end L2
namespace L2
open PySem PySem.Spec PyProof.Rows
end L2
namespace L2
open PySem PySem.Spec PyProof.Rows
end L2
namespace L2
open PySem PySem.Spec PyProof.Rows PySem.W
structure Cal1 (P : Program) (w : World) (K : Frag) (mg : Str -> Option Value) (base : Heap) (CX : CXT) (k : Nat) (x : Str) (ps : List Str) (sp : Sp) (dv : V) : Prop where
 ex : ∃ (f : Addr) (fd : FuncData) (u : Value),mg x = some (.ref f) /\ keepIn K (.ref f) = true /\ Binds K fd ps [u] /\ RelV dv u /\ FnOk P w K mg base CX k f fd ps sp
end L2
namespace L2
open PySem PySem.Spec PyProof.Rows
theorem for_listN {K : PySem.W.Frag} {a : Addr} {xs : List V} {g : TG} {tb : TS} {D : Ends} {σ : St} {H : Hp} (Pv : Nat -> St -> Hp -> Prop) (h0 : Pv 0 σ H) (hl : ∀ i σ H,i <= xs.length -> Pv i σ H -> SqL K H a xs)
  (hs : ∀ i x σ H (D' : Ends),(∀ σ' H',Pv (i + 1) σ' H' -> D'.nx σ' H') -> xs[i]? = some x -> Pv i σ H -> g x σ H (tb D')) (hd : ∀ σ H,Pv xs.length σ H -> D.nx σ H) :
  ∃ W : Nat -> Nat -> St -> Hp -> Prop,(∃ m,W 0 m σ H) /\ ∀ i m σ H,W i m σ H ->
   ((Itl K a).stop i H /\ D.nx σ H) \/ ((Itl K a).go i H /\ ∃ N : St -> Hp -> Prop,(∀ σ' H',N σ' H' -> ∃ m',m' < m /\ W (i + 1) m' σ' H') /\ ∀ x H',(Itl K a).yld i H x H' -> g x σ H' fun σ2 H2 => tb { D with nx := N,ct := N,bk := D.nx } σ2 H2) :=
 for_list Pv h0 hl (fun i x σ H hx p => hs i x σ H { D with nx := Pv (i + 1),ct := Pv (i + 1),bk := D.nx } (fun _ _ h => h) hx p) hd
theorem for_rangeN {lo : Int} {n : Nat} {g : TG} {tb : TS} {D : Ends} {σ : St} {H : Hp} (Pv : Nat -> St -> Hp -> Prop) (h0 : Pv 0 σ H)
  (hs : ∀ i σ H (D' : Ends),(∀ σ' H',Pv (i + 1) σ' H' -> D'.nx σ' H') -> i < n -> Pv i σ H -> g (.int (lo + i)) σ H (tb D')) (hd : ∀ σ H,Pv n σ H -> D.nx σ H) :
  ∃ W : Nat -> Nat -> St -> Hp -> Prop,(∃ m,W 0 m σ H) /\ ∀ i m σ H,W i m σ H ->
   ((Itr lo n).stop i H /\ D.nx σ H) \/ ((Itr lo n).go i H /\ ∃ N : St -> Hp -> Prop,(∀ σ' H',N σ' H' -> ∃ m',m' < m /\ W (i + 1) m' σ' H') /\ ∀ x H',(Itr lo n).yld i H x H' -> g x σ H' fun σ2 H2 => tb { D with nx := N,ct := N,bk := D.nx } σ2 H2) :=
 for_range Pv h0 (fun i σ H hi p => hs i σ H { D with nx := Pv (i + 1),ct := Pv (i + 1),bk := D.nx } (fun _ _ h => h) hi p) hd
end L2
namespace K11
open PySem PySem.Spec PyProof.Rows L2 GM TM BQ TR
theorem sm_none' {H H1 : Hp} {p : Addr} (h : Same H H1) (n : H1 p = none) : H p = none := by
 cases e : H p with
 | none => rfl
 | some o => rw [h _ _ e] at n; cases n
theorem sm_own' {H H1 : Hp} {p : Addr} {o : HO} (h : Same H H1) (n : H p = none) : Same H (upd H1 p o) := fun b u e => by
 have ne : b ≠ p := fun z => by rw [z,n] at e; cases e
 rw [upd_ne ne]
 exact h b u e
theorem sb_none {a b : Addr} {H H' : Hp} (s : SmB a H H') (h : H' b = none) (ne : b ≠ a) : H b = none := by
 cases e : H b with
 | none => rfl
 | some o => rw [s _ _ ne e] at h; cases h
theorem lf_tk {a : Addr} {H H' : Hp} (s : SmB a H H') (l : Lf H a) : Tk H H' := by
 obtain ⟨n,fl,e,_⟩ := l
 exact Bx.tk s e
theorem bt31 {x : Int} (h0 : 0 <= x) (h : x <= 1000000000) : Bt 31 x := bt_of 31 (c := 1000000001) h0 (by omega)
theorem bl9 {n : Nat} {x : Int} (h : Bt n x) (hn : n <= 9000 := by decide) : Bt 9000 x := h.mono hn
theorem b16 {m : Int} (h1 : 1 <= m) (h2 : m < 16) : Bt 9000 m := bl9 (bt_of 4 (c := 16) (by omega) h2)
theorem pick91 (k : Bool) : atI [V.int 9,V.int 1000] (if k = true then 1 else 0) = some (V.int (if k = true then 1000 else 9)) := by cases k <;> rfl
theorem pick91b (k : Bool) : 1 <= (if k = true then (1000 : Int) else 9) /\ (if k = true then (1000 : Int) else 9) <= 1000 := by cases k <;> decide
def NmV (H : Hp) (l : Addr) (ws : List Str) : Prop := H l = some (.lst (ws.map V.str)) /\ 1 <= ws.length /\ ws.length <= 30
def spLam : Sp := fun vs H Q _ => ∃ a,vs = [.ref a] /\ Lf H a /\ ∀ (q : BQ.Q) p H',SmR q -> SmB a H H' -> Lf H' a -> AmV H' p q -> Q (.ref p) H'
def spLparts : Sp := fun vs H Q _ => ∃ (a al : Addr) (ws : List Str),vs = [.ref a,.ref al] /\ Lf H a /\ NmV H al ws /\ al ≠ a /\ ∀ p q ps H',ROL (0,1) (.parts q ps) -> (∀ x ∈ ps,x.2 ∈ ws) -> SmB a H H' -> Lf H' a -> RowV H' (.ref p) (.parts q ps) -> Q (.ref p) H'
def spFilled : Sp := fun vs H Q _ => ∃ (a m : Addr) (x : Str) (l : BQ.Q),vs = [.ref a,.str x,.ref m] /\ Lf H a /\ AmV H m l /\ BQ.Am l /\ Bt 400 l.1 /\ Bt 400 l.2 /\ ∀ p r H',ROL l r -> thg r = [x] -> SmB a H H' -> Lf H' a -> RowV H' (.ref p) r -> Q (.ref p) H'
def spLrow : Sp := fun vs H Q _ => ∃ (a al m : Addr) (ws : List Str) (l : BQ.Q),vs = [.ref a,.ref al,.ref m] /\ Lf H a /\ NmV H al ws /\ al ≠ a /\ AmV H m l /\ BQ.Am l /\ Bt 400 l.1 /\ Bt 400 l.2 /\ ∀ p r H',ROL l r -> (∀ y ∈ thg r,y ∈ ws) -> SmB a H H' -> Lf H' a -> RowV H' (.ref p) r -> Q (.ref p) H'
def spBehind : Sp := fun vs H Q _ => ∃ (m : Addr) (v : V) (l : BQ.Q) (r : Rw),vs = [.ref m,v] /\ AmV H m l /\ BQ.Am l /\ Bt 400 l.1 /\ Bt 400 l.2 /\ RowV H v r /\ ROL l r /\ ∀ p H',Same H H' -> AmV H' p (bhd l r) -> Q (.ref p) H'
section
variable {P : Program} {w : World} {K : PySem.W.Frag} {mg : Str -> Option Value} {base : Heap}
theorem scLam : FnScope ["_law_left_here","_law_top"] ["_law_left_here"] (defScope sLam) := ⟨rfl,rfl,rfl,by decide +kernel,rfl,by decide +kernel,by decide +kernel⟩
theorem ok_lam {f : Addr} {fd : FuncData} (F : Fun K "_law_amount" "_law_amount" sLam f fd) (cN : Cal P w K mg base CX0 2 "_law_next" ["_law_left_here","_law_many"] spNext) (cL : Cal P w K mg base CX0 2 "_law_low" ["_law_top","_law_bottom"] spLow) : FnOk P w K mg base CX0 3 f fd ["_law_left_here"] spLam := by
 refine F.ok scLam (fun vs H Q E h => ?_) (fun cdv A outer s H vs Q E hr h => ?_)
 ·obtain ⟨_,rfl,_⟩ := h
  rfl
 ·obtain ⟨a,rfl,lf,k⟩ := h
  refine ⟨_,(pss_cons (ps_if (pt_cmpR op_eq (pe_cal cN hr rfl pass0 (pa_cons (pv 0) (pa_cons pe_int pa_nil))) pe_int (nomark _))
    (pss_cons (ps_set (i := 1) scLam.nd rfl (Or.inl rfl) (pe_op op_add pe_int (pe_cal cN hr rfl pass0 (pa_cons (pv 0) (pa_cons pe_int pa_nil)))))
   (pss_one (ps_ret (pe_cal cL hr rfl pass0 (pa_cons (pv 1) (pa_cons (pe_op op_add pe_int (pe_cal cN hr rfl pass0 (pa_cons (pv 0) (pa_cons pe_int pa_nil)))) pa_nil))))))
    pss_nil)
   (pss_cons (ps_set (i := 1) scLam.nd rfl (Or.inl rfl) (pe_op op_add pe_int (pe_cal cN hr rfl pass0 (pa_cons (pv 0) (pa_cons pe_int pa_nil)))))
   (pss_one (ps_ret (pe_cal cL hr rfl pass0 (pa_cons (pv 1) (pa_cons (pe_op op_add pe_int (pe_cal cN hr rfl pass0 (pa_cons (pv 0) (pa_cons pe_int pa_nil)))) pa_nil))))))),?_⟩
  have fin : ∀ (T B : Int) (H1 : Hp),1 <= T -> 1 <= B -> T <= 999999999 -> B <= 999999999 -> SmB a H H1 -> Lf H1 a -> spLow [.int T,.int B] H1 Q E0 := fun T B H1 T1 B1 bT bB sb lf1 => by
   refine ⟨T,B,rfl,by omega,B1,bl9 (bt31 (by omega) (by omega)),fun p H2 s2 hp => ?_⟩
   exact k (lw T B) p H2 (lw_smr T1 B1 bT bB) (sb.trans (SmB.of s2)) (lf1.keep s2) hp
  refine ⟨_,rfl,a,6,rfl,lf,by decide,b16 (by decide) (by decide),fun d H1 d0 dl s1 lf1 => ⟨rfl,_,rfl,ite2 (fun _ => ?_) (fun _ => ?_)⟩⟩
  ·refine ⟨_,rfl,a,999999999,rfl,lf1,by decide,bl9 (bt31 (by decide) (by decide)),fun d2 H2 d20 d2l s2 lf2 => ⟨_,_,rfl,rfl,?_⟩⟩
   refine ⟨_,rfl,_,rfl,a,999999999,rfl,lf2,by decide,bl9 (bt31 (by decide) (by decide)),fun d3 H3 d30 d3l s3 lf3 => ⟨_,_,rfl,rfl,?_⟩⟩
   exact fin _ _ H3 (by omega) (by omega) (by omega) (by omega) ((s1.trans s2).trans s3) lf3
  ·refine ⟨_,rfl,a,12,rfl,lf1,by decide,b16 (by decide) (by decide),fun d2 H2 d20 d2l s2 lf2 => ⟨_,_,rfl,rfl,?_⟩⟩
   refine ⟨_,rfl,_,rfl,a,12,rfl,lf2,by decide,b16 (by decide) (by decide),fun d3 H3 d30 d3l s3 lf3 => ⟨_,_,rfl,rfl,?_⟩⟩
   exact fin _ _ H3 (by omega) (by omega) (by omega) (by omega) ((s1.trans s2).trans s3) lf3
theorem scLparts : FnScope ["_law_left_here","_law_allowed","_law_pairs","_law_k","_law_most","_law_many"] ["_law_left_here","_law_allowed"] (defScope sLparts) := ⟨rfl,rfl,rfl,by decide +kernel,rfl,by decide +kernel,by decide +kernel⟩
theorem ok_lparts {f : Addr} {fd : FuncData} (F : Fun K "_law_parts" "_law_parts" sLparts f fd) (T : Txt mg) (cN : Cal P w K mg base CX0 3 "_law_next" ["_law_left_here","_law_many"] spNext) (cA : Cal P w K mg base CX0 3 "_law_amount" ["_law_left_here"] spLam) : FnOk P w K mg base CX0 4 f fd ["_law_left_here","_law_allowed"] spLparts := by
 refine F.ok scLparts (fun vs H Q E h => ?_) (fun cdv A outer s H vs Q E hr h => ?_)
 ·obtain ⟨_,_,_,rfl,_⟩ := h
  rfl
 ·obtain ⟨a,al,ws,rfl,lf,⟨hal,w1,w20⟩,ala,k⟩ := h
  refine ⟨_,(pss_cons (ps_set (i := 2) scLparts.nd rfl (Or.inl rfl) (pe_lst pa_nil))
   (pss_cons (ps_for PassesOwn.never rfl (pi_range1 rfl T.range (pa_cons (pe_op op_add pe_int (pe_cal cN hr rfl pass0 (pa_cons (pv 0) (pa_cons pe_int pa_nil)))) pa_nil)) (pg_name (i := 3) scLparts.nd rfl (Or.inl rfl))
    (pss_cons (ps_set (i := 4) scLparts.nd rfl (Or.inl rfl) (pe_ix ix_list (pe_lst (pa_cons pe_int (pa_cons pe_int pa_nil))) (pe_callTy call_int1 rfl T.int' bt_int (pa_cons (pe_cmpR op_eq (pe_cal cN hr rfl pass0 (pa_cons (pv 0) (pa_cons pe_int pa_nil))) pe_int (nomark _)) pa_nil)) (fun _ _ => rfl)))
   (pss_cons (ps_set (i := 5) scLparts.nd rfl (Or.inl rfl) (pe_op op_add pe_int (pe_cal cN hr rfl pass0 (pa_cons (pv 0) (pa_cons (pv 4) pa_nil)))))
   (pss_one (ps_expr (pe_bm PySem.F.plainAttrs_list PySem.F.slot_list_append PySem.F.type_list_append mt_append (pv 2) (pa_cons (pe_tup (pa_cons (pv 5) (pa_cons (pe_ix ix_list (pv 1) (pe_cal cN hr rfl pass0 (pa_cons (pv 0) (pa_cons (pe_callB call_len_seq rfl T.len PySem.boot_len (pa_cons (pv 1) pa_nil)) pa_nil))) (fun _ _ => rfl)) pa_nil))) pa_nil)))))))
   (pss_one (ps_ret (pe_tup (pa_cons pe_str (pa_cons (pe_cal cA hr rfl pass0 (pa_cons (pv 0) pa_nil)) (pa_cons (pe_callTy call_tuple_of rfl T.tup' bt_tuple (pa_cons (pv 2) pa_nil)) pa_nil)))))))),?_⟩
  refine ⟨(by show 0 <= sizeLine; decide),fun Pl nP => ?_⟩
  have Pa : Pl ≠ a := lf.there nP
  have sP : SmB a H (upd H Pl (.lst [])) := SmB.refl.own nP
  refine ⟨_,rfl,a,4,rfl,lf.own Pa,by decide,b16 (by decide) (by decide),fun d H1 d0 dl s1 lf1 => ⟨_,_,rfl,rfl,_,rfl,by omega,by omega,?_⟩⟩
  refine for_rangeN (fun i σ H' => ∃ (us : List V) (ps : List (Int × Str)) (v3 v4 v5 : Option V),σ = [some (.ref a),some (.ref al),some (.ref Pl),v3,v4,v5] /\ SmB a H H' /\ Lf H' a /\ H' Pl = some (.lst us) /\ L2R (PrV H') us ps /\ ps.length = i /\ (∀ p ∈ ps,1 <= p.1 /\ p.1 <= 1000) /\ ∀ p ∈ ps,p.2 ∈ ws)
   ⟨[],[],none,none,none,rfl,sP.trans s1,lf1,s1 _ _ Pa upd_same,L2R.nil,rfl,(fun _ h => nomatch h),(fun _ h => nomatch h)⟩ ?_ ?_
  ·intro i σ H2 D' hN hi hh
   obtain ⟨us,ps,v3,v4,v5,rfl,s2,lf2,hP2,hu2,pl,hn,hw⟩ := hh
   refine ⟨(by show 2 <= sizeLine; decide),fun z0 nz0 => ?_⟩
   have z0a : z0 ≠ a := lf2.there nz0
   have sz0 := Same.upd (o := .lst [.int 9,.int 1000]) nz0
   have lf2' := lf2.keep sz0
   refine ⟨_,rfl,a,5,rfl,lf2',by decide,b16 (by decide) (by decide),fun d1 H2b d10 d1l s2b lf2b => ⟨rfl,.inr ⟨_,rfl,z0,_,_,_,rfl,rfl,SqL.of (s2b _ _ z0a upd_same),pick91 _,?_⟩⟩⟩
   have pk := pick91b (decide (V.int d1 = V.int 1))
   generalize (if decide (V.int d1 = V.int 1) = true then (1000 : Int) else 9) = mo at pk ⊢
   have s02 := (s2.trans (SmB.of sz0)).trans s2b
   refine ⟨_,rfl,_,rfl,a,mo,rfl,lf2b,pk.1,bl9 (bt_of 10 (c := 1024) (by omega) (by omega)),fun d2 H3 d20 d2l s3 lf3 => ⟨_,_,rfl,rfl,?_⟩⟩
   have s03 := s02.trans s3
   have hP3 := s3 _ _ Pa (s2b _ _ Pa (sz0 _ _ hP2))
   have hal3 := s03 _ _ ala hal
   refine ⟨_,rfl,.inl ⟨rfl,_,SqL.of hP3⟩,_,rfl,_,rfl,_,rfl,_,rfl,al,_,rfl,.inl (SqL.of hal3),a,_,rfl,lf3,?_,?_,fun d3 H4 d30 d3l s4 lf4 => ?_⟩
   ·rw [List.length_map]; omega
   ·rw [List.length_map]; exact bl9 (bt_of 8 (c := 256) (by omega) (by omega) : Bt 8 ((ws.length : Nat) : Int))
   rw [List.length_map] at d3l
   obtain ⟨dn,rfl⟩ := Int.eq_ofNat_of_zero_le d30
   obtain ⟨x,hx⟩ : ∃ x,ws[dn]? = some x := ⟨_,List.getElem?_eq_getElem (by omega)⟩
   have s04 := s03.trans s4
   have hP4 := s4 _ _ Pa hP3
   refine ⟨al,_,(dn : Int),.str x,rfl,rfl,SqL.of (s4 _ _ ala hal3),atI_nat (by rw [List.getElem?_map,hx]; rfl),(by show 2 <= sizeLine; decide),fun z nz => ?_⟩
   have za : z ≠ a := lf4.there nz
   have zP : z ≠ Pl := fun e => by rw [e,hP4] at nz; cases nz
   have sz := Same.upd (o := .tup [.int (1 + d2),.str x]) nz
   have hP5 := sz _ _ hP4
   have ul := hu2.len
   refine ⟨Pl,_,_,rfl,rfl,hP5,small1000 (by omega),hN _ _ ?_⟩
   have tkP : Tk (upd H4 z (.tup [.int (1 + d2),.str x])) (upd (upd H4 z (.tup [.int (1 + d2),.str x])) Pl (.lst (us ++ [.ref z]))) := Tk.lst hP5
   have tkA := ((sz0.tk.trans (lf_tk s2b lf2')).trans ((lf_tk s3 lf2b).trans (lf_tk s4 lf3))).trans (sz.tk.trans tkP)
   have nz0' : H z = none := sb_none s04 nz za
   refine ⟨us ++ [.ref z],ps ++ [(1 + d2,x)],_,_,_,rfl,(s04.own nz0').own nP,(lf4.own za).own Pa,upd_same,(hu2.imp fun _ _ y => y.keep tkA).snoc ⟨z,rfl,tkP _ _ upd_same⟩,by rw [List.length_append,pl]; rfl,fun p hp => ?_,fun p hp => ?_⟩
   ·rcases List.mem_append.mp hp with h | h
    ·exact hn p h
    ·rw [List.mem_singleton.mp h]
     exact ⟨by show 1 <= 1 + d2; omega,by show 1 + d2 <= 1000; omega⟩
   ·rcases List.mem_append.mp hp with h | h
    ·exact hw p h
    ·rw [List.mem_singleton.mp h]
     exact List.mem_of_getElem? hx
  ·intro σ H2 hh
   obtain ⟨us,ps,v3,v4,v5,rfl,s2,lf2,hP2,hu2,pl,hn,hw⟩ := hh
   refine ⟨_,rfl,a,rfl,lf2,fun q m H3 sq s3 lf3 hm => ?_⟩
   have hP3 := s3 _ _ Pa hP2
   have tk3 := lf_tk s3 lf2
   refine ⟨_,rfl,Pl,us,rfl,.inl ⟨SqL.of hP3,fun t nt => ?_⟩⟩
   have ta : t ≠ a := lf3.there nt
   have st := Same.upd (o := .tup us) nt
   refine ⟨(by show 3 <= sizeLine; decide),fun r nr => ?_⟩
   have sr := Same.upd (o := .tup [.str "parts",.ref m,.ref t]) nr
   have str' := st.trans sr
   refine k r q ps _ ⟨sq,by omega,by omega,hn⟩ hw ((s2.trans s3).trans (SmB.of str')) (lf3.keep str') ?_
   exact .parts upd_same (str' _ _ hm) (sr _ _ upd_same) (hu2.imp fun _ _ y => y.keep (tk3.trans str'.tk))
end
end K11
namespace K11
open PySem PySem.Spec PyProof.Rows L2 GM TM BQ TR
section
variable {P : Program} {w : World} {K : PySem.W.Frag} {mg : Str -> Option Value} {base : Heap}
theorem scFilled : FnScope ["_law_left_here","_law_thing","_law_lies","_law_more","_law_level"] ["_law_left_here","_law_thing","_law_lies"] (defScope sFilled) := ⟨rfl,rfl,rfl,by decide +kernel,rfl,by decide +kernel,by decide +kernel⟩
theorem ok_filled {f : Addr} {fd : FuncData} (F : Fun K "_law_filled" "_law_filled" sFilled f fd) (cN : Cal P w K mg base CX0 3 "_law_next" ["_law_left_here","_law_many"] spNext) (cA : Cal P w K mg base CX0 3 "_law_amount" ["_law_left_here"] spLam) (cL : Cal P w K mg base CX0 3 "_law_low" ["_law_top","_law_bottom"] spLow) : FnOk P w K mg base CX0 4 f fd ["_law_left_here","_law_thing","_law_lies"] spFilled := by
 refine F.ok scFilled (fun vs H Q E h => ?_) (fun cdv A outer s H vs Q E hr h => ?_)
 ·obtain ⟨_,_,_,_,rfl,_⟩ := h
  rfl
 ·obtain ⟨a,m,x,l,rfl,lf,hm,la,lb1,lb2,k⟩ := h
  refine ⟨_,(pss_cons (ps_set (i := 3) scFilled.nd rfl (Or.inl rfl) (pe_tup (pa_cons pe_int (pa_cons pe_int pa_nil))))
   (pss_cons (ps_if (pt_cmpR op_gt (pe_cal cN hr rfl pass0 (pa_cons (pv 0) (pa_cons pe_int pa_nil))) pe_int (nomark _))
    (pss_one (ps_set (i := 3) scFilled.nd rfl (Or.inl rfl) (pe_cal cA hr rfl pass0 (pa_cons (pv 0) pa_nil))))
    pss_nil)
   (pss_cons (ps_set (i := 4) scFilled.nd rfl (Or.inl rfl) (pe_cal cL hr rfl pass0 (pa_cons (pe_op op_add (pe_op op_mulB (pit 2 0) (pit 3 1)) (pe_op op_mulB (pit 3 0) (pit 2 1))) (pa_cons (pe_op op_mulB (pit 2 1) (pit 3 1)) pa_nil))))
   (pss_cons (ps_if (PW.pt (pw_or (pt_cmpR op_lt (pit 4 0) pe_int (nomark _)) (pw_or (pt_cmpR op_gt (pit 4 0) pe_int (nomark _)) (pw_or1 (pt_cmpR op_gt (pit 4 1) pe_int (nomark _))))))
    (pss_one (ps_ret (pe_tup (pa_cons pe_str (pa_cons (pe_cal cA hr rfl pass0 (pa_cons (pv 0) pa_nil)) (pa_cons (pv 1) pa_nil))))))
    pss_nil)
   (pss_one (ps_ret (pe_tup (pa_cons pe_str (pa_cons (pv 4) (pa_cons (pv 1) pa_nil)))))))))),?_⟩
  refine ⟨(by show 2 <= sizeLine; decide),fun o no => ?_⟩
  have oa : o ≠ a := lf.there no
  have so := Same.upd (o := .tup [.int 0,.int 1]) no
  have lf1 := lf.keep so
  have ho : upd H o (.tup [.int 0,.int 1]) o = some (.tup [.int 0,.int 1]) := upd_same
  generalize upd H o (.tup [.int 0,.int 1]) = H1 at so lf1 ho ⊢
  dsimp only [L2.gName]
  refine seq_nx (fun σ' H' => ∃ (m1 : Addr) (q : BQ.Q),σ' = [some (.ref a),some (.str x),some (.ref m),some (.ref m1),none] /\ SmB a H H' /\ Lf H' a /\ AmV H' m l /\ AmV H' m1 q /\ BQ.Am q /\ Bt 30 q.1 /\ Bt 30 q.2) ?_ (fun N hN => ?_)
  ·intro σ' H4 hh
   obtain ⟨m1,q,rfl,s4,lf4,hm4,hq4,aq,q1,q2⟩ := hh
   have sm : SqT K H4 m [.int l.1,.int l.2] := SqT.of hm4
   have sq : SqT K H4 m1 [.int q.1,.int q.2] := SqT.of hq4
   refine ⟨m,_,_,rfl,sm,rfl,m1,_,_,rfl,sq,rfl,_,_,rfl,rfl,⟨b6 lb1,b6 q2⟩,m1,_,_,rfl,sq,rfl,m,_,_,rfl,sm,rfl,_,_,rfl,rfl,⟨b6 q1,b6 lb2⟩,_,_,rfl,rfl,m,_,_,rfl,sm,rfl,m1,_,_,rfl,sq,rfl,_,_,rfl,rfl,⟨b6 lb2,b6 q2⟩,?_⟩
   refine ⟨_,_,rfl,la.num aq,la.mul aq,(lb2.mul q2).mono (by decide),fun g H5 s5 hg => ?_⟩
   have hg' : AmV H5 g (add l q) := hg
   have s05 := s4.trans (SmB.of s5)
   have lf5 := lf4.keep s5
   have sg : SqT K H5 g [.int (add l q).1,.int (add l q).2] := SqT.of hg'
   dsimp only [L2.gName]
   refine ⟨g,_,_,rfl,sg,rfl,_,_,rfl,rfl,_,rfl,ite2 (fun h1 => iteT ?_) (fun h1 => ⟨g,_,_,rfl,sg,rfl,_,_,rfl,rfl,_,rfl,ite2 (fun h2 => iteT ?_) (fun h2 => ⟨g,_,_,rfl,sg,rfl,_,_,rfl,rfl,_,rfl,ite2 (fun h3 => ?_) (fun h3 => ?_)⟩)⟩)⟩
   rotate_left 3
   ·have a1 : ¬ (add l q).1 < 1 := of_decide_eq_false (by simpa using h1)
    have a2 : ¬ (add l q).1 > 999999999 := of_decide_eq_false (by simpa using h2)
    have a3 : ¬ (add l q).2 > 999999999 := of_decide_eq_false (by simpa using h3)
    refine ⟨_,rfl,_,rfl,(by show 3 <= sizeLine; decide),fun r nr => ?_⟩
    have sr := Same.upd (o := .tup [.str "fill",.ref g,.str x]) nr
    exact k r (.fill (add l q) x) _ ⟨⟨add_am la aq,by omega,by omega,by omega⟩,add_ge la aq⟩ rfl (s05.trans (SmB.of sr)) (lf5.keep sr) (.fill upd_same (sr _ _ hg'))
   all_goals
    refine ⟨_,rfl,a,rfl,lf5,fun q' p H6 sq' s6 lf6 hp => ⟨_,rfl,(by show 3 <= sizeLine; decide),fun r nr => ?_⟩⟩
    have sr := Same.upd (o := .tup [.str "take",.ref p,.str x]) nr
    exact k r (.take q' x) _ sq' rfl ((s05.trans s6).trans (SmB.of sr)) (lf6.keep sr) (.take upd_same (sr _ _ hp))
  ·refine ⟨_,rfl,a,4,rfl,lf1,by decide,b16 (by decide) (by decide),fun d H2 d0 dl s2 lf2 => ⟨_,_,rfl,rfl,_,rfl,ite2 (fun _ => ?_) (fun _ => ?_)⟩⟩
   ·refine ⟨_,rfl,a,rfl,lf2,fun q p H3 sq s3 lf3 hp => hN _ _ ⟨p,q,rfl,((SmB.of so).trans s2).trans s3,lf3,lf_tk s3 lf2 _ _ (lf_tk s2 lf1 _ _ (so _ _ hm)),hp,sq.am,sq.bt.1,sq.bt.2⟩⟩
   ·exact hN _ _ ⟨o,(0,1),rfl,(SmB.of so).trans s2,lf2,lf_tk s2 lf1 _ _ (so _ _ hm),s2 _ _ oa ho,am0,(bt_of 2 (c := 2) (by decide) (by decide) : Bt 2 (0 : Int)).mono (by decide),(bt_of 2 (c := 2) (by decide) (by decide) : Bt 2 (1 : Int)).mono (by decide)⟩
theorem scLrow : FnScope ["_law_left_here","_law_allowed","_law_lies","_law_kind","_law_thing","_law_most"] ["_law_left_here","_law_allowed","_law_lies"] (defScope sLrow) := ⟨rfl,rfl,rfl,by decide +kernel,rfl,by decide +kernel,by decide +kernel⟩
theorem ok_lrow {f : Addr} {fd : FuncData} (F : Fun K "_law_row" "_law_row" sLrow f fd) (T : Txt mg) (cN : Cal P w K mg base CX0 4 "_law_next" ["_law_left_here","_law_many"] spNext) (cA : Cal P w K mg base CX0 4 "_law_amount" ["_law_left_here"] spLam) (cP : Cal P w K mg base CX0 4 "_law_parts" ["_law_left_here","_law_allowed"] spLparts) (cF : Cal P w K mg base CX0 4 "_law_filled" ["_law_left_here","_law_thing","_law_lies"] spFilled) : FnOk P w K mg base CX0 5 f fd ["_law_left_here","_law_allowed","_law_lies"] spLrow := by
 refine F.ok scLrow (fun vs H Q E h => ?_) (fun cdv A outer s H vs Q E hr h => ?_)
 ·obtain ⟨_,_,_,_,_,rfl,_⟩ := h
  rfl
 ·obtain ⟨a,al,m,ws,l,rfl,lf,nm,ala,hm,la,lb1,lb2,k⟩ := h
  obtain ⟨hal,w1,w20⟩ := id nm
  refine ⟨_,(pss_cons (ps_set (i := 3) scLrow.nd rfl (Or.inl rfl) (pe_cal cN hr rfl pass0 (pa_cons (pv 0) (pa_cons pe_int pa_nil))))
   (pss_cons (ps_if (pt_cmpR op_eq (pv 3) pe_int (nomark _))
    (pss_one (ps_ret (pe_cal cP hr rfl pass0 (pa_cons (pv 0) (pa_cons (pv 1) pa_nil)))))
    pss_nil)
   (pss_cons (ps_set (i := 4) scLrow.nd rfl (Or.inl rfl) (pe_ix ix_list (pv 1) (pe_cal cN hr rfl pass0 (pa_cons (pv 0) (pa_cons (pe_callB call_len_seq rfl T.len PySem.boot_len (pa_cons (pv 1) pa_nil)) pa_nil))) (fun _ _ => rfl)))
   (pss_cons (ps_if (PW.pt (pw_and (pt_cmpR op_eq (pv 3) pe_int (nomark _)) (pw_and1 (pt_cmpR op_gt (pit 2 0) pe_int (nomark _)))))
    (pss_cons (ps_set (i := 5) scLrow.nd rfl (Or.inl rfl) (pe_ix ix_list (pe_lst (pa_cons pe_int (pa_cons pe_int pa_nil))) (pe_callTy call_int1 rfl T.int' bt_int (pa_cons (pe_cmpR op_eq (pe_cal cN hr rfl pass0 (pa_cons (pv 0) (pa_cons pe_int pa_nil))) pe_int (nomark _)) pa_nil)) (fun _ _ => rfl)))
   (pss_one (ps_ret (pe_tup (pa_cons pe_str (pa_cons (pe_op op_add pe_int (pe_cal cN hr rfl pass0 (pa_cons (pv 0) (pa_cons (pv 5) pa_nil)))) (pa_cons (pv 4) pa_nil)))))))
    pss_nil)
   (pss_cons (ps_if (PW.pt (pw_or (pt_cmpR op_eq (pv 3) pe_int (nomark _)) (pw_or1 (pt_cmpR op_eq (pv 3) pe_int (nomark _)))))
    (pss_one (ps_ret (pe_cal cF hr rfl pass0 (pa_cons (pv 0) (pa_cons (pv 4) (pa_cons (pv 2) pa_nil))))))
    pss_nil)
   (pss_one (ps_ret (pe_tup (pa_cons pe_str (pa_cons (pe_cal cA hr rfl pass0 (pa_cons (pv 0) pa_nil)) (pa_cons (pv 4) pa_nil))))))))))),?_⟩
  refine ⟨_,rfl,a,6,rfl,lf,by decide,b16 (by decide) (by decide),fun kd H1 kd0 kdl s1 lf1 => ?_⟩
  have tk1 := lf_tk s1 lf
  refine ⟨_,rfl,rfl,_,rfl,ite2 (fun hk => ?_) (fun hk => ?_)⟩
  ·exact ⟨_,rfl,_,rfl,a,al,ws,rfl,lf1,⟨s1 _ _ ala hal,w1,w20⟩,ala,fun p q ps H2 ok ot s2 lf2 rv => k p (.parts q ps) H2 ok (fun y hy => by obtain ⟨z,hz,rfl⟩ := List.mem_map.mp hy; exact ot z hz) (s1.trans s2) lf2 rv⟩
  refine ⟨_,rfl,_,rfl,_,rfl,al,_,rfl,.inl (SqL.of (s1 _ _ ala hal)),a,_,rfl,lf1,by rw [List.length_map]; omega,by rw [List.length_map]; exact bl9 (bt_of 8 (c := 256) (by omega) (by omega) : Bt 8 ((ws.length : Nat) : Int)),fun d2 H2 d20 d2l s2 lf2 => ?_⟩
  rw [List.length_map] at d2l
  obtain ⟨dn,rfl⟩ := Int.eq_ofNat_of_zero_le d20
  obtain ⟨x,hx⟩ : ∃ x,ws[dn]? = some x := ⟨_,List.getElem?_eq_getElem (by omega)⟩
  have xin : ∀ y ∈ [x],y ∈ ws := fun y hy => by rw [List.mem_singleton.mp hy]; exact List.mem_of_getElem? hx
  have s02 := s1.trans s2
  have tk2 := tk1.trans (lf_tk s2 lf1)
  have hm2 := tk2 _ _ hm
  refine ⟨al,_,(dn : Int),.str x,rfl,rfl,SqL.of (s02 _ _ ala hal),atI_nat (by rw [List.getElem?_map,hx]; rfl),?_⟩
  dsimp only [L2.gName]
  refine seq_nx (fun σ' H' => σ' = [some (.ref a),some (.ref al),some (.ref m),some (.int kd),some (.str x),none] /\ H' = H2) ?_ (fun N hN => ?_)
  ·intro σ' H' hh
   obtain ⟨rfl,rfl⟩ := hh
   have fil : spFilled [V.ref a,V.str x,V.ref m] H' Q E0 := ⟨a,m,x,l,rfl,lf2,hm2,la,lb1,lb2,fun p r H3 ok ot s3 lf3 rv => k p r H3 ok (by rw [ot]; exact xin) (s02.trans s3) lf3 rv⟩
   refine ⟨_,rfl,rfl,_,rfl,ite2 (fun h => iteT ?_) (fun h => ⟨_,rfl,rfl,_,rfl,ite2 (fun h' => ?_) (fun h' => ?_)⟩)⟩
   ·exact ⟨_,rfl,_,rfl,_,rfl,fil⟩
   ·exact ⟨_,rfl,_,rfl,_,rfl,fil⟩
   ·refine ⟨_,rfl,a,rfl,lf2,fun q p H3 sq s3 lf3 hp => ⟨_,rfl,(by show 3 <= sizeLine; decide),fun r nr => ?_⟩⟩
    have sr := Same.upd (o := .tup [.str "take",.ref p,.str x]) nr
    exact k r (.take q x) _ sq xin ((s02.trans s3).trans (SmB.of sr)) (lf3.keep sr) (.take upd_same (sr _ _ hp))
  ·refine ⟨_,rfl,rfl,_,rfl,ite2 (fun h => ?_) (fun h => iteF (hN _ _ ⟨rfl,rfl⟩))⟩
   refine ⟨m,_,_,rfl,SqT.of hm2,rfl,_,_,rfl,rfl,_,rfl,ite2 (fun h' => ?_) (fun h' => hN _ _ ⟨rfl,rfl⟩)⟩
   have l1 : 0 < l.1 := of_decide_eq_true h'
   refine ⟨(by show 2 <= sizeLine; decide),fun z0 nz0 => ?_⟩
   have z0a : z0 ≠ a := lf2.there nz0
   have sz0 := Same.upd (o := .lst [.int 9,.int 1000]) nz0
   have lf2' := lf2.keep sz0
   refine ⟨_,rfl,a,7,rfl,lf2',by decide,b16 (by decide) (by decide),fun d1 H2b d10 d1l s2b lf2b => ⟨rfl,.inr ⟨_,rfl,z0,_,_,_,rfl,rfl,SqL.of (s2b _ _ z0a upd_same),pick91 _,?_⟩⟩⟩
   have pk := pick91b (decide (V.int d1 = V.int 1))
   generalize (if decide (V.int d1 = V.int 1) = true then (1000 : Int) else 9) = mo at pk ⊢
   refine ⟨_,rfl,_,rfl,a,mo,rfl,lf2b,pk.1,bl9 (bt_of 10 (c := 1024) (by omega) (by omega)),fun d3 H3 d30 d3l s3 lf3 => ⟨_,_,rfl,rfl,_,rfl,(by show 3 <= sizeLine; decide),fun r nr => ?_⟩⟩
   have sr := Same.upd (o := .tup [.str "to",.int (1 + d3),.str x]) nr
   exact k r (.to (1 + d3) x) _ ⟨by omega,by omega,l1⟩ xin ((((s02.trans (SmB.of sz0)).trans s2b).trans s3).trans (SmB.of sr)) (lf3.keep sr) (.to upd_same)
theorem scBehind : FnScope ["_law_lies","_law_row_here","_law_top"] ["_law_lies","_law_row_here"] (defScope sBehind) := ⟨rfl,rfl,rfl,by decide +kernel,rfl,by decide +kernel,by decide +kernel⟩
theorem ok_behind {f : Addr} {fd : FuncData} (F : Fun K "_law_behind" "_law_behind" sBehind f fd) (cL : Cal P w K mg base CX0 2 "_law_low" ["_law_top","_law_bottom"] spLow) : FnOk P w K mg base CX0 3 f fd ["_law_lies","_law_row_here"] spBehind := by
 refine F.ok scBehind (fun vs H Q E h => ?_) (fun cdv A outer s H vs Q E hr h => ?_)
 ·obtain ⟨_,_,_,_,rfl,_⟩ := h
  rfl
 ·obtain ⟨m,v,l,r,rfl,hm,la,lb1,lb2,hv,ok,k⟩ := h
  refine ⟨_,(pss_cons (ps_if (pt_cmpR op_eq (pit 1 0) pe_str (nomark _))
    (pss_one (ps_ret (pit 1 1)))
    pss_nil)
   (pss_cons (ps_if (pt_cmpR op_eq (pit 1 0) pe_str (nomark _))
    (pss_one (ps_ret (pe_cal cL hr rfl pass0 (pa_cons (pe_op op_mulB (pit 0 0) (pe_op op_add (pit 1 1) pe_int)) (pa_cons (pit 0 1) pa_nil)))))
    pss_nil)
   (pss_cons (ps_set (i := 2) scBehind.nd rfl (Or.inl rfl) (pe_op op_add (pe_op op_mulB (pit 0 0) (pe_ix ix_tup (pit 1 1) pe_int (fun _ _ => rfl))) (pe_op op_mulB (pe_ix ix_tup (pit 1 1) pe_int (fun _ _ => rfl)) (pit 0 1))))
   (pss_one (ps_ret (pe_cal cL hr rfl pass0 (pa_cons (pv 2) (pa_cons (pe_op op_mulB (pit 0 1) (pe_ix ix_tup (pit 1 1) pe_int (fun _ _ => rfl))) pa_nil)))))))),?_⟩
  have sm : SqT K H m [.int l.1,.int l.2] := SqT.of hm
  cases hv with
  | @fill p ma a x hp ha =>
   have sp : SqT K H p [.str "fill",.ref ma,.str x] := SqT.of hp
   exact ⟨p,_,_,rfl,sp,rfl,rfl,_,rfl,iteT ⟨p,_,_,rfl,sp,rfl,k ma H (Same.refl _) ha⟩⟩
  | @to p n x hp =>
   have sp : SqT K H p [.str "to",.int n,.str x] := SqT.of hp
   obtain ⟨n1,n2,l1⟩ := ok
   refine ⟨p,_,_,rfl,sp,rfl,rfl,_,rfl,iteF ⟨p,_,_,rfl,sp,rfl,rfl,_,rfl,iteT ⟨m,_,_,rfl,sm,rfl,p,_,_,rfl,sp,rfl,_,_,rfl,rfl,_,_,rfl,rfl,⟨b6 lb1,bl (by omega) (by omega)⟩,m,_,_,rfl,sm,rfl,?_⟩⟩⟩
   exact ⟨_,_,rfl,Int.mul_nonneg la.t0 (by omega),la.b1,lb2.mono (by decide),fun g H1 s1 hg => k g H1 s1 hg⟩
  | @take p ma a x hp ha =>
   have sp : SqT K H p [.str "take",.ref ma,.str x] := SqT.of hp
   have sa : SqT K H ma [.int a.1,.int a.2] := SqT.of ha
   have oa : SmR a := ok
   refine ⟨p,_,_,rfl,sp,rfl,rfl,_,rfl,iteF ⟨p,_,_,rfl,sp,rfl,rfl,_,rfl,iteF ⟨m,_,_,rfl,sm,rfl,p,_,_,rfl,sp,rfl,ma,_,1,.int a.2,rfl,rfl,sa,rfl,_,_,rfl,rfl,⟨b6 lb1,b6 oa.bt.2⟩,p,_,_,rfl,sp,rfl,ma,_,0,.int a.1,rfl,rfl,sa,rfl,m,_,_,rfl,sm,rfl,_,_,rfl,rfl,⟨b6 oa.bt.1,b6 lb2⟩,_,_,rfl,rfl,?_⟩⟩⟩
   refine ⟨_,rfl,m,_,_,rfl,sm,rfl,p,_,_,rfl,sp,rfl,ma,_,1,.int a.2,rfl,rfl,sa,rfl,_,_,rfl,rfl,⟨b6 lb2,b6 oa.bt.2⟩,_,_,rfl,la.num oa.am,la.mul oa.am,(lb2.mul oa.bt.2).mono (by decide),fun g H1 s1 hg => k g H1 s1 hg⟩
  | @parts p ma q a us ps hp ha hq hu =>
   have sp : SqT K H p [.str "parts",.ref ma,.ref q] := SqT.of hp
   have sa : SqT K H ma [.int a.1,.int a.2] := SqT.of ha
   have oa : SmR a := ok.1
   refine ⟨p,_,_,rfl,sp,rfl,rfl,_,rfl,iteF ⟨p,_,_,rfl,sp,rfl,rfl,_,rfl,iteF ⟨m,_,_,rfl,sm,rfl,p,_,_,rfl,sp,rfl,ma,_,1,.int a.2,rfl,rfl,sa,rfl,_,_,rfl,rfl,⟨b6 lb1,b6 oa.bt.2⟩,p,_,_,rfl,sp,rfl,ma,_,0,.int a.1,rfl,rfl,sa,rfl,m,_,_,rfl,sm,rfl,_,_,rfl,rfl,⟨b6 oa.bt.1,b6 lb2⟩,_,_,rfl,rfl,?_⟩⟩⟩
   refine ⟨_,rfl,m,_,_,rfl,sm,rfl,p,_,_,rfl,sp,rfl,ma,_,1,.int a.2,rfl,rfl,sa,rfl,_,_,rfl,rfl,⟨b6 lb2,b6 oa.bt.2⟩,_,_,rfl,la.num oa.am,la.mul oa.am,(lb2.mul oa.bt.2).mono (by decide),fun g H1 s1 hg => k g H1 s1 hg⟩
end
end K11
namespace L2
open PySem PySem.Spec PyProof.Rows
end L2
namespace L2
open PySem PySem.Spec PyProof.Rows
theorem comp_nils {J : It} {xs : List V} {D : Addr} {g : TG} {te : TE} {σ0 : St} {QD : Hp -> Prop} {H1 : Hp} (Y : Ys J xs H1) (hD : H1 D = none) (hl : xs.length <= 1000)
  (hs : ∀ (i : Nat) x H' (R : VK),xs[i]? = some x -> Same H1 H' -> (∀ p,H' p = none -> R (.ref p) (upd H' p (.lst []))) -> g x σ0 H' fun σ2 H2 => Keep σ0 σ2 /\ te σ2 H2 R)
  (hd : ∀ (as : List Addr) H',Same H1 H' -> H' D = some (.lst (as.map V.ref)) -> as.length = xs.length -> as.Nodup -> (∀ a ∈ as,a ≠ D /\ H1 a = none /\ H' a = some (.lst [])) -> QD H') :
  ∃ W : Nat -> Nat -> List V -> Hp -> Prop,(∃ m,W 0 m [] (upd H1 D (.lst []))) /\ ∀ i m ys H,W i m ys H -> H D = some (.lst ys) /\ ys.length < sizeLine /\
   ((J.stop i H /\ QD H) \/ (J.go i H /\ ∀ x H',J.yld i H x H' -> g x σ0 H' fun σ2 H2 => Keep σ0 σ2 /\ tNoIf σ2 H2 fun b H3 =>
    if b = true then te σ2 H3 fun y H4 => H4 D = some (.lst ys) /\ ∃ m',m' < m /\ W (i + 1) m' (ys ++ [y]) (upd H4 D (.lst (ys ++ [y]))) else ∃ m',m' < m /\ W (i + 1) m' ys H3)) := by
 refine ⟨fun i m ys H => m = xs.length - i /\ i <= xs.length /\ Same H1 H /\ ∃ as : List Addr,ys = as.map V.ref /\ H D = some (.lst (as.map V.ref)) /\ as.length = i /\ as.Nodup /\ ∀ a ∈ as,a ≠ D /\ H1 a = none /\ H a = some (.lst []),
  ⟨_,rfl,Nat.zero_le _,Same.upd hD,[],rfl,upd_same,rfl,List.nodup_nil,fun a h => nomatch h⟩,?_⟩
 rintro i m ys H ⟨rfl,hi,sm,as,rfl,hDH,al,nd,pr⟩
 refine ⟨hDH,small1000 (by rw [List.length_map]; omega),?_⟩
 by_cases hlt : i < xs.length
 ·refine .inr ⟨Y.go i H sm hlt,fun x H' y => ?_⟩
  obtain ⟨rfl,hx⟩ := Y.yld i H x H' sm hlt y
  refine hs i x H' _ hx sm fun p hp => ?_
  have pD : p ≠ D := fun e => by rw [e,hDH] at hp; cases hp
  have hD4 : upd H' p (.lst []) D = some (.lst (as.map V.ref)) := by rw [upd_ne (Ne.symm pD)]; exact hDH
  have p1 : H1 p = none := by
   cases e : H1 p with
   | none => rfl
   | some o => rw [sm _ _ e] at hp; cases hp
  refine ⟨hD4,xs.length - (i + 1),by omega,rfl,hlt,fun b o hb => ?_,as ++ [p],by simp,?_,by rw [List.length_append,al]; rfl,?_,fun a ha => ?_⟩
  ·rw [upd_ne (ne_of_none hb hD),upd_ne (ne_of_none hb p1)]
   exact sm _ _ hb
  ·rw [upd_same,List.map_append]; rfl
  ·refine List.nodup_append.mpr ⟨nd,List.nodup_cons.mpr ⟨by simp,List.nodup_nil⟩,fun a ha b hb e => ?_⟩
   rw [e,List.mem_singleton.mp hb] at ha
   rw [(pr p ha).2.2] at hp
   cases hp
  ·rcases List.mem_append.mp ha with h | h
   ·obtain ⟨a1,a2,a3⟩ := pr a h
    refine ⟨a1,a2,?_⟩
    rw [upd_ne a1,upd_ne (fun e => by rw [e,hp] at a3; cases a3)]
    exact a3
   ·rw [List.mem_singleton.mp h]
    refine ⟨pD,p1,?_⟩
    rw [upd_ne pD]
    exact upd_same
 ·have e : i = xs.length := by omega
  subst e
  exact .inl ⟨Y.stop _ H sm (Nat.le_refl _),hd as H sm hDH al nd pr⟩
def tOrT (K : PySem.W.Frag) (ta tb : TE) : TE := fun σ H Q => ta σ H fun x H1 => ∃ k,TruV K x H1 k /\ if k = true then Q x H1 else tb σ H1 Q
theorem pe_orT {X : Cx} {a b : Expr} {rest : List Expr} {pos : Pos} {ta tb : TE} (ha : PE X a ta) (hb : PE X (.BoolOp .Or (b :: rest) pos) tb) : PE X (.BoolOp .Or (a :: b :: rest) pos) (tOrT X.K ta tb) := by
 intro pins s σ H Q I h
 refine BoolOp_or (thn (ha pins s σ H _ I h) fun v s1 ⟨x,H1,I1,r1,q1⟩ => ?_)
 obtain ⟨k,tv,q1⟩ := q1
 refine thn (tru_ok pins s1 σ H1 x v (fun c H2 => if c = true then Q x H2 else tb σ H2 Q) I1 r1 ⟨k,tv,q1⟩) fun c s2 ⟨H2,I2,q2⟩ => ?_
 cases c with
 | false => exact hb pins s2 σ H2 Q I2 q2
 | true => exact ⟨x,H2,I2,r1,q2⟩
end L2
namespace K11
open PySem PySem.Spec PyProof.Rows L2 GM TM BQ TR
def Lw (t : Int) (j k : Nat) : Prop := (t = 0 /\ k < j) \/ (t = 1 /\ j < k) \/ (k * 7 % 13 < j * 7 % 13 /\ t ≠ 0 /\ t ≠ 1)
theorem cut_to {xs : List V} {j : Nat} (h : j <= xs.length) : cutV xs none (some (j : Int)) = xs.take j := by
 unfold cutV
 rw [HT.sIx_nat,HT.sIx_none,Nat.min_eq_left h]
 rfl
theorem cut_from {xs : List V} {j : Nat} (h : j <= xs.length) : cutV xs (some (j : Int)) none = xs.drop j := by
 unfold cutV
 rw [HT.sIx_nat,HT.sIx_none,Nat.min_eq_left h]
 exact List.take_of_length_le (by rw [List.length_drop]; omega)
theorem cut_at {xs : List V} {i j : Nat} (h : j <= xs.length) (hi : i <= j) : cutV xs (some (i : Int)) (some (j : Int)) = (xs.drop i).take (j - i) := by
 unfold cutV
 rw [HT.sIx_nat,HT.sIx_nat,Nat.min_eq_left h,Nat.min_eq_left (by omega)]
def spLower : Sp := fun vs H Q _ => ∃ (l : Addr) (rs : List Str) (j : Nat) (t : Int),vs = [.ref l,.int j,.int t] /\ H l = some (.lst (rs.map V.str)) /\ rs.length <= 20 /\ j < rs.length /\ ∀ (os : List Str) p H',Same H H' -> H p = none -> H' p = some (.lst (os.map V.str)) -> os.length <= rs.length -> (∀ y ∈ os,∃ k,rs[k]? = some y /\ Lw t j k) -> Q (.ref p) H'
section
variable {P : Program} {w : World} {K : PySem.W.Frag} {mg : Str -> Option Value} {base : Heap}
abbrev Nlow : List Str := ["_law_recipes_here","_law_j","_law_turn"]
theorem ndKJ : (["_law_k","_law_j","_law_recipes_here"] : List Str).Nodup := by decide +kernel
theorem scLower : FnScope Nlow ["_law_recipes_here","_law_j","_law_turn"] (defScope sLower) := ⟨rfl,rfl,rfl,by decide +kernel,rfl,by decide +kernel,by decide +kernel⟩
theorem ix_listK {X : Cx} {K : PySem.W.Frag} (h : X.K = K) : IxR X (rIxL K) := h ▸ ix_list
theorem ok_lower {f : Addr} {fd : FuncData} (F : Fun K "_law_lower" "_law_lower" sLower f fd) (T : Txt mg) : FnOk P w K mg base CX0 1 f fd ["_law_recipes_here","_law_j","_law_turn"] spLower := by
 refine F.ok scLower (fun vs H Q E h => ?_) (fun cdv A outer s H vs Q E hr h => ?_)
 ·obtain ⟨_,_,_,_,rfl,_⟩ := h
  rfl
 ·obtain ⟨l,rs,j,t,rfl,hl,r20,jr,k⟩ := h
  refine ⟨_,(pss_cons (ps_if (pt_cmpR op_eq (pv 2) pe_int (nomark _))
    (pss_one (ps_ret (pe_slice sl_list (pv 0) po_none (po_some (pv 1)))))
    pss_nil)
   (pss_cons (ps_if (pt_cmpR op_eq (pv 2) pe_int (nomark _))
    (pss_one (ps_ret (pe_slice sl_list (pv 0) (po_some (pe_op op_add (pv 1) pe_int)) po_none)))
    pss_nil)
   (pss_one (ps_ret (pe_compC (N' := ["_law_k","_law_j","_law_recipes_here"]) (fun σ => [none,some 1,some 0].map fun t => t.bind fun j => (σ[j]?).join) rfl rfl (by decide +kernel) (by decide +kernel)
       (hk_of (sc := defScope sLower) rfl (by decide +kernel)) (fun _ _ _ => blkN_by (sc := defScope sLower) (N := Nlow) [none,some 1,some 0] rfl rfl rfl rfl (by decide +kernel))
       (pi_range1 rfl T.range (pa_cons (pe_callB call_len_seq rfl T.len PySem.boot_len (pa_cons (pv 0) pa_nil)) pa_nil)) (fun _ _ _ _ _ _ => pg_name (i := 0) ndKJ rfl (Or.inl rfl))
       (fun _ _ _ _ _ _ => pifs_one (pt_cmpR op_lt (pe_op op_mod (pe_op op_mul (pv 0) pe_int) pe_int) (pe_op op_mod (pe_op op_mul (pv 1) pe_int) pe_int) (nomark _)))
       (fun _ _ _ _ _ _ => pe_ix (ix_listK (K := K) rfl) (pv 2) (pv 0) (fun _ _ => rfl))))))),?_⟩
  have sub : ∀ (a b : Nat) (y : Str),y ∈ (rs.drop a).take b -> ∃ i,rs[i]? = some y /\ a <= i /\ i < a + b := fun a b y hy => by
   obtain ⟨i,hi⟩ := List.getElem?_of_mem hy
   by_cases c : i < b
   ·rw [List.getElem?_take_of_lt c,List.getElem?_drop] at hi
    exact ⟨a + i,hi,by omega,by omega⟩
   ·rw [List.getElem?_eq_none (by rw [List.length_take]; omega)] at hi
    cases hi
  refine ⟨_,rfl,rfl,_,rfl,ite2 (fun h0 => ?_) (fun h0 => ?_)⟩
  ·have e0 : t = 0 := by simpa using h0
   refine ⟨_,rfl,_,rfl,_,rfl,l,_,rfl,SqL.of hl,fun p np => ?_⟩
   rw [cut_to (by rw [List.length_map]; omega),<- List.map_take]
   refine k (rs.take j) p _ (Same.upd np) np upd_same (by rw [List.length_take]; omega) fun y hy => ?_
   obtain ⟨i,hi,_,h2⟩ := sub 0 j y hy
   exact ⟨i,hi,.inl ⟨e0,by omega⟩⟩
  have n0 : t ≠ 0 := by simpa using h0
  refine ⟨_,rfl,rfl,_,rfl,ite2 (fun h1 => ?_) (fun h1 => ?_)⟩
  ·have e1 : t = 1 := by simpa using h1
   refine ⟨_,rfl,_,rfl,_,_,rfl,rfl,_,rfl,l,_,rfl,SqL.of hl,fun p np => ?_⟩
   have ec : ((j : Int) + 1) = ((j + 1 : Nat) : Int) := rfl
   rw [ec,cut_from (by rw [List.length_map]; omega),<- List.map_drop]
   refine k (rs.drop (j + 1)) p _ (Same.upd np) np upd_same (by rw [List.length_drop]; omega) fun y hy => ?_
   rw [<- List.take_length (l := rs.drop (j + 1))] at hy
   obtain ⟨i,hi,h2,_⟩ := sub _ _ y hy
   exact ⟨i,hi,.inr (.inl ⟨e1,by omega⟩)⟩
  have n1 : t ≠ 1 := by simpa using h1
  refine ⟨_,rfl,l,_,rfl,.inl (SqL.of hl),_,rfl,by rw [List.length_map]; omega,by rw [List.length_map]; omega,fun D nD => ?_⟩
  rw [List.length_map,Int.toNat_natCast]
  refine comp_filt Ys.rng (fun v => match v with | .int i => decide (i * 7 % 13 < (j : Int) * 7 % 13) | _ => false) (fun x y _ => ∃ (i : Nat) (z : Str),x = .int (0 + (i : Int)) /\ rs[i]? = some z /\ y = .str z) (fun _ _ _ _ h _ => h) nD (by rw [rngV_len]; omega) (fun i v H' R1 R2 hv sm q1 q2 => ?_) (fun ys H1 s1 hD1 yl hy => ?_)
  ·obtain ⟨hi,rfl⟩ := rngV_get hv
   obtain ⟨z,hz⟩ : ∃ z,rs[i]? = some z := ⟨_,List.getElem?_eq_getElem hi⟩
   refine ⟨(Keep.refl _).set rfl,_,rfl,_,_,rfl,rfl,.inr ⟨by decide,by decide⟩,_,_,rfl,rfl,(by show (0 : Int) < 13; decide),_,rfl,_,_,rfl,rfl,.inr ⟨by decide,by decide⟩,_,_,rfl,rfl,(by show (0 : Int) < 13; decide),_,_,rfl,rfl,_,rfl,ite2 (fun h2 => ?_) (fun h2 => ?_)⟩
   ·refine ⟨_,rfl,_,rfl,l,_,(0 + (i : Int)),.str z,rfl,rfl,SqL.of (sm _ _ hl),?_,q1 h2 _ _ (Same.refl _) ⟨i,z,rfl,hz,rfl⟩⟩
    rw [Int.zero_add]
    exact atI_nat (by rw [List.getElem?_map,hz]; rfl)
   ·exact q2 (by simpa using h2) _ (Same.refl _)
  ·have all : ∀ y ∈ ys,∃ (i : Nat) (z : Str),i * 7 % 13 < j * 7 % 13 /\ rs[i]? = some z /\ y = .str z := fun y hy' => by
    obtain ⟨a,ha⟩ := List.getElem?_of_mem hy'
    have al : a < ys.length := (List.getElem?_eq_some_iff.mp ha).1
    rw [yl] at al
    have hx := List.getElem?_eq_getElem al
    obtain ⟨i,z,e1,e2,e3⟩ := hy a _ _ hx ha
    have q := (List.mem_filter.mp (List.mem_of_getElem? hx)).2
    rw [e1] at q
    have q' : (0 + (i : Int)) * 7 % 13 < (j : Int) * 7 % 13 := of_decide_eq_true q
    rw [Int.zero_add] at q'
    exact ⟨i,z,by exact_mod_cast q',e2,e3⟩
   obtain ⟨os,eo,ho⟩ : ∃ os : List Str,ys = os.map V.str /\ ∀ y ∈ os,∃ k,rs[k]? = some y /\ Lw t j k := by
    clear yl hy hD1
    induction ys with
    | nil => exact ⟨[],rfl,fun y h => nomatch h⟩
    | cons y r ih =>
     obtain ⟨os,e,h⟩ := ih fun y hy => all y (List.mem_cons_of_mem _ hy)
     obtain ⟨i,z,a1,a2,rfl⟩ := all y (List.mem_cons_self ..)
     refine ⟨z :: os,by rw [e]; rfl,fun y hy => ?_⟩
     rcases List.mem_cons.mp hy with rfl | hy
     ·exact ⟨i,a2,.inr (.inr ⟨a1,n0,n1⟩)⟩
     ·exact h y hy
   rw [eo] at hD1
   refine k os D H1 s1 nD hD1 ?_ ho
   have := List.length_filter_le (fun v => match v with | V.int i => decide (i * 7 % 13 < (j : Int) * 7 % 13) | _ => false) (rngV 0 rs.length)
   rw [rngV_len] at this
   rw [eo,List.length_map] at yl
   omega
end
end K11
namespace L2
open PySem PySem.Spec PyProof.Rows
def Itz3 (K : PySem.W.Frag) (a b : Addr) : It :=
  ⟨fun i H => ∃ xs ys,SqL K H a xs /\ SqL K H b ys /\ i < xs.length /\ i < ys.length,
   fun i H v H' => ∃ T,H T = none /\ v = .ref T /\ ∀ xs ys,SqL K H a xs -> SqL K H b ys -> ∃ x y,xs[i]? = some x /\ ys[i]? = some y /\ H' = upd H T (.tup [x,y]),
   fun i H => ∃ xs ys,SqL K H a xs /\ SqL K H b ys /\ (i = xs.length \/ (i < xs.length /\ i = ys.length))⟩
def ZipSt3 (n a b : Nat) (i : Nat) (h : Heap) : Prop := IsZip h (n + 4) (n + 2) (n + 3) .none /\ IsPair h (n + 2) (.ref n) (.ref (n + 1)) /\ (∃ x y,IsPair h (n + 3) x y) /\ h.IsListIter n a i /\ h.IsListIter (n + 1) b i
theorem turn_zip3 {P : Program} {w : World} {K : PySem.W.Frag} {es : List Expr} {k1 : Nat} {p1 : Pos} {n a b : Nat} (ha : a < n) (hb : b < n) :
  Turn P w K (.Tuple es k1 p1) (Itz3 K a b) [n + 4,n + 2,n + 3,n,n + 1] (n + 4) (ZipSt3 n a b) where
 mem := by simp
 obj := fun i h st c hc => by
  obtain ⟨c1,c2,⟨x,y,c3⟩,⟨o4,d4,_,f4⟩,⟨o5,d5,_,f5⟩⟩ := st
  have hc' : c = n + 4 \/ c = n + 2 \/ c = n + 3 \/ c = n \/ c = n + 1 := by simpa using hc
  rcases hc' with e | e | e | e | e
  ·subst e; exact ⟨_,c1,fun v z => by cases z⟩
  ·subst e; exact ⟨_,c2,fun v z => by cases z⟩
  ·subst e; exact ⟨_,c3,fun v z => by cases z⟩
  ·subst e; exact ⟨_,d4,fun v z => by rw [f4] at z; cases z⟩
  ·subst e; exact ⟨_,d5,fun v z => by rw [f5] at z; cases z⟩
 keep := fun i h h' st k => by
  obtain ⟨c1,c2,⟨x,y,c3⟩,c4,c5⟩ := st
  exact ⟨k _ (by simp) _ c1,k _ (by simp) _ c2,⟨x,y,k _ (by simp) _ c3⟩,c4.at fun o e => k _ (by simp) o e,c5.at fun o e => k _ (by simp) o e⟩
 item := by
  intro X hP hw hK hc i pins s σ H E I hf st hg
  subst hP hw hK
  obtain ⟨xs,ys,hx,hy,l1,l2⟩ := hg
  obtain ⟨its,r1,tx,_⟩ := I.list hx
  obtain ⟨its',r2,ty,_⟩ := I.list hy
  have e1 := r1.length
  have e2 := r2.length
  obtain ⟨c1,c2,⟨x0,y0,c3⟩,c4,c5⟩ := st
  have hh : X.A.in1.handled = none := I.ok.hd hc
  refine zipPy (Draws.list hh n a (by show (_ : Nat) ≠ _; omega) its.toArray) (Draws.list hh (n + 1) b (by show (_ : Nat) ≠ _; omega) its'.toArray) (ap_new ha hb) c1 c2 c3 ⟨c4,isList_of tx⟩ ⟨c5,isList_of ty⟩ (by rw [List.size_toArray]; omega) (by rw [List.size_toArray]; omega) fun x y T g t' px py hT cz cO s1 s2 cT kp => ⟨.ref T,rfl,?_⟩
  subst hT
  refine wpAny_letOwnedTupleGo_zip (s := { s with heap := g,toks := t' }) cz fun g' cz' sb => ?_
  obtain ⟨vx,hvx⟩ : ∃ v,xs[i]? = some v := ⟨_,List.getElem?_eq_getElem l1⟩
  obtain ⟨vy,hvy⟩ : ∃ v,ys[i]? = some v := ⟨_,List.getElem?_eq_getElem l2⟩
  obtain ⟨ux,hux,rx⟩ := r1.get hvx
  obtain ⟨uy,huy,ry⟩ := r2.get hvy
  have ex : x = ux := by
   have : its.toArray[i]? = some x := px
   rw [<- Array.getElem?_toList,List.toList_toArray,hux] at this
   exact (Option.some.inj this).symm
  have ey : y = uy := by
   have : its'.toArray[i]? = some y := py
   rw [<- Array.getElem?_toList,List.toList_toArray,huy] at this
   exact (Option.some.inj this).symm
  subst ex ey
  have hfr : H s.heap.objs.size = none := I.hok.fresh (Nat.le_refl _)
  have I0 : Inv X pins σ (upd H s.heap.objs.size (.tup [vx,vy])) { s with heap := s.heap.push { cls := .type "tuple",data := .seq #[x,y] },toks := t' } :=
   I.laid (fun c u q => Heap.get?_push_of_some _ q) (Nat.le_refl _) ⟨by show 2 <= sizeLine; decide,[x,y],.cons rx (.cons ry .nil),⟨_,Heap.get?_push_size s.heap rfl,rfl,_,rfl⟩⟩
  have lz : n + 4 < s.heap.objs.size := Heap.lt_size c1
  have fpn : ∀ c ∈ [n + 4,n + 2,n + 3,n,n + 1],c ≠ s.heap.objs.size := fun c hc' => by
   have hc'' : c = n + 4 \/ c = n + 2 \/ c = n + 3 \/ c = n \/ c = n + 1 := by simpa using hc'
   rcases hc'' with e | e | e | e | e <;> (subst e; exact Nat.ne_of_lt (by omega))
  have hf0 : ∀ c ∈ [n + 4,n + 2,n + 3,n,n + 1],FpOk X pins (upd H s.heap.objs.size (.tup [vx,vy])) c := fun c hc' => ⟨by rw [upd_ne (fpn c hc')]; exact (hf c hc').1,(hf c hc').2⟩
  have I1 : Inv X pins σ (upd H s.heap.objs.size (.tup [vx,vy])) { s with heap := g',toks := t' } := by
   refine Inv.turnedL (s := { s with heap := s.heap.push { cls := .type "tuple",data := .seq #[x,y] },toks := t' }) (h' := g') (t' := t') (ch := [n + 4,n + 2,n + 3,n,n + 1]) I0 (fun c o hc' e => ?_) hf0
   replace e : (s.heap.push { cls := .type "tuple",data := .seq #[x,y] }).get? c = some o := e
   have hn : ∀ d ∈ [n + 4,n + 2,n + 3,n,n + 1],c ≠ d := fun d hd z => hc' (by rw [z]; exact hd)
   refine sb.extBut _ _ (hn _ (by simp)) ?_
   by_cases ec : c = s.heap.objs.size
   ·rw [ec] at e ⊢
    rw [Heap.get?_push_size s.heap rfl] at e
    cases e
    exact cT
   ·rw [Heap.get?_push_ne _ _ _ ec] at e
    exact kp c o (hn _ (by simp)) (hn _ (by simp)) (hn _ (by simp)) (hn _ (by simp)) e
  refine ⟨.ref s.heap.objs.size,_,I1,rfl,⟨_,hfr,rfl,fun xs' ys' hx' hy' => ⟨vx,vy,by rw [I.list_inj hx' hx]; exact hvx,by rw [I.list_inj hy' hy]; exact hvy,rfl⟩⟩,?_,fun c hc' => (hf0 c hc').1⟩
  have nz : ∀ d : Nat,d < n + 4 -> d ≠ n + 4 := fun d hd => Nat.ne_of_lt hd
  exact ⟨cz',sb.extBut _ _ (nz _ (by omega)) (kp _ _ (nz _ (by omega)) (by show (_ : Nat) ≠ _; omega) (by show (_ : Nat) ≠ _; omega) (by show (_ : Nat) ≠ _; omega) c2),⟨x,y,sb.extBut _ _ (nz _ (by omega)) cO⟩,s1.1.extBut sb.extBut (nz _ (by omega)),s2.1.extBut sb.extBut (nz _ (by omega))⟩
 done := by
  intro X hP hw hK hc i pins s σ H E I hf st hg
  subst hP hw hK
  obtain ⟨xs,ys,hx,hy,l⟩ := hg
  obtain ⟨its,r1,tx,_⟩ := I.list hx
  obtain ⟨its',r2,ty,_⟩ := I.list hy
  have e1 := r1.length
  have e2 := r2.length
  obtain ⟨c1,c2,⟨x0,y0,c3⟩,c4,c5⟩ := st
  have hh : X.A.in1.handled = none := I.ok.hd hc
  refine zipPyStop (Draws.list hh n a (by show (_ : Nat) ≠ _; omega) its.toArray) (Draws.list hh (n + 1) b (by show (_ : Nat) ≠ _; omega) its'.toArray) (ap_new ha hb) c1 c2 c3 ⟨c4,isList_of tx⟩ ⟨c5,isList_of ty⟩ (by rw [List.size_toArray,List.size_toArray]; omega) fun g t' kp => ⟨rfl,I.turnedL (ch := [n + 4,n + 2,n + 3,n,n + 1]) (fun c o hc' e => ?_) hf⟩
  have hn : ∀ d ∈ [n + 4,n + 2,n + 3,n,n + 1],c ≠ d := fun d hd z => hc' (by rw [z]; exact hd)
  exact kp c o (hn _ (by simp)) (hn _ (by simp)) (hn _ (by simp)) (hn _ (by simp)) e
 self := fun _ _ _ _ _ st h => wpAny_pyIter_zip st.1 h
abbrev xo1 (h : Heap) (a : Addr) : Heap := h.push { cls := .type "list_iterator",data := .fields #[.ref a,.int 0 0] }
abbrev xo2 (h : Heap) (a b : Addr) : Heap := (xo1 h a).push { cls := .type "list_iterator",data := .fields #[.ref b,.int 0 0] }
abbrev xo3 (h : Heap) (a b : Addr) : Heap := (xo2 h a b).push { cls := .type "tuple",data := .seq #[.ref h.objs.size,.ref (xo1 h a).objs.size] }
abbrev xo4 (h : Heap) (a b : Addr) : Heap := (xo3 h a b).push { cls := .type "tuple",data := .seq #[.none,.none] }
abbrev xo5 (h : Heap) (a b : Addr) : Heap := (xo4 h a b).push { cls := .type "zip",data := .fields #[.none,.bool false,.bool false,.ref (xo2 h a b).objs.size,.ref (xo3 h a b).objs.size] }
theorem zipMade3 (a b : Addr) (xs ys : Array Value) : Meets (Builtin.«zip.__new__» ⟨[.type "zip",.ref a,.ref b],[]⟩) (fun _ R s => s.heap.IsList a xs /\ s.heap.IsList b ys /\ R (.ok (.ret (.ref (xo4 s.heap a b).objs.size))) { s with heap := xo5 s.heap a b }) := .of_wp fun prog w A R s h => by
 obtain ⟨hp,g,d,tk,os⟩ := s
 obtain ⟨q1,q2,q⟩ := h
 have hsub := sub_zip
 have u1 : Heap.IsList (Shared.heap ⟨hp,g,d,tk,os⟩) a xs := q1
 have u2 : Heap.IsList (Shared.heap ⟨hp.push { cls := .type "list_iterator",data := .fields #[.ref a,.int 0 0] },g,d,tk,os⟩) b ys := Heap.IsList.push q2 _
 wp_walk using wpAny_pyIter_list u1,wpAny_pyIter_list u2
 exact ⟨_,rfl,q⟩
theorem call_zipLL {prog : Program} {w : World} {A : Around} {E : Value -> Shared -> Prop} {s : Shared} {a b : Addr} {xs ys : Array Value} {Q : Value -> Shared -> Prop} (q1 : s.heap.IsList a xs) (q2 : s.heap.IsList b ys)
  (q : ∀ g,ZipSt3 s.heap.objs.size a b 0 g -> (∀ c o,s.heap.get? c = some o -> g.get? c = some o) -> Q (.ref (s.heap.objs.size + 4)) { s with heap := g }) : wpAny (model prog w) A (call (.type "zip") [.ref a,.ref b]) Q E s := by
 refine callType_new F.called_zip (by decide) (F.typeCall_zip_2 _ _) (F.newCall_zip_2 _ _) (fun obj => F.args_object_init_3 obj _ _) F.entry_zip_new (zipMade3 a b xs ys) ⟨q1,q2,?_⟩
 have z1 : (xo1 s.heap a).objs.size = s.heap.objs.size + 1 := Heap.size_push ..
 have z2 : (xo2 s.heap a b).objs.size = s.heap.objs.size + 2 := by rw [Heap.size_push,z1]
 have z3 : (xo3 s.heap a b).objs.size = s.heap.objs.size + 3 := by rw [Heap.size_push,z2]
 have z4 : (xo4 s.heap a b).objs.size = s.heap.objs.size + 4 := by rw [Heap.size_push,z3]
 have o5 : (xo5 s.heap a b).get? (xo4 s.heap a b).objs.size = some _ := Heap.get?_push_size _ rfl
 have o4 : (xo5 s.heap a b).get? (xo3 s.heap a b).objs.size = some _ := Heap.get?_push_of_some _ (Heap.get?_push_size _ rfl)
 have o3 : (xo5 s.heap a b).get? (xo2 s.heap a b).objs.size = some _ := Heap.get?_push_of_some _ (Heap.get?_push_of_some _ (Heap.get?_push_size _ rfl))
 have o2 : (xo5 s.heap a b).get? (xo1 s.heap a).objs.size = some _ := Heap.get?_push_of_some _ (Heap.get?_push_of_some _ (Heap.get?_push_of_some _ (Heap.get?_push_size _ rfl)))
 have o1 : (xo5 s.heap a b).get? s.heap.objs.size = some _ := Heap.get?_push_of_some _ (Heap.get?_push_of_some _ (Heap.get?_push_of_some _ (Heap.get?_push_of_some _ (Heap.get?_push_size _ rfl))))
 rw [z2,z3,z4] at o5
 rw [z1,z2] at o3
 rw [z3] at o4
 rw [z1] at o2
 show _ /\ _
 rw [z4]
 exact ⟨⟨_,o5,rfl⟩,q _ ⟨o5,o3,⟨_,_,o4⟩,⟨_,o1,rfl,rfl⟩,⟨_,o2,rfl,rfl⟩⟩ fun c o x => Heap.get?_push_of_some _ (Heap.get?_push_of_some _ (Heap.get?_push_of_some _ (Heap.get?_push_of_some _ (Heap.get?_push_of_some _ x))))⟩
def iZip3 (K : PySem.W.Frag) (ta : TA) : TI := fun σ H R => ta σ H fun vs H1 => ∃ a b,vs = [.ref a,.ref b] /\ (∃ xs,SqL K H1 a xs) /\ (∃ ys,SqL K H1 b ys) /\ R (Itz3 K a b) H1
theorem pi_zip3 {X : Cx} {es : List Expr} {k1 : Nat} {p1 : Pos} {e1 e2 : Expr} {ta : TA} {p pos : Pos} (hg : Gl X "zip") (hm : X.mg "zip" = none) (ha : PA X [e1,e2] ta) (hs : starEach [e1,e2] X.env = [(false,eval e1 X.env),(false,eval e2 X.env)] := by rfl) (hs2 : starEach [e2] X.env = [(false,eval e2 X.env)] := by rfl) :
  PI X (.Tuple es k1 p1) (.Call (.Name "zip" p) [e1,e2] [] pos) (iZip3 X.K ta) := by
 intro pins s σ H R I h
 refine Call_ (ld_blt I hg hm bt_zip (PyProof.Rows.callWith_type1 (thn (ha pos pins s σ H _ I h) fun us s1 ⟨vs,H1,I1,r1,q1⟩ => ?_) (by rw [hs,hs2]) (by rw [hs2]; rfl)))
 obtain ⟨a,b,rfl,⟨xs,hx⟩,⟨ys,hy⟩,q⟩ := q1
 cases r1 with
 | cons r rr =>
  cases rr with
  | cons r' rr =>
   cases rr
   cases r
   cases r'
   obtain ⟨its,_,tx,_⟩ := I1.list hx
   obtain ⟨its',_,ty,_⟩ := I1.list hy
   have la : a < s1.heap.objs.size := by obtain ⟨o,e,_⟩ := isList_of tx; exact Heap.lt_size e
   have lb : b < s1.heap.objs.size := by obtain ⟨o,e,_⟩ := isList_of ty; exact Heap.lt_size e
   refine call_zipLL (isList_of tx) (isList_of ty) fun g st kp => wpAny_pyIter_zip st.1 ?_
   have I2 : Inv X pins σ H1 { s1 with heap := g } := I1.kept (t' := s1.toks) kp
   refine ⟨s1.heap.objs.size + 4,_,_,_,H1,rfl,I2,turn_zip3 la lb,st,fun c hc => ?_,q⟩
   refine I1.fpOk ?_ (I1.hok.fresh ?_)
   all_goals
    have hc' : c = s1.heap.objs.size + 4 \/ c = s1.heap.objs.size + 2 \/ c = s1.heap.objs.size + 3 \/ c = s1.heap.objs.size \/ c = s1.heap.objs.size + 1 := by simpa using hc
    rcases hc' with e | e | e | e | e <;> (subst e; omega)
theorem for_zip3 {K : PySem.W.Frag} {a b : Addr} {xs ys : List V} {g : TG} {tb : TS} {D : Ends} {σ : St} {H : Hp} (Pv : Nat -> St -> Hp -> Prop) (h0 : Pv 0 σ H) (hl : ∀ i σ H,i <= xs.length -> Pv i σ H -> SqL K H a xs /\ SqL K H b ys) (hn : xs.length = ys.length)
  (hs : ∀ i x y T σ H,xs[i]? = some x -> ys[i]? = some y -> H T = none -> Pv i σ H -> g (.ref T) σ (upd H T (.tup [x,y])) fun σ2 H2 => tb { D with nx := Pv (i + 1),ct := Pv (i + 1),bk := D.nx } σ2 H2) (hd : ∀ σ H,Pv xs.length σ H -> D.nx σ H) :
  ∃ W : Nat -> Nat -> St -> Hp -> Prop,(∃ m,W 0 m σ H) /\ ∀ i m σ H,W i m σ H ->
   ((Itz3 K a b).stop i H /\ D.nx σ H) \/ ((Itz3 K a b).go i H /\ ∃ N : St -> Hp -> Prop,(∀ σ' H',N σ' H' -> ∃ m',m' < m /\ W (i + 1) m' σ' H') /\ ∀ v H',(Itz3 K a b).yld i H v H' -> g v σ H' fun σ2 H2 => tb { D with nx := N,ct := N,bk := D.nx } σ2 H2) := by
 refine ⟨fun i m σ H => m = xs.length - i /\ i <= xs.length /\ Pv i σ H,⟨xs.length,by simp,Nat.zero_le _,h0⟩,?_⟩
 rintro i m σ H ⟨rfl,hi,p⟩
 obtain ⟨q1,q2⟩ := hl i σ H hi p
 by_cases hlt : i < xs.length
 ·refine .inr ⟨⟨xs,ys,q1,q2,hlt,by omega⟩,Pv (i + 1),fun σ' H' p' => ⟨xs.length - (i + 1),by omega,rfl,hlt,p'⟩,fun v H' y => ?_⟩
  obtain ⟨T,hT,rfl,y⟩ := y
  obtain ⟨x',y',e1,e2,rfl⟩ := y xs ys q1 q2
  exact hs i x' y' T σ H e1 e2 hT p
 ·have e : i = xs.length := by omega
  subst e
  exact .inl ⟨⟨xs,ys,q1,q2,.inl rfl⟩,hd σ H p⟩
end L2
namespace HT
open PySem PySem.Spec PyProof.Rows
open AutoSeq1 (wpAny_loadPart')
section
variable {prog : Program} {w : World} {A : Around} {E : Value -> Shared -> Prop} {s : Shared}
end
end HT
namespace L2
open PySem PySem.Spec PyProof.Rows
def IteT (K : PySem.W.Frag) (b : Addr) : It :=
  ⟨fun i H => ∃ ys,SqT K H b ys /\ i < ys.length,
   fun i H v H' => ∃ T,H T = none /\ v = .ref T /\ ∀ ys,SqT K H b ys -> ∃ y,ys[i]? = some y /\ H' = upd H T (.tup [.int i,y]),
   fun i H => ∃ ys,SqT K H b ys /\ i = ys.length⟩
def EnuStT (n b : Nat) (i : Nat) (h : Heap) : Prop := (∃ old,IsEnum h (n + 1) n (i : Int) old) /\ h.IsTupleIter n b i
def iEnuT (K : PySem.W.Frag) (ta : TA) : TI := fun σ H R => ta σ H fun vs H1 => ∃ b,vs = [.ref b] /\ (∃ ys,SqT K H1 b ys) /\ R (IteT K b) H1
end L2
namespace K11
open PySem PySem.Spec PyProof.Rows L2 GM TM BQ TR
def RcV (H : Hp) (v : V) (p : Str × List Rw) : Prop := ∃ z q us,v = .ref z /\ H z = some (.tup [.str p.1,.ref q]) /\ H q = some (.tup us) /\ L2R (RowV H) us p.2
theorem RcV.keep {H H' : Hp} {v : V} {p : Str × List Rw} (k : Tk H H') (h : RcV H v p) : RcV H' v p := by
 obtain ⟨z,q,us,e,a,b,c⟩ := h
 exact ⟨z,q,us,e,k _ _ a,k _ _ b,c.imp fun _ _ x => x.keep k⟩
def Tg (ws rs : List Str) (t : Int) (j : Nat) (y : Str) : Prop := y ∈ ws \/ ∃ k,rs[k]? = some y /\ Lw t j k
structure RsOk (ws rs : List Str) (t : Int) (j : Nat) (rr : List Rw) (l : BQ.Q) : Prop where
 ok : RsL rr l
 ln : rr.length <= 6
 tg : ∀ r ∈ rr,∀ y ∈ thg r,Tg ws rs t j y
structure RW (H : Hp) (R Lz : Addr) (as ms : List Addr) (ls : List BQ.Q) (ws rs : List Str) (t : Int) : Prop where
 hd : H R = some (.lst (as.map V.ref))
 hl : H Lz = some (.lst (ms.map V.ref))
 ml : ms.length = as.length
 ll : ls.length = as.length
 at' : ∀ (j : Nat) a,as[j]? = some a -> ∃ us rr l,ls[j]? = some l /\ H a = some (.lst us) /\ L2R (RowV H) us rr /\ RsOk ws rs t j rr l
 am : ∀ (j : Nat) m l,ms[j]? = some m -> ls[j]? = some l -> AmV H m l
structure RcW (ws rs : List Str) (t : Int) (rc : List (Str × List Rw)) : Prop where
 nm : rc.map (·.1) = rs
 rw : ∀ (j : Nat) p,rc[j]? = some p -> 1 <= p.2.length /\ ∃ l,RsOk ws rs t j p.2 l
theorem RW.keep {H H' : Hp} {R Lz : Addr} {as ms : List Addr} {ls : List BQ.Q} {ws rs : List Str} {t : Int} (s : Same H H') (h : RW H R Lz as ms ls ws rs t) : RW H' R Lz as ms ls ws rs t :=
 ⟨s _ _ h.hd,s _ _ h.hl,h.ml,h.ll,fun j a ha => by
  obtain ⟨us,rr,l,e0,e,l',o⟩ := h.at' j a ha
  exact ⟨us,rr,l,e0,s _ _ e,l'.imp fun _ _ x => x.keep s.tk,o⟩,fun j m l a b => s _ _ (h.am j m l a b)⟩
theorem RsOk.nil {ws rs : List Str} {t : Int} {j : Nat} : RsOk ws rs t j [] (0,1) := ⟨.nil,Nat.zero_le _,(fun r h => nomatch h)⟩
theorem RsOk.snoc {ws rs : List Str} {t : Int} {j : Nat} {rr : List Rw} {l : BQ.Q} {r : Rw} (h : RsOk ws rs t j rr l) (ok : ROL l r) (n : rr.length < 6) (tg : ∀ y ∈ thg r,Tg ws rs t j y) : RsOk ws rs t j (rr ++ [r]) (bhd l r) := by
 refine ⟨h.ok.snoc ok,by rw [List.length_append]; show rr.length + 1 <= 6; omega,fun r' hr => ?_⟩
 rcases List.mem_append.mp hr with h' | h'
 ·exact h.tg r' h'
 ·rw [List.mem_singleton.mp h']; exact tg
theorem nd_ne {as : List Addr} {i j : Nat} {a b : Addr} (nd : as.Nodup) (e : i ≠ j) (hb : as[i]? = some b) (ha : as[j]? = some a) : b ≠ a := fun z => by
 subst z
 have hi := (List.getElem?_eq_some_iff.mp hb).1
 have hj := (List.getElem?_eq_some_iff.mp ha).1
 have q := List.pairwise_iff_getElem.mp nd
 have eq : as[i] = as[j] := by rw [(List.getElem?_eq_some_iff.mp hb).2,(List.getElem?_eq_some_iff.mp ha).2]
 rcases Nat.lt_or_gt_of_ne e with lt | lt
 ·exact q i j hi hj lt eq
 ·exact q j i hj hi lt eq.symm
theorem RW.put {H H9 : Hp} {R Lz : Addr} {as ms : List Addr} {ls : List BQ.Q} {ws rs : List Str} {t : Int} {j : Nat} {a p : Addr} {us : List V} {rr : List Rw} {l : BQ.Q} {v : V} {r : Rw} (h : RW H R Lz as ms ls ws rs t) (ha : as[j]? = some a) (aR : a ≠ R) (aL : ∀ b ∈ as,b ≠ Lz) (RL : R ≠ Lz) (nd : as.Nodup) (hA : H a = some (.lst us)) (hu : L2R (RowV H) us rr) (hv : RowV H v r) (ok : RsOk ws rs t j (rr ++ [r]) l)
  (s9 : Same (upd H a (.lst (us ++ [v]))) H9) (hp : AmV H9 p l) : RW (upd H9 Lz (.lst ((ms.map V.ref).set j (.ref p)))) R Lz as (ms.set j p) (ls.set j l) ws rs t := by
 have tk1 : Tk H (upd H a (.lst (us ++ [v]))) := Tk.lst hA
 have ne9 : ∀ b o,b ≠ a -> H b = some o -> H9 b = some o := fun b o nb hb => s9 _ _ (by rw [upd_ne nb]; exact hb)
 have hL9 : H9 Lz = some (.lst (ms.map V.ref)) := ne9 _ _ (Ne.symm (aL a (List.mem_of_getElem? ha))) h.hl
 have tk3 : Tk H9 (upd H9 Lz (.lst ((ms.map V.ref).set j (.ref p)))) := Tk.lst hL9
 have tk := (tk1.trans s9.tk).trans tk3
 have jl : j < as.length := (List.getElem?_eq_some_iff.mp ha).1
 refine ⟨by rw [upd_ne RL]; exact ne9 _ _ (Ne.symm aR) h.hd,by rw [upd_same,List.map_set],by rw [List.length_set]; exact h.ml,by rw [List.length_set]; exact h.ll,fun i b hb => ?_,fun i m l' hm hl => ?_⟩
 ·by_cases e : i = j
  ·subst e
   rw [ha] at hb
   cases hb
   exact ⟨us ++ [v],rr ++ [r],l,by rw [List.getElem?_set_self (by rw [h.ll]; exact jl)],by rw [upd_ne (aL a (List.mem_of_getElem? ha))]; exact s9 _ _ upd_same,(hu.imp fun _ _ x => x.keep tk).snoc (hv.keep tk),ok⟩
  ·obtain ⟨us',rr',l',e0,e',lr,o⟩ := h.at' i b hb
   exact ⟨us',rr',l',by rw [List.getElem?_set_ne (Ne.symm e)]; exact e0,by rw [upd_ne (aL b (List.mem_of_getElem? hb))]; exact ne9 _ _ (nd_ne nd e hb ha) e',lr.imp fun _ _ x => x.keep tk,o⟩
 ·by_cases e : i = j
  ·subst e
   rw [List.getElem?_set_self (by rw [h.ml]; exact jl)] at hm
   rw [List.getElem?_set_self (by rw [h.ll]; exact jl)] at hl
   cases hm; cases hl
   exact tk3 _ _ hp
  ·rw [List.getElem?_set_ne (Ne.symm e)] at hm hl
   exact tk _ _ (h.am i m l' hm hl)
theorem ixN_nat {n j : Nat} (h : j < n) : ixN n (j : Int) = some j := by
 unfold ixN
 rw [if_pos (by omega),if_pos (by omega),Int.toNat_natCast]
theorem smr11 : SmR (1,1) := ⟨⟨by decide,by decide,by decide⟩,by decide,by decide,by decide⟩
def spLrecs (K : PySem.W.Frag) : Sp := fun vs H Q _ => ∃ (sc wa ra pl : Addr) (ns : List Int) (ws rs : List Str) (t : Int) (ps : List Int),vs = [.ref sc,.ref wa,.ref ra,.int t,.ref pl] /\ SqL K H sc (ns.map V.int) /\ H wa = some (.lst (ws.map V.str)) /\ H ra = some (.lst (rs.map V.str)) /\ H pl = some (.lst (ps.map V.int)) /\ 1 <= ws.length /\ ws.length <= 12 /\ rs.length <= 12 /\ (∀ x ∈ ps,0 <= x /\ x <= 63) /\
 ∀ f us rc H',Same H H' -> H' f = some (.tup us) -> L2R (RcV H') us rc -> RcW ws rs t rc -> Q (.ref f) H'
section
variable {P : Program} {w : World} {K : PySem.W.Frag} {mg : Str -> Option Value} {base : Heap}
theorem ndNm : (["_law_name"] : List Str).Nodup := by decide +kernel
theorem scLrecs : FnScope ["_law_script","_law_wares","_law_recipes_here","_law_turn","_law_places","_law_rows","_law_lies","_law_at","_law_left_here","_law_j","_law_allowed","_law_row_here","_law_found","_law_name","_law_some"] ["_law_script","_law_wares","_law_recipes_here","_law_turn","_law_places"] (defScope sLrecs) := ⟨rfl,rfl,rfl,by decide +kernel,rfl,by decide +kernel,by decide +kernel⟩
theorem ok_lrecs {f : Addr} {fd : FuncData} (F : Fun K "_law_recipes" "_law_recipes" sLrecs f fd) (T : Txt mg) (cL : Cal P w K mg base CX0 5 "_law_left" ["_law_script","_law_k"] (spLeft K)) (cN : Cal P w K mg base CX0 5 "_law_next" ["_law_left_here","_law_many"] spNext) (cW : Cal P w K mg base CX0 5 "_law_lower" ["_law_recipes_here","_law_j","_law_turn"] spLower) (cO : Cal P w K mg base CX0 5 "_law_row" ["_law_left_here","_law_allowed","_law_lies"] spLrow) (cB : Cal P w K mg base CX0 5 "_law_behind" ["_law_lies","_law_row_here"] spBehind) : FnOk P w K mg base CX0 6 f fd ["_law_script","_law_wares","_law_recipes_here","_law_turn","_law_places"] (spLrecs K) := by
 refine F.ok scLrecs (fun vs H Q E h => ?_) (fun cdv A outer s H vs Q E hr h => ?_)
 ·obtain ⟨_,_,_,_,_,_,_,_,_,rfl,_⟩ := h
  rfl
 ·obtain ⟨sc,wa,ra,pl,ns,ws,rs,t,ps,rfl,hS,hw,hra,hpl,w1,w8,r8,hps,k⟩ := h
  refine ⟨_,(pss_cons (ps_comp (iy := 5) (N' := ["_law_name"]) (cl := []) (g := L2.gName 0) (fun _ => [none]) rfl rfl (by decide +kernel) (by decide +kernel) (clOk_plain (by decide +kernel)) (fun _ _ => blkN_none)
    (pi_list (pv 2)) (fun _ _ _ _ _ => pg_name (i := 0) ndNm rfl (Or.inl rfl) (Or.inr rfl)) (fun _ _ _ _ _ => pifs_nil) (fun _ _ _ _ _ => pe_lst pa_nil) scLrecs.nd rfl (Or.inl rfl) (Or.inr rfl) rfl)
   (pss_cons (ps_comp (iy := 6) (N' := ["_law_name"]) (cl := []) (g := L2.gName 0) (fun _ => [none]) rfl rfl (by decide +kernel) (by decide +kernel) (clOk_plain (by decide +kernel)) (fun _ _ => blkN_none)
    (pi_list (pv 2)) (fun _ _ _ _ _ => pg_name (i := 0) ndNm rfl (Or.inl rfl) (Or.inr rfl)) (fun _ _ _ _ _ => pifs_nil) (fun _ _ _ _ _ => pe_tup (pa_cons pe_int (pa_cons pe_int pa_nil))) scLrecs.nd rfl (Or.inl rfl) (Or.inr rfl) rfl)
   (pss_cons (ps_for PassesOwn.never rfl (pi_list (pv 4)) (pg_name (i := 7) scLrecs.nd rfl (Or.inl rfl))
    (pss_cons (ps_set (i := 8) scLrecs.nd rfl (Or.inl rfl) (pe_cal cL hr rfl pass0 (pa_cons (pv 0) (pa_cons (pv 7) pa_nil))))
    (pss_cons (ps_set (i := 9) scLrecs.nd rfl (Or.inl rfl) (pe_cal cN hr rfl pass0 (pa_cons (pv 8) (pa_cons (pe_callB (call_max2 rfl) rfl T.max' boot_max (pa_cons pe_int (pa_cons (pe_callB call_len_seq rfl T.len PySem.boot_len (pa_cons (pv 2) pa_nil)) pa_nil))) pa_nil))))
    (pss_one (ps_if (PW.pt (pw_and (pt_cmpR (op_neE hr.units) (pv 2) (pe_lst pa_nil) (nomark _)) (pw_and1 (pt_cmpR op_lt (pe_callB call_len_seq rfl T.len PySem.boot_len (pa_cons (pe_ix ix_list (pv 5) (pv 9) (fun _ _ => rfl)) pa_nil)) pe_int (nomark _)))))
     (pss_cons (ps_set (i := 10) scLrecs.nd rfl (Or.inl rfl) (pe_op op_cat (pv 1) (pe_cal cW hr rfl pass0 (pa_cons (pv 2) (pa_cons (pv 9) (pa_cons (pv 3) pa_nil))))))
     (pss_cons (ps_set (i := 11) scLrecs.nd rfl (Or.inl rfl) (pe_cal cO hr rfl pass0 (pa_cons (pv 8) (pa_cons (pv 10) (pa_cons (pe_ix ix_list (pv 6) (pv 9) (fun _ _ => rfl)) pa_nil)))))
     (pss_cons (ps_expr (pe_bm PySem.F.plainAttrs_list PySem.F.slot_list_append PySem.F.type_list_append mt_append (pe_ix ix_list (pv 5) (pv 9) (fun _ _ => rfl)) (pa_cons (pv 11) pa_nil)))
     (pss_one (ps_asg (pe_cal cB hr rfl pass0 (pa_cons (pe_ix ix_list (pv 6) (pv 9) (fun _ _ => rfl)) (pa_cons (pv 11) pa_nil))) (pg_sub (pv 6) (pv 9) set_list))))))
     pss_nil)))))
   (pss_cons (ps_set (i := 12) scLrecs.nd rfl (Or.inl rfl) (pe_lst pa_nil))
   (pss_cons (ps_for PassesOwn.never rfl (pi_zip3 rfl T.zip' (pa_cons (pv 2) (pa_cons (pv 5) pa_nil))) (pg_tup rfl (pgs_cons (pg_name (i := 13) scLrecs.nd rfl (Or.inl rfl)) (pgs_cons (pg_name (i := 14) scLrecs.nd rfl (Or.inl rfl)) pgs_nil)))
    (pss_one (ps_expr (pe_bm PySem.F.plainAttrs_list PySem.F.slot_list_append PySem.F.type_list_append mt_append (pv 12) (pa_cons (pe_tup (pa_cons (pv 13) (pa_cons (pe_callTy call_tuple_of rfl T.tup' bt_tuple (pa_cons (pe_orT (pv 14) (pe_one (pe_lst (pa_cons (pe_tup (pa_cons pe_str (pa_cons (pe_tup (pa_cons pe_int (pa_cons pe_int pa_nil))) (pa_cons (pe_ix ix_list (pv 1) pe_int (fun _ _ => rfl)) pa_nil)))) pa_nil)))) pa_nil)) pa_nil))) pa_nil)))))
   (pss_one (ps_ret (pe_callTy call_tuple_of rfl T.tup' bt_tuple (pa_cons (pv 12) pa_nil))))))))),?_⟩
  refine ⟨_,rfl,ra,rfl,⟨_,SqL.of hra⟩,fun R nR => ?_⟩
  refine comp_nils (Ys.list (SqL.of hra)) nR (by rw [List.length_map]; omega) (fun i x H' VR hx sm hV => ⟨(Keep.refl _).set rfl,(by show 0 <= sizeLine; decide),fun p hp => hV p hp⟩) (fun as H00 s00 hR00 al nd pr00 => ?_)
  rw [List.length_map] at al
  refine ⟨_,rfl,ra,rfl,⟨_,SqL.of (s00 _ _ hra)⟩,fun Lz nL => ?_⟩
  refine comp_rel (Ys.list (SqL.of (s00 _ _ hra))) (fun i _ y H => ∃ m,y = .ref m /\ AmV H m (0,1)) (fun i x y H H' h k => by obtain ⟨m,e,hm⟩ := h; exact ⟨m,e,k _ _ hm⟩) nL (by rw [List.length_map]; omega) (fun i x H' VR hx sm hV => ⟨(Keep.refl _).set rfl,(by show 2 <= sizeLine; decide),fun p hp => hV _ _ (Same.upd hp) ⟨p,rfl,upd_same⟩⟩) (fun ys H0 s01 hL0 yl hy => ?_)
  rw [List.length_map] at yl
  obtain ⟨ms,rfl,hms⟩ : ∃ ms : List Addr,ys = ms.map V.ref /\ ∀ m ∈ ms,AmV H0 m (0,1) := by
   have all : ∀ y ∈ ys,∃ m,y = .ref m /\ AmV H0 m (0,1) := fun y hy' => by
    obtain ⟨i,hi⟩ := List.getElem?_of_mem hy'
    have il : i < (rs.map V.str).length := by have := (List.getElem?_eq_some_iff.mp hi).1; rw [List.length_map]; omega
    exact hy i _ y (List.getElem?_eq_getElem il) hi
   clear hy hL0 yl
   induction ys with
   | nil => exact ⟨[],rfl,fun m h => nomatch h⟩
   | cons y r ih =>
    obtain ⟨ms,e,h⟩ := ih fun y hy => all y (List.mem_cons_of_mem _ hy)
    obtain ⟨m,rfl,hm⟩ := all y (List.mem_cons_self ..)
    exact ⟨m :: ms,by rw [e]; rfl,fun z hz => by
     rcases List.mem_cons.mp hz with rfl | hz
     ·exact hm
     ·exact h z hz⟩
  rw [List.length_map] at yl
  have s0 := s00.trans s01
  have RL : R ≠ Lz := fun e => by rw [<- e,hR00] at nL; cases nL
  have asR : ∀ a ∈ as,a ≠ R := fun a ha => (pr00 a ha).1
  have asL : ∀ a ∈ as,a ≠ Lz := fun a ha e => by have := (pr00 a ha).2.2; rw [e,nL] at this; cases this
  have asN : ∀ a ∈ as,H a = none := fun a ha => (pr00 a ha).2.1
  have nL0 : H Lz = none := sm_none' s00 nL
  have rw0 : RW H0 R Lz as ms (List.replicate as.length (0,1)) ws rs t := ⟨s01 _ _ hR00,hL0,by omega,List.length_replicate,fun j a ha => ⟨[],[],(0,1),by rw [List.getElem?_replicate,if_pos (List.getElem?_eq_some_iff.mp ha).1],s01 _ _ (pr00 a (List.mem_of_getElem? ha)).2.2,L2R.nil,RsOk.nil⟩,fun j m l hm hl => by
   rw [List.getElem?_replicate] at hl
   split at hl
   ·cases hl; exact hms m (List.mem_of_getElem? hm)
   ·cases hl⟩
  refine ⟨_,rfl,pl,rfl,⟨_,SqL.of (s0 _ _ hpl)⟩,?_⟩
  refine for_listN (xs := ps.map V.int) (fun i σ H' => ∃ (ms : List Addr) (ls : List BQ.Q) (v7 v8 v9 v10 v11 : Option V),σ = [some (.ref sc),some (.ref wa),some (.ref ra),some (.int t),some (.ref pl),some (.ref R),some (.ref Lz),v7,v8,v9,v10,v11,none,none,none] /\ Same H H' /\ RW H' R Lz as ms ls ws rs t) ⟨ms,_,none,none,none,none,none,rfl,s0,rw0⟩ (fun i σ H' _ hh => by obtain ⟨_,_,_,_,_,_,_,_,sm,_⟩ := hh; exact SqL.of (sm _ _ hpl)) ?_ ?_
  ·intro i x σ H1 D' hN hx hh
   obtain ⟨ms,ls,v7,v8,v9,v10,v11,rfl,s1,rw1⟩ := hh
   rw [List.getElem?_map] at hx
   obtain ⟨at0,hat,rfl⟩ := Option.map_eq_some_iff.mp hx
   have hx0 := hps at0 (List.mem_of_getElem? hat)
   refine ⟨_,rfl,_,rfl,sc,ns,_,rfl,s1.seq hS,hx0.1,hx0.2,fun p H2 s2 np lf2 => ?_⟩
   refine ⟨_,rfl,_,rfl,ra,_,rfl,.inl (SqL.of ((s1.trans s2) _ _ hra)),_,_,rfl,p,_,rfl,lf2,by split <;> omega,?_,fun d H3 d0 dl s3 lf3 => ?_⟩
   ·rw [List.length_map]
    split
    ·exact bl9 (bt_of 8 (c := 256) (by omega) (by omega) : Bt 8 ((rs.length : Nat) : Int))
    ·exact b16 (by decide) (by decide)
   rw [List.length_map] at dl
   have s13 : Same H1 H3 := ((SmB.of s2).trans s3).same np
   have s03 := s1.trans s13
   refine ⟨_,rfl,(by show 0 <= sizeLine; decide),fun em nem => ?_⟩
   have sem := Same.upd (o := .lst []) nem
   have lf4 := lf3.keep sem
   have hem : upd H3 em (.lst []) em = some (.lst []) := upd_same
   generalize upd H3 em (.lst []) = H3' at sem lf4 hem ⊢
   have s03' := s03.trans sem
   have s13' := s13.trans sem
   have rw3 := rw1.keep s13'
   refine ⟨ra,em,_,rfl,rfl,SqL.of (s03' _ _ hra),SqL.of hem,_,rfl,ite2 (fun hne => ?_) (fun _ => ?_)⟩
   rotate_left
   ·exact hN _ _ ⟨ms,ls,_,_,_,_,_,rfl,s03',rw3⟩
   have r1 : 1 <= rs.length := by
    cases rs with
    | nil => cases hne
    | cons => exact Nat.succ_le_succ (Nat.zero_le _)
   have dl' : d < (rs.length : Int) := by split at dl <;> omega
   obtain ⟨dn,rfl⟩ := Int.eq_ofNat_of_zero_le d0
   obtain ⟨a,ha⟩ : ∃ a,as[dn]? = some a := ⟨_,List.getElem?_eq_getElem (by omega)⟩
   obtain ⟨us,rr,l,hl,hA,hu,ok⟩ := rw3.at' dn a ha
   have aM := List.mem_of_getElem? ha
   have ul := hu.len
   have hAt : atI (as.map V.ref) (dn : Int) = some (.ref a) := atI_nat (by rw [List.getElem?_map,ha]; rfl)
   refine ⟨_,rfl,_,rfl,R,_,(dn : Int),.ref a,rfl,rfl,SqL.of rw3.hd,hAt,a,_,rfl,.inl (SqL.of hA),_,_,rfl,rfl,_,rfl,ite2 (fun hlt => ?_) (fun _ => ?_)⟩
   rotate_left
   ·exact hN _ _ ⟨ms,ls,_,_,_,_,_,rfl,s03',rw3⟩
   have l5 : us.length < 6 := by
    have : ((us.length : Nat) : Int) < 6 := of_decide_eq_true hlt
    omega
   refine ⟨_,rfl,_,rfl,_,rfl,_,rfl,ra,rs,dn,t,rfl,s03' _ _ hra,by omega,by omega,fun os q H4 s4 nq hq ol ho => ?_⟩
   have s04 := s03'.trans s4
   refine ⟨wa,q,_,_,rfl,rfl,s04 _ _ hw,hq,by rw [List.length_map,List.length_map]; exact sz1000 (by omega),fun al' nal => ?_⟩
   have sal := Same.upd (o := .lst (ws.map V.str ++ os.map V.str)) nal
   have hal : upd H4 al' (.lst (ws.map V.str ++ os.map V.str)) al' = some (.lst ((ws ++ os).map V.str)) := by rw [upd_same,List.map_append]
   have alp : al' ≠ p := fun e => by
    have := lf4.keep s4
    rw [<- e] at this
    obtain ⟨_,_,z,_⟩ := this
    rw [z] at nal
    cases nal
   generalize upd H4 al' (.lst (ws.map V.str ++ os.map V.str)) = H5 at sal hal ⊢
   have s35 := s4.trans sal
   have rw5 := rw3.keep s35
   have lf5 := lf4.keep s35
   obtain ⟨m,hm⟩ : ∃ m,ms[dn]? = some m := ⟨_,List.getElem?_eq_getElem (by have := rw3.ml; omega)⟩
   have hMt : atI (ms.map V.ref) (dn : Int) = some (.ref m) := atI_nat (by rw [List.getElem?_map,hm]; rfl)
   have okl := ok.ok.ok
   have lb1 : Bt 400 l.1 := okl.2.1.mono (by have := ok.ln; omega)
   have lb2 : Bt 400 l.2 := okl.2.2.1.mono (by have := ok.ln; omega)
   refine ⟨_,rfl,_,rfl,_,rfl,_,rfl,Lz,_,(dn : Int),.ref m,rfl,rfl,SqL.of rw5.hl,hMt,p,al',m,ws ++ os,l,rfl,lf5,⟨hal,by rw [List.length_append]; omega,by rw [List.length_append]; omega⟩,alp,rw5.am dn m l hm hl,okl.1,lb1,lb2,fun rw' r H7 rok rin s7 lf7 hrow => ?_⟩
   have s17 : Same H1 H7 := ((SmB.of s2).trans (s3.trans ((SmB.of (sem.trans s35)).trans s7))).same np
   have rw7 := rw1.keep s17
   have pa : a ≠ p := fun e => by
    obtain ⟨_,_,_,_,z,_⟩ := rw1.at' dn a ha
    rw [e,np] at z
    cases z
   have A7 := s7 _ _ pa (s35 _ _ hA)
   have tk7 := s35.tk.trans (lf_tk s7 lf5)
   refine ⟨_,rfl,_,rfl,R,_,(dn : Int),.ref a,rfl,rfl,SqL.of rw7.hd,hAt,.inl ⟨rfl,_,SqL.of A7⟩,_,rfl,a,_,_,rfl,rfl,A7,small1000 (by omega),?_⟩
   have tkA : Tk H7 (upd H7 a (.lst (us ++ [.ref rw']))) := Tk.lst A7
   have hL8 : upd H7 a (.lst (us ++ [.ref rw'])) Lz = some (.lst (ms.map V.ref)) := by rw [upd_ne (Ne.symm (asL a aM))]; exact rw7.hl
   refine ⟨_,rfl,_,rfl,Lz,_,(dn : Int),.ref m,rfl,rfl,SqL.of hL8,hMt,_,rfl,m,.ref rw',l,r,rfl,tkA _ _ (rw7.am dn m l hm hl),okl.1,lb1,lb2,hrow.keep tkA,rok,fun g H9 s9 hg => ?_⟩
   have hL9 := s9 _ _ hL8
   refine ⟨_,rfl,_,rfl,Lz,_,(dn : Int),dn,rfl,rfl,hL9,?_,hN _ _ ⟨ms.set dn g,ls.set dn (bhd l r),_,_,_,_,_,rfl,?_,?_⟩⟩
   ·rw [List.length_map]
    exact ixN_nat (by have := rw3.ml; omega)
   ·exact sm_own' ((sm_own' (s1.trans s17) (asN a aM)).trans s9) nL0
   ·exact rw7.put ha (asR a aM) asL RL nd A7 (hu.imp fun _ _ x => RowV.keep tk7 x) hrow (ok.snoc rok (by omega) fun y hy => by
     rcases List.mem_append.mp (rin y hy) with h | h
     ·exact .inl h
     ·exact .inr (ho y h)) s9 hg
  ·intro σ H1 hh
   obtain ⟨ms,ls,v7,v8,v9,v10,v11,rfl,s1,rw1⟩ := hh
   refine ⟨(by show 0 <= sizeLine; decide),fun Fd nF => ?_⟩
   have sF := Same.upd (o := .lst []) nF
   have s2 := s1.trans sF
   have nF0 := sm_none' s1 nF
   have rw2 := rw1.keep sF
   refine ⟨_,rfl,_,rfl,ra,R,rfl,⟨_,SqL.of (s2 _ _ hra)⟩,⟨_,SqL.of rw2.hd⟩,?_⟩
   refine for_zip3 (xs := rs.map V.str) (ys := as.map V.ref) (fun i σ H' => ∃ (v13 v14 : Option V) (vs : List V) (rc : List (Str × List Rw)),σ = [some (.ref sc),some (.ref wa),some (.ref ra),some (.int t),some (.ref pl),some (.ref R),some (.ref Lz),v7,v8,v9,v10,v11,some (.ref Fd),v13,v14] /\ Same H H' /\ Same H1 H' /\ H' Fd = some (.lst vs) /\ L2R (RcV H') vs rc /\ rc.map (·.1) = rs.take i /\ ∀ (j : Nat) p,rc[j]? = some p -> 1 <= p.2.length /\ ∃ l,RsOk ws rs t j p.2 l) ⟨none,none,[],[],rfl,s2,sF,upd_same,L2R.nil,rfl,fun j p h => by simp at h⟩ (fun i σ H' _ hh => by obtain ⟨_,_,_,_,_,sm,sm1,_⟩ := hh; exact ⟨SqL.of (sm _ _ hra),SqL.of (sm1 _ _ rw1.hd)⟩) (by rw [List.length_map,List.length_map,al]) ?_ ?_
   ·intro i x y T' σ H3 hx' hy' nT hh
    obtain ⟨v13,v14,vs,rc,rfl,s3,s13,hF3,hu3,nm3,ok3⟩ := hh
    rw [List.getElem?_map] at hx' hy'
    obtain ⟨x,hx,rfl⟩ := Option.map_eq_some_iff.mp hx'
    obtain ⟨a,ha,rfl⟩ := Option.map_eq_some_iff.mp hy'
    have sT := Same.upd (o := .tup [.str x,.ref a]) nT
    refine ⟨T',_,rfl,SqT.of upd_same,rfl,_,_,rfl,_,_,rfl,rfl,?_⟩
    generalize upd H3 T' (.tup [.str x,.ref a]) = H4 at sT ⊢
    have s4 := s3.trans sT
    have hF4 := sT _ _ hF3
    have rw4 := (rw1.keep s13).keep sT
    obtain ⟨us,rr,l,hl,hA,hu,ok⟩ := rw4.at' i a ha
    have xi : i < rs.length := (List.getElem?_eq_some_iff.mp hx).1
    have rl : rc.length = i := by
     have := congrArg List.length nm3
     rw [List.length_map,List.length_take] at this
     omega
    have fin : ∀ (q : Addr) (us' : List V) (rr' : List Rw) (l' : BQ.Q) (H5 : Hp),Same H4 H5 -> H5 q = some (.tup us') -> L2R (RowV H5) us' rr' -> RsOk ws rs t i rr' l' -> 1 <= rr'.length -> ∀ (z : Addr),H5 z = none ->
      ∃ (v13 v14 : Option V) (vs' : List V) (rc' : List (Str × List Rw)),[some (.ref sc),some (.ref wa),some (.ref ra),some (.int t),some (.ref pl),some (.ref R),some (.ref Lz),v7,v8,v9,v10,v11,some (.ref Fd),some (V.str x),some (.ref a)] = [some (.ref sc),some (.ref wa),some (.ref ra),some (.int t),some (.ref pl),some (.ref R),some (.ref Lz),v7,v8,v9,v10,v11,some (.ref Fd),v13,v14] /\ Same H (upd (upd H5 z (.tup [.str x,.ref q])) Fd (.lst (vs ++ [.ref z]))) /\ Same H1 (upd (upd H5 z (.tup [.str x,.ref q])) Fd (.lst (vs ++ [.ref z]))) /\ (upd (upd H5 z (.tup [.str x,.ref q])) Fd (.lst (vs ++ [.ref z]))) Fd = some (.lst vs') /\ L2R (RcV (upd (upd H5 z (.tup [.str x,.ref q])) Fd (.lst (vs ++ [.ref z])))) vs' rc' /\ rc'.map (·.1) = rs.take (i + 1) /\ ∀ (j : Nat) p,rc'[j]? = some p -> 1 <= p.2.length /\ ∃ l,RsOk ws rs t j p.2 l := by
     intro q us' rr' l' H5 s5 hq hu5 ok5 l5 z nz
     have sz := Same.upd (o := .tup [.str x,.ref q]) nz
     have hF5 := sz _ _ (s5 _ _ hF4)
     have tk : Tk (upd H5 z (.tup [.str x,.ref q])) (upd (upd H5 z (.tup [.str x,.ref q])) Fd (.lst (vs ++ [.ref z]))) := Tk.lst hF5
     refine ⟨_,_,vs ++ [.ref z],rc ++ [(x,rr')],rfl,sm_own' (s4.trans (s5.trans sz)) nF0,sm_own' (s13.trans (sT.trans (s5.trans sz))) nF,upd_same,(hu3.imp fun _ _ x => RcV.keep (((sT.trans s5).trans sz).tk.trans tk) x).snoc ⟨z,q,us',rfl,tk _ _ upd_same,tk _ _ (sz _ _ hq),hu5.imp fun _ _ x => RowV.keep (sz.tk.trans tk) x⟩,?_,fun j p hp => ?_⟩
     ·rw [List.map_append,nm3,List.take_add_one,hx]; rfl
     ·rcases snoc_get hp with ⟨_,h⟩ | ⟨e,rfl⟩
      ·exact ok3 j p h
      ·rw [e,rl]
       exact ⟨l5,l',ok5⟩
    have vl : vs.length = i := by rw [hu3.len,rl]
    refine ⟨_,rfl,.inl ⟨rfl,_,SqL.of hF4⟩,_,rfl,_,rfl,!us.isEmpty,.inl ⟨us,SqL.of hA,rfl⟩,ite2 (fun hne => ?_) (fun hne => ?_)⟩
    ·refine ⟨a,us,rfl,.inl ⟨SqL.of hA,fun q nq => ⟨(by show 2 <= sizeLine; decide),fun z nz => ?_⟩⟩⟩
     have sq := Same.upd (o := .tup us) nq
     refine ⟨Fd,_,_,rfl,rfl,(Same.upd nz) _ _ (sq _ _ hF4),small1000 (by omega),?_⟩
     refine fin q us rr l _ sq upd_same (hu.imp fun _ _ x => RowV.keep sq.tk x) ok ?_ z nz
     rw [<- hu.len]
     cases us with
     | nil => exact Bool.noConfusion hne
     | cons => exact Nat.succ_le_succ (Nat.zero_le _)
    ·obtain ⟨w0,hw0⟩ : ∃ w0,ws[0]? = some w0 := ⟨_,List.getElem?_eq_getElem (by omega)⟩
     refine ⟨(by show 2 <= sizeLine; decide),fun m nm => ?_⟩
     have sm := Same.upd (o := .tup [.int 1,.int 1]) nm
     refine ⟨_,rfl,wa,_,0,.str w0,rfl,rfl,SqL.of ((s4.trans sm) _ _ hw),?_,(by show 3 <= sizeLine; decide),fun r nr => ?_⟩
     ·exact atI_nat (j := 0) (by rw [List.getElem?_map,hw0]; rfl)
     have sr := Same.upd (o := .tup [.str "take",.ref m,.str w0]) nr
     refine ⟨(by show 1 <= sizeLine; decide),fun o no => ?_⟩
     have so := Same.upd (o := .lst [.ref r]) no
     refine ⟨o,_,rfl,.inl ⟨SqL.of upd_same,fun q nq => ⟨(by show 2 <= sizeLine; decide),fun z nz => ?_⟩⟩⟩
     have sq := Same.upd (o := .tup [.ref r]) nq
     have s45 := (sm.trans sr).trans (so.trans sq)
     refine ⟨Fd,_,_,rfl,rfl,(Same.upd nz) _ _ (s45 _ _ hF4),small1000 (by omega),?_⟩
     refine fin q [.ref r] [.take (1,1) w0] (bhd (0,1) (.take (1,1) w0)) _ s45 upd_same (L2R.one (.take ((so.trans sq) _ _ upd_same) ((sr.trans (so.trans sq)) _ _ upd_same))) ?_ (Nat.le_refl _) z nz
     exact (RsOk.nil (ws := ws) (rs := rs) (t := t) (j := i)).snoc (r := .take (1,1) w0) smr11 (by show 0 < 6; decide) fun y hy => .inl (by rw [List.mem_singleton.mp hy]; exact List.mem_of_getElem? hw0)
   ·intro σ H3 hh
    obtain ⟨v13,v14,vs,rc,rfl,s3,s13,hF3,hu3,nm3,ok3⟩ := hh
    rw [List.length_map,List.take_length] at nm3
    refine ⟨_,rfl,Fd,vs,rfl,.inl ⟨SqL.of hF3,fun q nq => ?_⟩⟩
    have sq := Same.upd (o := .tup vs) nq
    exact k q vs rc _ (s3.trans sq) upd_same (hu3.imp fun _ _ x => RcV.keep sq.tk x) ⟨nm3,ok3⟩
end
end K11
namespace K11
open PySem PySem.Spec PyProof.Rows L2 GM TM BQ TR
structure BkS (ws rs : List Str) (t : Int) (ps : List (Str × Str)) (rc : List (Str × List Rw)) : Prop where
 rw : RcW ws rs t rc
 nd : (ws ++ rs).Nodup
 w1 : 1 <= ws.length
 w12 : ws.length <= 12
 r12 : rs.length <= 12
 wr : ∀ x ∈ ws ++ rs,Wr x
 t0 : 0 <= t
 t3 : t < 3
 p6 : ps.length <= 6
 pw : ∀ p ∈ ps,p.1 ∈ ws /\ p.2 ∈ ws /\ p.1 ≠ p.2
theorem nd_cut {ns : List Str} {i j : Nat} (h : ns.Nodup) (hi : i <= 12) : (ns.take i ++ (ns.drop 12).take j).Nodup := by
 have e : ns.take 12 ++ ns.drop 12 = ns := List.take_append_drop ..
 have a : List.Sublist (ns.take i) (ns.take 12) := by
  have : ns.take i = (ns.take 12).take i := by rw [List.take_take,Nat.min_eq_left hi]
  rw [this]
  exact List.take_sublist ..
 have b : List.Sublist ((ns.drop 12).take j) (ns.drop 12) := List.take_sublist ..
 have c := a.append b
 rw [e] at c
 exact List.Nodup.sublist c h
def spLapart (K : PySem.W.Frag) : Sp := fun vs H Q _ => ∃ (sc wa : Addr) (ns : List Int) (ws : List Str) (n : Int),vs = [.ref sc,.ref wa,.int n] /\ SqL K H sc (ns.map V.int) /\ H wa = some (.lst (ws.map V.str)) /\ 1 <= ws.length /\ ws.length <= 12 /\ 0 <= n /\ n <= 6 /\
 ∀ f us ps H',Same H H' -> H' f = some (.tup us) -> L2R (PairV H') us ps -> ps.length <= 6 -> (∀ p ∈ ps,p.1 ∈ ws /\ p.2 ∈ ws /\ p.1 ≠ p.2) -> Q (.ref f) H'
def spBegun (K : PySem.W.Frag) : Sp := fun vs H Q _ => ∃ (sc : Addr) (ns : List Int),vs = [.ref sc] /\ SqL K H sc (ns.map V.int) /\
 ∀ z c L (nw nr : Nat) (t n : Int) (nms : List Str) H',Same H H' -> H' z = some (.tup [.ref c,.ref L]) -> H' c = some (.tup [.int (nw : Nat),.int (nr : Nat),.int t,.int n]) -> H' L = some (.lst (nms.map V.str)) -> 1 <= nw -> nw <= 12 -> nr <= 12 -> 0 <= t -> t < 3 -> 0 <= n -> n <= 6 -> nms.length = 26 -> nms.Nodup -> (∀ x ∈ nms,Wr x) -> Q (.ref z) H'
def spLbook (K : PySem.W.Frag) : Sp := fun vs H Q _ => ∃ (sc : Addr) (ns : List Int),vs = [.ref sc] /\ SqL K H sc (ns.map V.int) /\
 ∀ v ws rs t ps rc H',Same H H' -> BookV H' v ⟨0,0,ws,ps,rc⟩ -> BkS ws rs t ps rc -> Q v H'
theorem rng_ms {n : Nat} (h : n <= 61) : ∃ ms : List Int,rngV 2 n = ms.map V.int /\ ∀ x ∈ ms,0 <= x /\ x <= 63 := ⟨(List.range n).map fun i => (2 : Int) + (i : Nat),by unfold rngV; rw [List.map_map]; rfl,fun x hx => by
 obtain ⟨i,hi,rfl⟩ := List.mem_map.mp hx
 have := List.mem_range.mp hi
 omega⟩
theorem PairV.keep' {H H' : Hp} {v : V} {p : Str × Str} (k : Tk H H') (h : PairV H v p) : PairV H' v p := by
 obtain ⟨z,e,a⟩ := h
 exact ⟨z,e,k _ _ a⟩
section
variable {P : Program} {w : World} {K : PySem.W.Frag} {mg : Str -> Option Value} {base : Heap}
theorem scLapart : FnScope ["_law_script","_law_wares","_law_many","_law_left_here","_law_pairs","_law_k","_law_one","_law_other"] ["_law_script","_law_wares","_law_many"] (defScope sLapart) := ⟨rfl,rfl,rfl,by decide +kernel,rfl,by decide +kernel,by decide +kernel⟩
theorem ok_lapart {f : Addr} {fd : FuncData} (F : Fun K "_law_apart" "_law_apart" sLapart f fd) (T : Txt mg) (cL : Cal P w K mg base CX0 5 "_law_left" ["_law_script","_law_k"] (spLeft K)) (cN : Cal P w K mg base CX0 5 "_law_next" ["_law_left_here","_law_many"] spNext) : FnOk P w K mg base CX0 6 f fd ["_law_script","_law_wares","_law_many"] (spLapart K) := by
 refine F.ok scLapart (fun vs H Q E h => ?_) (fun cdv A outer s H vs Q E hr h => ?_)
 ·obtain ⟨_,_,_,_,_,rfl,_⟩ := h
  rfl
 ·obtain ⟨sc,wa,ns,ws,n,rfl,hS,hw,w1,w12,n0,n6,k⟩ := h
  refine ⟨_,(pss_cons (ps_set (i := 3) scLapart.nd rfl (Or.inl rfl) (pe_cal cL hr rfl pass0 (pa_cons (pv 0) (pa_cons pe_int pa_nil))))
   (pss_cons (ps_set (i := 4) scLapart.nd rfl (Or.inl rfl) (pe_lst pa_nil))
   (pss_cons (ps_for PassesOwn.never rfl (pi_range1 rfl T.range (pa_cons (pv 2) pa_nil)) (pg_name (i := 5) scLapart.nd rfl (Or.inl rfl))
    (pss_cons (ps_set (i := 6) scLapart.nd rfl (Or.inl rfl) (pe_ix ix_list (pv 1) (pe_cal cN hr rfl pass0 (pa_cons (pv 3) (pa_cons (pe_callB call_len_seq rfl T.len PySem.boot_len (pa_cons (pv 1) pa_nil)) pa_nil))) (fun _ _ => rfl)))
   (pss_cons (ps_set (i := 7) scLapart.nd rfl (Or.inl rfl) (pe_ix ix_list (pv 1) (pe_cal cN hr rfl pass0 (pa_cons (pv 3) (pa_cons (pe_callB call_len_seq rfl T.len PySem.boot_len (pa_cons (pv 1) pa_nil)) pa_nil))) (fun _ _ => rfl)))
   (pss_one (ps_if (pt_cmpR op_ne (pv 6) (pv 7) (nomark _))
    (pss_one (ps_expr (pe_bm PySem.F.plainAttrs_list PySem.F.slot_list_append PySem.F.type_list_append mt_append (pv 4) (pa_cons (pe_tup (pa_cons (pv 6) (pa_cons (pv 7) pa_nil))) pa_nil))))
    pss_nil)))))
   (pss_one (ps_ret (pe_callTy call_tuple_of rfl T.tup' bt_tuple (pa_cons (pv 4) pa_nil))))))),?_⟩
  refine ⟨_,rfl,sc,ns,1,rfl,hS,by decide,by decide,fun p H1 s1 np lf1 => ?_⟩
  refine ⟨(by show 0 <= sizeLine; decide),fun Pl nP => ?_⟩
  have sP := Same.upd (o := .lst []) nP
  have Pp : Pl ≠ p := lf1.there nP
  have nP0 : H Pl = none := sm_none' s1 nP
  refine ⟨_,rfl,n,rfl,by omega,by omega,?_⟩
  refine for_rangeN (fun i σ H' => ∃ (us : List V) (ps : List (Str × Str)) (v5 v6 v7 : Option V),σ = [some (.ref sc),some (.ref wa),some (.int n),some (.ref p),some (.ref Pl),v5,v6,v7] /\ Same H H' /\ Lf H' p /\ H' Pl = some (.lst us) /\ L2R (PairV H') us ps /\ ps.length <= i /\ ∀ q ∈ ps,q.1 ∈ ws /\ q.2 ∈ ws /\ q.1 ≠ q.2)
   ⟨[],[],none,none,none,rfl,s1.trans sP,lf1.keep sP,upd_same,L2R.nil,Nat.le_refl _,fun q h => nomatch h⟩ ?_ ?_
  ·intro i σ H2 D' hN hi hh
   obtain ⟨us,ps,v5,v6,v7,rfl,s2,lf2,hP2,hu2,pl,hp⟩ := hh
   have wl : ∀ {m : Int},m = ((ws.length : Nat) : Int) -> 1 <= m /\ Bt 9000 m := fun e => by subst e; exact ⟨by omega,bl9 (bt_of 8 (c := 256) (by omega) (by omega) : Bt 8 ((ws.length : Nat) : Int))⟩
   refine ⟨_,rfl,_,rfl,_,rfl,wa,_,rfl,.inl (SqL.of (s2 _ _ hw)),p,_,rfl,lf2,(wl (by rw [List.length_map])).1,(wl (by rw [List.length_map])).2,fun d1 H3 d10 d1l s3 lf3 => ?_⟩
   rw [List.length_map] at d1l
   obtain ⟨e1,rfl⟩ := Int.eq_ofNat_of_zero_le d10
   obtain ⟨x,hx⟩ : ∃ x,ws[e1]? = some x := ⟨_,List.getElem?_eq_getElem (by omega)⟩
   have s03 : Same H H3 := ((SmB.of s2).trans s3).same np
   refine ⟨wa,_,(e1 : Int),.str x,rfl,rfl,SqL.of (s03 _ _ hw),atI_nat (by rw [List.getElem?_map,hx]; rfl),?_⟩
   refine ⟨_,rfl,_,rfl,_,rfl,wa,_,rfl,.inl (SqL.of (s03 _ _ hw)),p,_,rfl,lf3,(wl (by rw [List.length_map])).1,(wl (by rw [List.length_map])).2,fun d2 H4 d20 d2l s4 lf4 => ?_⟩
   rw [List.length_map] at d2l
   obtain ⟨e2,rfl⟩ := Int.eq_ofNat_of_zero_le d20
   obtain ⟨y,hy⟩ : ∃ y,ws[e2]? = some y := ⟨_,List.getElem?_eq_getElem (by omega)⟩
   have s04 : Same H H4 := ((SmB.of s03).trans s4).same np
   have hP4 := s4 _ _ Pp (s3 _ _ Pp hP2)
   have tk4 := (lf_tk s3 lf2).trans (lf_tk s4 lf3)
   refine ⟨wa,_,(e2 : Int),.str y,rfl,rfl,SqL.of (s04 _ _ hw),atI_nat (by rw [List.getElem?_map,hy]; rfl),?_⟩
   refine ⟨_,rfl,_,rfl,rfl,_,rfl,ite2 (fun hne => ?_) (fun _ => ?_)⟩
   ·have ne : x ≠ y := fun e => by rw [e] at hne; simp at hne
    refine ⟨_,rfl,.inl ⟨rfl,_,SqL.of hP4⟩,_,rfl,_,rfl,(by show 2 <= sizeLine; decide),fun z nz => ?_⟩
    have sz := Same.upd (o := .tup [.str x,.str y]) nz
    have hP5 := sz _ _ hP4
    have ul := hu2.len
    refine ⟨Pl,_,_,rfl,rfl,hP5,small1000 (by omega),hN _ _ ?_⟩
    have tkP : Tk (upd H4 z (.tup [.str x,.str y])) (upd (upd H4 z (.tup [.str x,.str y])) Pl (.lst (us ++ [.ref z]))) := Tk.lst hP5
    refine ⟨us ++ [.ref z],ps ++ [(x,y)],_,_,_,rfl,sm_own' (s04.trans sz) nP0,(lf4.keep sz).own Pp,upd_same,(hu2.imp fun _ _ q => q.keep' (tk4.trans (sz.tk.trans tkP))).snoc ⟨z,rfl,tkP _ _ upd_same⟩,by rw [List.length_append]; show ps.length + 1 <= i + 1; omega,fun q hq => ?_⟩
    rcases List.mem_append.mp hq with h | h
    ·exact hp q h
    ·rw [List.mem_singleton.mp h]
     exact ⟨List.mem_of_getElem? hx,List.mem_of_getElem? hy,ne⟩
   ·exact hN _ _ ⟨us,ps,_,_,_,rfl,s04,lf4,hP4,hu2.imp fun _ _ q => q.keep' tk4,by omega,hp⟩
  ·intro σ H2 hh
   obtain ⟨us,ps,v5,v6,v7,rfl,s2,lf2,hP2,hu2,pl,hp⟩ := hh
   refine ⟨_,rfl,Pl,us,rfl,.inl ⟨SqL.of hP2,fun q nq => ?_⟩⟩
   have sq := Same.upd (o := .tup us) nq
   exact k q us ps _ (s2.trans sq) upd_same (hu2.imp fun _ _ x => x.keep' sq.tk) (by omega) hp
theorem scBegun : FnScope ["_law_script","_law_left_here","_law_wares","_law_recipes_here","_law_turn","_law_pairs"] ["_law_script"] (defScope sBegun) := ⟨rfl,rfl,rfl,by decide +kernel,rfl,by decide +kernel,by decide +kernel⟩
theorem ok_begun {f : Addr} {fd : FuncData} (F : Fun K "_law_begun" "_law_begun" sBegun f fd) (cL : Cal P w K mg base CX0 5 "_law_left" ["_law_script","_law_k"] (spLeft K)) (cN : Cal P w K mg base CX0 5 "_law_next" ["_law_left_here","_law_many"] spNext) (cM : Cal P w K mg base CX0 5 "_law_names" ["_law_left_here","_law_many"] spNames) : FnOk P w K mg base CX0 6 f fd ["_law_script"] (spBegun K) := by
 refine F.ok scBegun (fun vs H Q E h => ?_) (fun cdv A outer s H vs Q E hr h => ?_)
 ·obtain ⟨_,_,rfl,_⟩ := h
  rfl
 ·obtain ⟨sc,ns,rfl,hS,k⟩ := h
  refine ⟨_,(pss_cons (ps_set (i := 1) scBegun.nd rfl (Or.inl rfl) (pe_cal cL hr rfl pass0 (pa_cons (pv 0) (pa_cons pe_int pa_nil))))
   (pss_cons (ps_set (i := 2) scBegun.nd rfl (Or.inl rfl) (pe_op op_add pe_int (pe_cal cN hr rfl pass0 (pa_cons (pv 1) (pa_cons pe_int pa_nil)))))
   (pss_cons (ps_set (i := 3) scBegun.nd rfl (Or.inl rfl) (pe_cal cN hr rfl pass0 (pa_cons (pv 1) (pa_cons pe_int pa_nil))))
   (pss_cons (ps_set (i := 4) scBegun.nd rfl (Or.inl rfl) (pe_cal cN hr rfl pass0 (pa_cons (pv 1) (pa_cons pe_int pa_nil))))
   (pss_cons (ps_set (i := 5) scBegun.nd rfl (Or.inl rfl) (pe_cal cN hr rfl pass0 (pa_cons (pv 1) (pa_cons pe_int pa_nil))))
   (pss_one (ps_ret (pe_tup (pa_cons (pe_tup (pa_cons (pv 2) (pa_cons (pv 3) (pa_cons (pv 4) (pa_cons (pv 5) pa_nil))))) (pa_cons (pe_cal cM hr rfl pass0 (pa_cons (pv 1) (pa_cons pe_int pa_nil))) pa_nil)))))))))),?_⟩
  refine ⟨_,rfl,sc,ns,0,rfl,hS,by decide,by decide,fun p H1 s1 np lf1 => ?_⟩
  refine ⟨_,rfl,p,12,rfl,lf1,by decide,b16 (by decide) (by decide),fun d1 H2 d10 d1l s2 lf2 => ⟨_,_,rfl,rfl,?_⟩⟩
  refine ⟨_,rfl,p,13,rfl,lf2,by decide,b16 (by decide) (by decide),fun d2 H3 d20 d2l s3 lf3 => ?_⟩
  refine ⟨_,rfl,p,3,rfl,lf3,by decide,b16 (by decide) (by decide),fun t H4 t0 t3 s4 lf4 => ?_⟩
  refine ⟨_,rfl,p,7,rfl,lf4,by decide,b16 (by decide) (by decide),fun mn H5 m0 m4 s5 lf5 => ?_⟩
  obtain ⟨e1,rfl⟩ := Int.eq_ofNat_of_zero_le d10
  obtain ⟨e2,rfl⟩ := Int.eq_ofNat_of_zero_le d20
  refine ⟨_,rfl,_,rfl,_,rfl,_,rfl,(by show 4 <= sizeLine; decide),fun c nc => ?_⟩
  have sc' := Same.upd (o := .tup [.int (1 + (e1 : Int)),.int (e2 : Nat),.int t,.int mn]) nc
  have cp : c ≠ p := lf5.there nc
  refine ⟨_,rfl,p,26,rfl,lf5.keep sc',by decide,by decide,fun nms L H6 nl nd wr s6 lf6 nL hL => ⟨(by show 2 <= sizeLine; decide),fun z nz => ?_⟩⟩
  have sz := Same.upd (o := .tup [.ref c,.ref L]) nz
  have s16 : Same H H6 := ((SmB.of s1).trans (s2.trans (s3.trans (s4.trans (s5.trans ((SmB.of sc').trans s6)))))).same np
  have ec : (1 + (e1 : Int)) = ((1 + e1 : Nat) : Int) := by omega
  refine k z c L (1 + e1) e2 t mn nms _ (s16.trans sz) upd_same ?_ (sz _ _ hL) (by omega) (by omega) (by omega) t0 t3 m0 (by omega) (by omega) nd wr
  rw [<- ec]
  exact sz _ _ (s6 _ _ cp upd_same)
theorem scLbook : FnScope ["_law_script","_law_many","_law_names_here","_law_wares","_law_recipes_here","_law_places","_law_found"] ["_law_script"] (defScope sLbook) := ⟨rfl,rfl,rfl,by decide +kernel,rfl,by decide +kernel,by decide +kernel⟩
theorem ok_lbook {f : Addr} {fd : FuncData} (F : Fun K "_law_book" "_law_book" sLbook f fd) (T : Txt mg) (cG : Cal P w K mg base CX0 6 "_law_begun" ["_law_script"] (spBegun K)) (cR : Cal P w K mg base CX0 6 "_law_recipes" ["_law_script","_law_wares","_law_recipes_here","_law_turn","_law_places"] (spLrecs K)) (cA : Cal P w K mg base CX0 6 "_law_apart" ["_law_script","_law_wares","_law_many"] (spLapart K)) : FnOk P w K mg base CX0 7 f fd ["_law_script"] (spLbook K) := by
 refine F.ok scLbook (fun vs H Q E h => ?_) (fun cdv A outer s H vs Q E hr h => ?_)
 ·obtain ⟨_,_,rfl,_⟩ := h
  rfl
 ·obtain ⟨sc,ns,rfl,hS,k⟩ := h
  refine ⟨_,(pss_cons (ps_asg (pe_cal cG hr rfl pass0 (pa_cons (pv 0) pa_nil)) (pg_tup rfl (pgs_cons (pg_name (i := 1) scLbook.nd rfl (Or.inl rfl)) (pgs_cons (pg_name (i := 2) scLbook.nd rfl (Or.inl rfl)) pgs_nil))))
   (pss_cons (ps_set (i := 3) scLbook.nd rfl (Or.inl rfl) (pe_slice sl_list (pv 2) po_none (po_some (pit 1 0))))
   (pss_cons (ps_set (i := 4) scLbook.nd rfl (Or.inl rfl) (pe_slice sl_list (pv 2) (po_some pe_int) (po_some (pe_op op_add pe_int (pit 1 1)))))
   (pss_cons (ps_set (i := 5) scLbook.nd rfl (Or.inl rfl) (pe_listRng rfl rfl T.list' rfl T.range (pa_cons pe_int (pa_cons (pe_callB (call_min2 rfl) rfl T.min' boot_min (pa_cons (pe_callB call_len_seq rfl T.len PySem.boot_len (pa_cons (pv 0) pa_nil)) (pa_cons pe_int pa_nil))) pa_nil))))
   (pss_cons (ps_set (i := 6) scLbook.nd rfl (Or.inl rfl) (pe_cal cR hr rfl pass0 (pa_cons (pv 0) (pa_cons (pv 3) (pa_cons (pv 4) (pa_cons (pit 1 2) (pa_cons (pv 5) pa_nil)))))))
   (pss_one (ps_ret (pe_tup (pa_cons (pe_callTy call_tuple_of rfl T.tup' bt_tuple (pa_cons (pv 3) pa_nil)) (pa_cons (pe_cal cA hr rfl pass0 (pa_cons (pv 0) (pa_cons (pv 3) (pa_cons (pit 1 3) pa_nil)))) (pa_cons (pv 6) pa_nil))))))))))),?_⟩
  refine ⟨_,rfl,sc,ns,rfl,hS,fun z c L nw nr t n nms H1 s1 hz hc hL nw1 nw12 nr12 t0 t3 n0 n6 nl nd wr => ?_⟩
  refine ⟨z,_,rfl,SqT.of hz,rfl,_,_,rfl,_,_,rfl,rfl,?_⟩
  have sC : SqT K H1 c [.int (nw : Nat),.int (nr : Nat),.int t,.int n] := SqT.of hc
  refine ⟨_,rfl,c,_,_,rfl,sC,rfl,_,rfl,L,_,rfl,SqL.of hL,fun wl nwl => ?_⟩
  rw [cut_to (by rw [List.length_map]; omega),<- List.map_take]
  have swl := Same.upd (o := .lst ((nms.take nw).map V.str)) nwl
  have hwl : upd H1 wl (.lst ((nms.take nw).map V.str)) wl = some (.lst ((nms.take nw).map V.str)) := upd_same
  generalize upd H1 wl (.lst ((nms.take nw).map V.str)) = H2 at swl hwl ⊢
  refine ⟨_,rfl,_,rfl,c,_,_,rfl,swl.tup sC,rfl,_,_,rfl,rfl,_,rfl,L,_,rfl,SqL.of (swl _ _ hL),fun rl nrl => ?_⟩
  have ec2 : (12 + (nr : Int)) = ((12 + nr : Nat) : Int) := by omega
  rw [ec2,show ((12 : Int)) = ((12 : Nat) : Int) from rfl,cut_at (by rw [List.length_map]; omega) (by omega),<- List.map_drop,<- List.map_take]
  have srl := Same.upd (o := .lst (((nms.drop 12).take (12 + nr - 12)).map V.str)) nrl
  have hrl : upd H2 rl (.lst (((nms.drop 12).take (12 + nr - 12)).map V.str)) rl = some (.lst (((nms.drop 12).take (12 + nr - 12)).map V.str)) := upd_same
  generalize upd H2 rl (.lst (((nms.drop 12).take (12 + nr - 12)).map V.str)) = H3 at srl hrl ⊢
  have s03 := (s1.trans swl).trans srl
  have ndA := nd_cut (i := nw) (j := 12 + nr - 12) nd (by omega)
  have wrA : ∀ x ∈ nms.take nw ++ (nms.drop 12).take (12 + nr - 12),Wr x := fun x hx => by
   rcases List.mem_append.mp hx with h | h
   ·exact wr x (List.mem_of_mem_take h)
   ·exact wr x (List.mem_of_mem_drop (List.mem_of_mem_take h))
  have wlen : (nms.take nw).length = nw := by rw [List.length_take]; omega
  have rlen : ((nms.drop 12).take (12 + nr - 12)).length = nr := by rw [List.length_take,List.length_drop]; omega
  generalize nms.take nw = ws at ndA wrA wlen hwl ⊢
  generalize (nms.drop 12).take (12 + nr - 12) = rs at ndA wrA rlen hrl ⊢
  refine ⟨_,rfl,sc,_,rfl,.inl (s03.seq hS),_,_,rfl,2,_,rfl,⟨by decide,by decide,by split <;> omega,by split <;> omega⟩,by split <;> omega,fun pl npl => ?_⟩
  obtain ⟨ms,ems,hms⟩ : ∃ ms : List Int,rngV 2 ((if (63 : Int) < (((ns.map V.int).length : Nat) : Int) then (63 : Int) else (((ns.map V.int).length : Nat) : Int)) - 2).toNat = ms.map V.int /\ ∀ x ∈ ms,0 <= x /\ x <= 63 := rng_ms (by split <;> omega)
  rw [ems]
  have spl := Same.upd (o := .lst (ms.map V.int)) npl
  have hpl : upd H3 pl (.lst (ms.map V.int)) pl = some (.lst (ms.map V.int)) := upd_same
  generalize upd H3 pl (.lst (ms.map V.int)) = H4 at spl hpl ⊢
  have s04 := s03.trans spl
  have s34 := srl.trans spl
  refine ⟨_,rfl,_,rfl,_,rfl,c,_,_,rfl,s34.tup (swl.tup sC),rfl,_,rfl,sc,wl,rl,pl,ns,ws,rs,t,ms,rfl,s04.seq hS,s34 _ _ hwl,spl _ _ hrl,hpl,by omega,by omega,by omega,hms,fun fo us rc H5 s5 hfo hu rcw => ?_⟩
  have s05 := s04.trans s5
  have hwl5 := (s34.trans s5) _ _ hwl
  refine ⟨_,rfl,wl,_,rfl,.inl ⟨SqL.of hwl5,fun wt nwt => ?_⟩⟩
  have swt := Same.upd (o := .tup (ws.map V.str)) nwt
  have hwt : upd H5 wt (.tup (ws.map V.str)) wt = some (.tup (ws.map V.str)) := upd_same
  generalize upd H5 wt (.tup (ws.map V.str)) = H6 at swt hwt ⊢
  have s56 := s5.trans swt
  refine ⟨_,rfl,_,rfl,c,_,_,rfl,(s34.trans s56).tup (swl.tup sC),rfl,sc,wl,ns,ws,n,rfl,(s05.trans swt).seq hS,swt _ _ hwl5,by omega,by omega,n0,n6,fun ap ups ps H7 s7 hap hpu p6 pw => ?_⟩
  refine ⟨_,rfl,(by show 3 <= sizeLine; decide),fun b nb => ?_⟩
  have sb := Same.upd (o := .tup [.ref wt,.ref ap,.ref fo]) nb
  have tk7 := ((swt.trans s7).trans sb).tk
  exact k (.ref b) ws rs t ps rc _ (((s05.trans swt).trans s7).trans sb) ⟨b,wt,ap,fo,ups,us,rfl,upd_same,(s7.trans sb) _ _ hwt,sb _ _ hap,hpu.imp fun _ _ x => x.keep' sb.tk,((swt.trans s7).trans sb) _ _ hfo,hu.imp fun _ _ x => RcV.keep tk7 x⟩ ⟨rcw,ndA,by omega,by omega,by omega,wrA,t0,t3,p6,pw⟩
end
end K11
namespace K11
open PySem PySem.Spec PyProof.Rows L2 GM TM BQ
theorem take_len {a : BQ.Q} {x : Str} (h : AmN a) (hx : Wr x) : (rowT (.take a x)).length <= 40 := by
 have h1 := amT_len h
 have h2 : (cps x).length <= 8 := by rw [<- lenC]; exact hx.l8
 show (cps ("take " : Str) ++ amT a ++ cps (" of " : Str) ++ cps x).length <= 40
 rw [List.length_append,List.length_append,List.length_append,show (cps ("take " : Str)).length = 5 by decide +kernel,show (cps (" of " : Str)).length = 4 by decide +kernel]
 omega
theorem fill_len {a : BQ.Q} {x : Str} (h : AmN a) (hx : Wr x) : (rowT (.fill a x)).length <= 40 := by
 have h1 := amT_len h
 have h2 : (cps x).length <= 8 := by rw [<- lenC]; exact hx.l8
 show (cps ("fill " : Str) ++ amT a ++ cps (" with " : Str) ++ cps x).length <= 40
 rw [List.length_append,List.length_append,List.length_append,show (cps ("fill " : Str)).length = 5 by decide +kernel,show (cps (" with " : Str)).length = 6 by decide +kernel]
 omega
theorem to_len {n : Int} {x : Str} (h0 : 0 <= n) (h : n < 10000000000) (hx : Wr x) : (rowT (.to n x)).length <= 40 := by
 have h1 := dg_le 10 n.toNat (by decide) (by omega)
 have h2 : (cps x).length <= 8 := by rw [<- lenC]; exact hx.l8
 show (dg n.toNat ++ cps (" to one of " : Str) ++ cps x).length <= 40
 rw [List.length_append,List.length_append,show (cps (" to one of " : Str)).length = 11 by decide +kernel]
 omega
theorem parts_len {a : BQ.Q} {ps : List (Int × Str)} (h : AmN a) (hp : ps.length <= 4) (hx : ∀ p ∈ ps,Wr p.2 /\ 1 <= p.1 /\ p.1 <= 1000) : (rowT (.parts a ps)).length <= 120 := by
 have h1 := amT_len h
 have key : ∀ ps : List (Int × Str),(∀ p ∈ ps,Wr p.2 /\ 1 <= p.1 /\ p.1 <= 1000) -> (ST.jl (cps (", " : Str)) (ps.map shT)).length <= 21 * ps.length := by
  intro ps
  induction ps with
  | nil => intro _; exact Nat.zero_le _
  | cons z r ih =>
   intro h
   obtain ⟨w1,w2,w3⟩ := h z (by simp)
   have l1 := dg_le 10 z.1.toNat (by decide) (by omega)
   have l2 : (cps z.2).length <= 8 := by rw [<- lenC]; exact w1.l8
   have lz : (shT z).length <= 19 := by
    unfold shT
    rw [List.length_append,List.length_cons]
    omega
   cases r with
   | nil => show (shT z).length <= 21 * 1; omega
   | cons z' r =>
    have := ih fun y hy => h y (List.mem_cons_of_mem _ hy)
    show (shT z ++ cps (", " : Str) ++ ST.jl (cps (", " : Str)) ((z' :: r).map shT)).length <= _
    rw [List.length_append,List.length_append,show (cps (", " : Str)).length = 2 by decide +kernel]
    simp only [List.length_cons] at this ⊢
    omega
 have := key ps hx
 show (cps ("parts " : Str) ++ amT a ++ cps (": " : Str) ++ ST.jl (cps (", " : Str)) (ps.map shT)).length <= 120
 rw [List.length_append,List.length_append,List.length_append,show (cps ("parts " : Str)).length = 6 by decide +kernel,show (cps (": " : Str)).length = 2 by decide +kernel]
 omega
theorem recT_len {x : Str} {rows : List Rw} {B n : Nat} (hx : Wr x) (hl : ∀ r ∈ rows,(rowT r).length <= B) (hn : rows.length <= n) : (recT (x,rows)).length <= 17 + n * (B + 2) := by
 have key : ∀ rows : List Rw,(∀ r ∈ rows,(rowT r).length <= B) -> (ST.jl (cps ("; " : Str)) (rows.map rowT)).length <= rows.length * (B + 2) := by
  intro rows
  induction rows with
  | nil => intro _; exact Nat.zero_le _
  | cons z r ih =>
   intro h
   have lz := h z (by simp)
   cases r with
   | nil => show (rowT z).length <= 1 * (B + 2); omega
   | cons z' r =>
    have := ih fun y hy => h y (List.mem_cons_of_mem _ hy)
    show (rowT z ++ cps ("; " : Str) ++ ST.jl (cps ("; " : Str)) ((z' :: r).map rowT)).length <= _
    rw [List.length_append,List.length_append,show (cps ("; " : Str)).length = 2 by decide +kernel]
    have e : (z :: z' :: r).length * (B + 2) = (z' :: r).length * (B + 2) + (B + 2) := by simp [List.length_cons,Nat.succ_mul]
    rw [e]
    omega
 have h1 := key rows hl
 have h2 : (cps x).length <= 8 := by rw [<- lenC]; exact hx.l8
 have h3 : rows.length * (B + 2) <= n * (B + 2) := Nat.mul_le_mul_right _ hn
 show (cps ("recipe " : Str) ++ cps x ++ cps (": " : Str) ++ ST.jl (cps ("; " : Str)) (rows.map rowT)).length <= _
 rw [List.length_append,List.length_append,List.length_append,show (cps ("recipe " : Str)).length = 7 by decide +kernel,show (cps (": " : Str)).length = 2 by decide +kernel]
 omega
theorem lines_len {b : Bs} (h : BkB b) : ∀ l ∈ linesT b,l.length <= 900 := by
 intro l hl
 unfold linesT at hl
 rcases List.mem_append.mp hl with hl | hl
 ·rcases List.mem_append.mp hl with hl | hl
  ·obtain ⟨x,hx,rfl⟩ := List.mem_map.mp hl
   have := h.w.2 x hx
   show (cps ("ware " : Str) ++ cps x).length <= 900
   rw [List.length_append,show (cps ("ware " : Str)).length = 5 by decide +kernel]
   omega
  ·obtain ⟨x,hx,rfl⟩ := List.mem_map.mp hl
   have := h.p.2 x hx
   show (cps ("apart " : Str) ++ cps x.1 ++ cps (" " : Str) ++ cps x.2).length <= 900
   rw [List.length_append,List.length_append,List.length_append,show (cps ("apart " : Str)).length = 6 by decide +kernel,show (cps (" " : Str)).length = 1 by decide +kernel]
   omega
 ·obtain ⟨x,hx,rfl⟩ := List.mem_map.mp hl
  exact (h.r.2 x hx).2.2.2
theorem row_no10 {r : Rw} (g : RwG r) : 10 ∉ rowT r := by
 have sep : ∀ {u v : List Nat},10 ∉ u -> 10 ∉ v -> 10 ∉ u ++ v := fun h k z => (List.mem_append.mp z).elim h k
 cases g with
 | take a x => exact sep (sep (sep (by decide +kernel) (am_no (by omega))) (by decide +kernel)) (x.no (by decide))
 | fill a x => exact sep (sep (sep (by decide +kernel) (am_no (by omega))) (by decide +kernel)) (x.no (by decide))
 | to _ _ x => exact sep (sep (dg_no (by omega)) (by decide +kernel)) (x.no (by decide))
 | @parts a ps am g1 g2 g3 =>
  refine sep (sep (sep (by decide +kernel) (am_no (by omega))) (by decide +kernel)) ?_
  have key : ∀ ps : List (Int × Str),(∀ p ∈ ps,Wr p.2) -> 10 ∉ ST.jl (cps (", " : Str)) (ps.map shT) := by
   intro ps
   induction ps with
   | nil => intro _; simp [ST.jl]
   | cons p r ih =>
    intro h
    have hp : 10 ∉ shT p := sep (dg_no (by omega)) (fun z => by
     rcases List.mem_cons.mp z with z | z
     ·omega
     ·exact (h p (by simp)).no (by decide) z)
    cases r with
    | nil => exact hp
    | cons q r => exact sep (sep hp (by decide +kernel)) (ih fun x hx => h x (List.mem_cons_of_mem _ hx))
  exact key ps fun p hp => (g3 p hp).1
theorem amg_of {a : BQ.Q} (h : SmR a) : AmG a /\ a.1 <= 999999999 /\ a.2 <= 999999999 := by
 obtain ⟨t,et⟩ := Int.eq_ofNat_of_zero_le h.am.t0
 obtain ⟨b,eb⟩ := Int.eq_ofNat_of_zero_le (show 0 <= a.2 by have := h.am.b1; omega)
 have g := h.am.g
 rw [et,eb] at g
 have h1 := h.t1
 have h2 := h.tm
 have h3 := h.bm
 have h4 := h.am.b1
 refine ⟨⟨t,b,Prod.ext et eb,by omega,by omega,?_,by omega,by omega⟩,h2,h3⟩
 unfold G at g
 exact_mod_cast g
theorem rol_ok {l : BQ.Q} {r : Rw} (h : ROL l r) (hw : ∀ y ∈ thg r,Wr y) : RwG r /\ Fit r /\ (rowT r).length <= 120 := by
 cases r with
 | take a x =>
  have g := amg_of h
  have w := hw x (by simp [thg])
  exact ⟨.take g.1 w,.take g.2.1 g.2.2,Nat.le_trans (take_len g.1.n w) (by decide)⟩
 | fill a x =>
  have g := amg_of h.1
  have w := hw x (by simp [thg])
  exact ⟨.fill g.1 w,.fill g.2.1 g.2.2,Nat.le_trans (fill_len g.1.n w) (by decide)⟩
 | to n x =>
  have w := hw x (by simp [thg])
  obtain ⟨h1,h2,_⟩ := h
  exact ⟨.to h1 (by omega) w,.to h2,Nat.le_trans (to_len (by omega) (by omega) w) (by decide)⟩
 | parts a ps =>
  obtain ⟨ha,p1,p4,hn⟩ := h
  have g := amg_of ha
  have w : ∀ p ∈ ps,Wr p.2 /\ 1 <= p.1 /\ p.1 <= 1000 := fun p hp => ⟨hw p.2 (List.mem_map.mpr ⟨p,hp,rfl⟩),hn p hp⟩
  exact ⟨.parts g.1 (fun z => by rw [z] at p1; exact absurd p1 (by decide)) (by omega) w,.parts g.2.1 g.2.2 p4,parts_len g.1.n p4 w⟩
theorem rc_ok {ws rs : List Str} {t : Int} {ps : List (Str × Str)} {rc : List (Str × List Rw)} (h : BkS ws rs t ps rc) : ∀ p ∈ rc,RcG p /\ RcF p /\ (recT p).length <= 800 /\ ∀ r ∈ p.2,RwG r /\ (rowT r).length <= 120 := fun p hp => by
 obtain ⟨j,hj⟩ := List.getElem?_of_mem hp
 obtain ⟨n1,l,ok⟩ := h.rw.rw j p hj
 have wn : Wr p.1 := h.wr p.1 (List.mem_append_right _ (by rw [<- h.rw.nm]; exact List.mem_map.mpr ⟨p,hp,rfl⟩))
 have rows : ∀ r ∈ p.2,RwG r /\ Fit r /\ (rowT r).length <= 120 := fun r hr => by
  obtain ⟨l',hl⟩ := ok.ok.rows r hr
  refine rol_ok hl fun y hy => h.wr y ?_
  rcases ok.tg r hr y hy with z | ⟨k,hk,_⟩
  ·exact List.mem_append_left _ z
  ·exact List.mem_append_right _ (List.mem_of_getElem? hk)
 refine ⟨⟨wn,fun z => by rw [z] at n1; exact absurd n1 (by decide),fun r hr => (rows r hr).1,fun r hr => ?_⟩,⟨ok.ln,fun r hr => (rows r hr).2.1⟩,?_,fun r hr => ⟨(rows r hr).1,(rows r hr).2.2⟩⟩
 ·have := ok.ok.first r hr
  cases r with
  | take a x => exact (by decide +kernel : ("take" : Str) ≠ "to")
  | parts a ps => exact (by decide +kernel : ("parts" : Str) ≠ "to")
  | fill a x => exact (by decide +kernel : ("fill" : Str) ≠ "to")
  | to n x => exact absurd this.2.2 (by decide)
 ·obtain ⟨nm,rows'⟩ := p
  have : (recT (nm,rows')).length <= 17 + 6 * (120 + 2) := recT_len (n := 6) (B := 120) wn (fun r hr => (rows r hr).2.2) ok.ln
  omega
theorem run_ws : ∀ (xs : List Str) (L : List Str) (b : Bs),Run L b -> b.lo = 0 -> b.ws.length + xs.length <= 20 -> (∀ x ∈ xs,Wr x) -> ∃ hi,Run (L ++ xs.map waS) ⟨0,hi,b.ws ++ xs,b.ps,b.rs⟩ /\ (xs ≠ [] \/ b.hi = 2 -> hi = 2)
 | [],L,b,r,lo,_,_ => by
  obtain ⟨l0,h0,w,p,q⟩ := b
  cases lo
  refine ⟨h0,by simpa using r,fun h => ?_⟩
  rcases h with h | h
  ·exact absurd rfl h
  ·exact h
 | x :: xs,L,b,r,lo,ln,hw => by
  have st := step_w (b := b) (hw x (by simp)) lo (by simp at ln; omega)
  obtain ⟨hi,r',e⟩ := run_ws xs (L ++ [waS x]) _ (r.snoc st) rfl (by simp [Bs.add] at ln ⊢; omega) (fun y hy => hw y (List.mem_cons_of_mem _ hy))
  refine ⟨hi,?_,fun _ => e (.inr rfl)⟩
  simpa [Bs.add,List.append_assoc] using r'
theorem run_ps : ∀ (xs : List (Str × Str)) (L : List Str) (b : Bs),Run L b -> b.lo <= 1 -> b.hi = 2 -> b.ps.length + xs.length <= 30 -> (∀ x ∈ xs,Wr x.1 /\ Wr x.2) -> ∃ lo,Run (L ++ xs.map apS) ⟨lo,2,b.ws,b.ps ++ xs,b.rs⟩ /\ lo <= 1
 | [],L,b,r,lo,hi,_,_ => by
  obtain ⟨l0,h0,w,p,q⟩ := b
  cases hi
  exact ⟨l0,by simpa using r,lo⟩
 | x :: xs,L,b,r,lo,hi,ln,hw => by
  have st := step_p (b := b) (hw x (by simp)).1 (hw x (by simp)).2 lo hi (by simp at ln; omega)
  obtain ⟨lo',r',e⟩ := run_ps xs (L ++ [apS x]) _ (r.snoc st) (Nat.le_refl _) rfl (by simp [Bs.add] at ln ⊢; omega) (fun y hy => hw y (List.mem_cons_of_mem _ hy))
  refine ⟨lo',?_,e⟩
  simpa [Bs.add,List.append_assoc] using r'
theorem run_rs : ∀ (xs : List (Str × List Rw)) (L : List Str) (b : Bs),Run L b -> b.lo <= 2 -> b.hi = 2 -> b.rs.length + xs.length <= 12 -> (∀ x ∈ xs,RcG x /\ RcF x) -> ∃ lo,Run (L ++ xs.map recS) ⟨lo,2,b.ws,b.ps,b.rs ++ xs⟩
 | [],L,b,r,lo,hi,_,_ => by
  obtain ⟨l0,h0,w,p,q⟩ := b
  cases hi
  exact ⟨l0,by simpa using r⟩
 | x :: xs,L,b,r,lo,hi,ln,hw => by
  have st := step_r (b := b) (hw x (by simp)).1 (hw x (by simp)).2 lo hi (by simp at ln; omega)
  obtain ⟨lo',r'⟩ := run_rs xs (L ++ [recS x]) _ (r.snoc st) (Nat.le_refl _) rfl (by simp [Bs.add] at ln ⊢; omega) (fun y hy => hw y (List.mem_cons_of_mem _ hy))
  refine ⟨lo',?_⟩
  simpa [Bs.add,List.append_assoc] using r'
theorem run_all {ws : List Str} {ps : List (Str × Str)} {rc : List (Str × List Rw)} (w1 : 1 <= ws.length) (w20 : ws.length <= 20) (p30 : ps.length <= 30) (r12 : rc.length <= 12) (hw : ∀ x ∈ ws,Wr x) (hp : ∀ x ∈ ps,Wr x.1 /\ Wr x.2) (hr : ∀ x ∈ rc,RcG x /\ RcF x) : ∃ lo hi,Run (linesS ⟨0,0,ws,ps,rc⟩) ⟨lo,hi,ws,ps,rc⟩ := by
 obtain ⟨hi,a1,e⟩ := run_ws ws [] B0 .nil rfl (by show 0 + ws.length <= 20; omega) hw
 have e2 := e (.inl fun z => by rw [z] at w1; exact absurd w1 (by decide))
 subst e2
 obtain ⟨lo,a2,l1⟩ := run_ps ps _ _ a1 (Nat.zero_le _) rfl (by show 0 + ps.length <= 30; omega) hp
 obtain ⟨lo',a3⟩ := run_rs rc _ _ a2 (by show lo <= 2; omega) rfl (by show 0 + rc.length <= 12; omega) hr
 exact ⟨lo',2,by simpa [linesS,B0] using a3⟩
theorem BkS.rl {ws rs : List Str} {t : Int} {ps : List (Str × Str)} {rc : List (Str × List Rw)} (h : BkS ws rs t ps rc) : rc.length = rs.length := by
 have := congrArg List.length h.rw.nm
 rwa [List.length_map] at this
theorem w8 {x : Str} (h : Wr x) : (cps x).length <= 8 := by rw [<- lenC]; exact h.l8
theorem bkb_of {ws : List Str} {ps : List (Str × Str)} {rc : List (Str × List Rw)} (w20 : ws.length <= 30) (p30 : ps.length <= 40) (r12 : rc.length <= 20) (hw : ∀ x ∈ ws,Wr x) (hp : ∀ x ∈ ps,Wr x.1 /\ Wr x.2) (hr : ∀ x ∈ rc,RcG x /\ RcF x /\ (recT x).length <= 800 /\ ∀ r ∈ x.2,RwG r /\ (rowT r).length <= 120) : BkB ⟨0,0,ws,ps,rc⟩ :=
 ⟨⟨w20,fun x hx => w8 (hw x hx)⟩,⟨p30,fun x hx => ⟨w8 (hp x hx).1,w8 (hp x hx).2⟩⟩,⟨r12,fun x hx => by
  obtain ⟨a,b,c,d⟩ := hr x hx
  exact ⟨w8 a.w,Nat.le_trans b.1 (by decide),fun r h => ⟨(d r h).1.b,Nat.le_trans (d r h).2 (by decide)⟩,Nat.le_trans c (by decide)⟩⟩⟩
theorem lines_no10 {ws : List Str} {ps : List (Str × Str)} {rc : List (Str × List Rw)} (hw : ∀ x ∈ ws,Wr x) (hp : ∀ x ∈ ps,Wr x.1 /\ Wr x.2) (hr : ∀ x ∈ rc,RcG x) : ∀ l ∈ linesS ⟨0,0,ws,ps,rc⟩,10 ∉ cps l := by
 have sep : ∀ {u v : List Nat},10 ∉ u -> 10 ∉ v -> 10 ∉ u ++ v := fun h k z => (List.mem_append.mp z).elim h k
 intro l hl
 unfold linesS at hl
 rcases List.mem_append.mp hl with hl | hl
 ·rcases List.mem_append.mp hl with hl | hl
  ·obtain ⟨x,hx,rfl⟩ := List.mem_map.mp hl
   show 10 ∉ cps (mkS (waT x))
   rw [cps_mk]
   exact sep (by decide +kernel) ((hw x hx).no (by decide))
  ·obtain ⟨x,hx,rfl⟩ := List.mem_map.mp hl
   show 10 ∉ cps (mkS (apT x))
   rw [cps_mk]
   exact sep (sep (sep (by decide +kernel) ((hp x hx).1.no (by decide))) (by decide +kernel)) ((hp x hx).2.no (by decide))
 ·obtain ⟨x,hx,rfl⟩ := List.mem_map.mp hl
  show 10 ∉ cps (mkS (recT x))
  rw [cps_mk]
  have g := hr x hx
  refine sep (sep (sep (by decide +kernel) (g.w.no (by decide))) (by decide +kernel)) ?_
  have key : ∀ rs : List Rw,(∀ r ∈ rs,RwG r) -> 10 ∉ ST.jl (cps ("; " : Str)) (rs.map rowT) := by
   intro rs
   induction rs with
   | nil => intro _; simp [ST.jl]
   | cons p r ih =>
    intro h
    have hp := row_no10 (h p (by simp))
    cases r with
    | nil => exact hp
    | cons q r => exact sep (sep hp (by decide +kernel)) (ih fun x hx => h x (List.mem_cons_of_mem _ hx))
  exact key x.2 g.g
theorem jn_len {zs : List Str} (h : ∀ z ∈ zs,(cps z).length <= 900) (n : zs.length <= 100) : (jn "\n" zs).length + 2 <= sizeLine := by
 rw [lenC,cps_jn]
 have key : ∀ zs : List Str,(∀ z ∈ zs,(cps z).length <= 900) -> (ST.jl (cps ("\n" : Str)) (zs.map cps)).length <= 901 * zs.length := by
  intro zs
  induction zs with
  | nil => intro _; exact Nat.zero_le _
  | cons z r ih =>
   intro h
   have hz := h z (by simp)
   cases r with
   | nil => show (cps z).length <= 901 * 1; omega
   | cons z' r =>
    have := ih fun y hy => h y (List.mem_cons_of_mem _ hy)
    show (cps z ++ cps ("\n" : Str) ++ ST.jl (cps ("\n" : Str)) ((z' :: r).map cps)).length <= _
    rw [List.length_append,List.length_append,show (cps ("\n" : Str)).length = 1 by decide +kernel]
    simp only [List.length_cons] at this ⊢
    omega
 have := key zs h
 exact Nat.le_trans (show _ <= 901 * 100 + 2 by omega) (by decide)
theorem jn_split {zs : List Str} (ne : zs ≠ []) (h : ∀ z ∈ zs,10 ∉ cps z) : Txt.split (jn "\n" zs) NL = zs := ST.split_parts NLc kNL ne h (cps_jn _ _)
end K11
namespace K11
open PySem PySem.Spec PyProof.Rows L2 GM TM BQ
def PsB (ps : List (Int × Str)) : Prop := ps.length <= 10 /\ ∀ p ∈ ps,0 <= p.1 /\ p.1 < 10000000000 /\ (cps p.2).length <= 8
def spShP : Sp := fun vs H Q _ => ∃ (m q : Addr) (a : BQ.Q) (us : List V) (ps : List (Int × Str)),vs = [.ref m,.ref q] /\ AmV H m a /\ AmN a /\ H q = some (.tup us) /\ L2R (PrV H) us ps /\ PsB ps /\ ∀ (x : Str) H',Same H H' -> cps x = rowT (.parts a ps) -> Q (.str x) H'
def spShRow : Sp := fun vs H Q _ => ∃ (v : V) (r : Rw),vs = [v] /\ RowV H v r /\ RwB r /\ ∀ (x : Str) H',Same H H' -> cps x = rowT r -> Q (.str x) H'
def spShRec : Sp := fun vs H Q _ => ∃ (nm : Str) (q : Addr) (us : List V) (rows : List Rw),vs = [.str nm,.ref q] /\ H q = some (.tup us) /\ L2R (RowV H) us rows /\ (cps nm).length <= 8 /\ rows.length <= 10 /\ (∀ r ∈ rows,RwB r /\ (rowT r).length <= 900) /\ (recT (nm,rows)).length <= 900 /\ ∀ (x : Str) H',Same H H' -> cps x = recT (nm,rows) -> Q (.str x) H'
def spShB : Sp := fun vs H Q _ => ∃ (v : V) (b : Bs),vs = [v] /\ BookV H v b /\ BkB b /\ ∀ (x : Str) H',Same H H' -> cps x = ST.jl (cps NL) (linesT b) -> Q (.str x) H'
theorem lE : Str.empty.length = 0 := rfl
theorem c0' : cps Str.empty = [] := by decide +kernel
theorem shown_nat {K : PySem.W.Frag} {H : Hp} {m : Addr} {a : BQ.Q} (hm : AmV H m a) (hn : AmN a) : ∃ t b : Nat,SqT K H m [.int t,.int b] /\ t < 10 ^ 60 /\ b < 10 ^ 60 /\ ∀ x : Str,cps x = showL t b -> cps x = amT a /\ x.length <= 21 := by
 obtain ⟨t,et⟩ := Int.eq_ofNat_of_zero_le hn.1
 obtain ⟨b,eb⟩ := Int.eq_ofNat_of_zero_le hn.2.2.1
 have h1 := hn.2.1
 have h2 := hn.2.2.2
 refine ⟨t,b,?_,Nat.lt_trans (show t < 10000000000 by omega) (by decide +kernel),Nat.lt_trans (show b < 10000000000 by omega) (by decide +kernel),fun x hx => ?_⟩
 ·have := SqT.of (K := K) hm
  rw [et,eb] at this
  exact this
 ·have e : cps x = amT a := by rw [hx]; unfold amT; rw [et,eb]; rfl
  exact ⟨e,by rw [lenC,e]; exact amT_len hn⟩
theorem jl_len {sep : List Nat} {B n : Nat} (hs : sep.length <= 2) : ∀ zs : List (List Nat),(∀ z ∈ zs,z.length <= B) -> (ST.jl sep zs).length <= (B + 2) * zs.length
 | [],_ => Nat.zero_le _
 | [z],h => by
  have := h z (by simp)
  show z.length <= (B + 2) * 1
  omega
 | z :: z' :: r,h => by
  have hz := h z (by simp)
  have := jl_len (B := B) (n := n) hs (z' :: r) fun y hy => h y (List.mem_cons_of_mem _ hy)
  show (z ++ sep ++ ST.jl sep (z' :: r)).length <= _
  rw [List.length_append,List.length_append]
  have e : (B + 2) * (z :: z' :: r).length = (B + 2) * (z' :: r).length + (B + 2) := by simp [Nat.mul_succ]
  rw [e]
  omega
section
variable {P : Program} {w : World} {K : PySem.W.Frag} {mg : Str -> Option Value} {base : Heap}
theorem ndNT : (["number","thing"] : List Str).Nodup := by decide +kernel
theorem scShP : FnScope ["all_of_it","pairs","many","text"] ["all_of_it","pairs"] (defScope sShP) := ⟨rfl,rfl,rfl,by decide +kernel,rfl,by decide +kernel,by decide +kernel⟩
theorem ok_shp {f : Addr} {fd : FuncData} (F : Fun K "shown_parts" "shown_parts" sShP f fd) (cS : Cal P w K mg base CX0 1 "shown_amount" ["one"] (spShown K)) : FnOk P w K mg base CX0 2 f fd ["all_of_it","pairs"] spShP := by
 refine F.ok scShP (fun vs H Q E h => ?_) (fun cdv A outer s H vs Q E hr h => ?_)
 ·obtain ⟨_,_,_,_,_,rfl,_⟩ := h
  rfl
 ·obtain ⟨m,q,a,us,ps,rfl,hm,hn,hq,l2r,hps,k⟩ := h
  refine ⟨_,(pss_cons (ps_set (i := 2) scShP.nd rfl (Or.inl rfl) (pe_cal cS hr rfl pass0 (pa_cons (pv 0) pa_nil)))
   (pss_cons (ps_set (i := 3) scShP.nd rfl (Or.inl rfl) (pe_bm PySem.F.plainAttrs_str PySem.F.slot_str_join PySem.F.type_str_join mt_join pe_str (pa_cons (pe_comp (N' := ["number","thing"]) (cl := []) (g := gTup K 2 (gCons (L2.gName 0) (gCons (L2.gName 1) gNil))) (fun _ => [none,none]) rfl rfl (by decide +kernel) (by decide +kernel) (clOk_plain (by decide +kernel)) (fun _ _ => blkN_none) (pi_tup (pv 1)) (fun _ _ _ _ _ => pg_tup rfl (pgs_cons (pg_name (i := 0) ndNT rfl (Or.inl rfl) (Or.inr rfl)) (pgs_cons (pg_name (i := 1) ndNT rfl (Or.inl rfl) (Or.inr rfl)) pgs_nil))) (fun _ _ _ _ _ => pifs_nil) (fun _ _ _ _ _ => pe_join (pj_cons (pe_fmt (pv 0)) (pj_cons pe_str (pj_cons (pe_fmt (pv 1)) pj_nil))))) pa_nil)))
   (pss_one (ps_ret (pe_join (pj_cons pe_str (pj_cons (pe_fmt (pv 2)) (pj_cons pe_str (pj_cons (pe_fmt (pv 3)) pj_nil))))))))),?_⟩
  have l1 : ("parts " : Str).length = 6 := by decide +kernel
  have l2 : (": " : Str).length = 2 := by decide +kernel
  have l3 : (" " : Str).length = 1 := by decide +kernel
  obtain ⟨t0,b0,hst,ht0,hb0,hxx⟩ := shown_nat (K := K) hm hn
  refine ⟨_,rfl,m,t0,b0,rfl,hst,ht0,hb0,fun y ey' => ?_⟩
  obtain ⟨ey,ly⟩ := hxx y ey'
  refine ⟨rfl,_,rfl,q,rfl,⟨_,SqT.of hq⟩,fun D hD => ?_⟩
  have sU : SqT K H q us := SqT.of hq
  have ul := l2r.len
  have pl := hps.1
  refine comp_rel (Ys.tup sU) (fun i _ y _ => ∃ pr z,ps[i]? = some pr /\ y = .str z /\ cps z = shT pr) (fun _ _ _ _ _ h _ => h) hD (by omega) (fun i u H' R hu sm hR => ?_) (fun ys H' sm hD' yl hy => ?_)
  ·obtain ⟨pr,hpr,z,rfl,hz⟩ := l2r.get hu
   obtain ⟨n0,n1,hx⟩ := hps.2 pr (List.mem_of_getElem? hpr)
   have ln := lenI n0 n1
   have lx : pr.2.length <= 8 := by rw [lenC]; exact hx
   refine ⟨z,_,rfl,SqT.of (sm _ _ hz),rfl,_,_,rfl,_,_,rfl,rfl,((Keep.refl _).set rfl).set rfl,?_⟩
   refine ⟨_,rfl,_,⟨logI n0 n1,rfl⟩,_,rfl,?_,_,rfl,?_,_,rfl,_,⟨sz1000 (by omega),rfl⟩,_,rfl,?_,?_,hR _ H' (Same.refl _) ⟨pr,_,hpr,rfl,?_⟩⟩
   ·rw [lenA,lE]; exact sz1000 (by omega)
   ·rw [lenA,lenA,lE]; exact sz1000 (by omega)
   ·rw [lenA,lenA,lenA,lE]; exact sz1000 (by omega)
   ·rw [lenA,lenA,lenA,lE]; exact sz1000 (by omega)
   ·simp only [cps_append',cpsI n0,c0']
    unfold shT
    simp [show cps (" " : Str) = [32] by decide +kernel]
  obtain ⟨zs,rfl,ecs⟩ := strs_of shT ys ps (by omega) (fun i y hy' => by
   have hi : i < us.length := by have := (List.getElem?_eq_some_iff.mp hy').1; omega
   exact hy i _ y (List.getElem?_eq_getElem hi) hy')
  have zl : zs.length = ps.length := by simpa using congrArg List.length ecs
  have shl : ∀ p ∈ ps,(shT p).length <= 19 := fun p hp => by
   obtain ⟨n0,n1,hx⟩ := hps.2 p hp
   have := dg_le 10 p.1.toNat (by decide) (by omega)
   unfold shT
   rw [List.length_append,List.length_cons]
   omega
  have zz := len_of ecs shl
  have jl' : (jn ", " zs).length <= 300 := by
   rw [lenC,cps_jn,ecs]
   have := jl_len (B := 19) (n := 0) (sep := cps (", " : Str)) (by decide +kernel) (ps.map shT) (fun z hz => by obtain ⟨p,hp,rfl⟩ := List.mem_map.mp hz; exact shl p hp)
   rw [List.length_map] at this
   omega
  refine ⟨", ",D,zs,rfl,rfl,SqL.of hD',by decide +kernel,by omega,fun z hz => Nat.le_trans (zz z hz) (by decide),?_⟩
  refine ⟨_,rfl,?_,_,rfl,_,⟨sz1000 (by omega),rfl⟩,_,rfl,?_,_,rfl,?_,_,rfl,_,⟨sz1000 (by omega),rfl⟩,_,rfl,?_,?_,k _ H' sm ?_⟩
  ·rw [lenA,lE]; exact sz1000 (by omega)
  ·rw [lenA,lenA,lE]; exact sz1000 (by omega)
  ·rw [lenA,lenA,lenA,lE]; exact sz1000 (by omega)
  ·rw [lenA,lenA,lenA,lenA,lE]; exact sz1000 (by omega)
  ·rw [lenA,lenA,lenA,lenA,lE]; exact sz1000 (by omega)
  ·simp only [cps_append',c0',cps_jn,ecs,ey,List.nil_append]
   rfl
theorem scShRow : FnScope ["row","thing","number","many"] ["row"] (defScope sShRow) := ⟨rfl,rfl,rfl,by decide +kernel,rfl,by decide +kernel,by decide +kernel⟩
theorem ok_shrow {f : Addr} {fd : FuncData} (F : Fun K "shown_row" "shown_row" sShRow f fd) (cS : Cal P w K mg base CX0 2 "shown_amount" ["one"] (spShown K)) (cP : Cal P w K mg base CX0 2 "shown_parts" ["all_of_it","pairs"] spShP) : FnOk P w K mg base CX0 3 f fd ["row"] spShRow := by
 refine F.ok scShRow (fun vs H Q E h => ?_) (fun cdv A outer s H vs Q E hr h => ?_)
 ·obtain ⟨_,_,rfl,_⟩ := h
  rfl
 ·obtain ⟨v,r,rfl,hv,hb,k⟩ := h
  refine ⟨_,(pss_cons (ps_if (pt_cmpR op_eq (pit 0 0) pe_str (nomark _))
    (pss_one (ps_ret (pe_cal cP hr rfl pass0 (pa_cons (pit 0 1) (pa_cons (pit 0 2) pa_nil)))))
    pss_nil)
   (pss_cons (ps_set (i := 1) scShRow.nd rfl (Or.inl rfl) (pit 0 2))
   (pss_cons (ps_if (pt_cmpR op_eq (pit 0 0) pe_str (nomark _))
    (pss_cons (ps_set (i := 2) scShRow.nd rfl (Or.inl rfl) (pit 0 1))
   (pss_one (ps_ret (pe_join (pj_cons (pe_fmt (pv 2)) (pj_cons pe_str (pj_cons (pe_fmt (pv 1)) pj_nil)))))))
    pss_nil)
   (pss_cons (ps_set (i := 3) scShRow.nd rfl (Or.inl rfl) (pe_cal cS hr rfl pass0 (pa_cons (pit 0 1) pa_nil)))
   (pss_one (ps_ret (pe_ifExp (pt_cmpR op_eq (pit 0 0) pe_str (nomark _)) (pe_join (pj_cons pe_str (pj_cons (pe_fmt (pv 3)) (pj_cons pe_str (pj_cons (pe_fmt (pv 1)) pj_nil))))) (pe_join (pj_cons pe_str (pj_cons (pe_fmt (pv 3)) (pj_cons pe_str (pj_cons (pe_fmt (pv 1)) pj_nil)))))))))))),?_⟩
  have l2 : (" of " : Str).length = 4 := by decide +kernel
  have l3 : (" with " : Str).length = 6 := by decide +kernel
  have l4 : (" to one of " : Str).length = 11 := by decide +kernel
  have l6 : ("take " : Str).length = 5 := by decide +kernel
  have l7 : ("fill " : Str).length = 5 := by decide +kernel
  cases hv with
  | @parts p m q a us ps h ha hq l2r =>
   have hs : SqT K H p [.str "parts",.ref m,.ref q] := SqT.of h
   obtain ⟨hn,hpl,hps⟩ := hb
   exact ⟨p,_,_,rfl,hs,rfl,rfl,_,rfl,iteT ⟨p,_,_,rfl,hs,rfl,p,_,_,rfl,hs,rfl,m,q,a,us,ps,rfl,ha,hn,hq,l2r,⟨hpl,hps⟩,k⟩⟩
  | @to p n x h =>
   have hs : SqT K H p [.str "to",.int n,.str x] := SqT.of h
   obtain ⟨n0,n1,hx⟩ := hb
   have ln := lenI n0 n1
   have lx : x.length <= 8 := by rw [lenC]; exact hx
   refine ⟨p,_,_,rfl,hs,rfl,rfl,_,rfl,iteF ⟨p,_,_,rfl,hs,rfl,p,_,_,rfl,hs,rfl,rfl,_,rfl,iteT ⟨p,_,_,rfl,hs,rfl,?_⟩⟩⟩
   refine ⟨_,rfl,_,⟨logI n0 n1,rfl⟩,_,rfl,?_,_,rfl,?_,_,rfl,_,⟨sz1000 (by omega),rfl⟩,_,rfl,?_,?_,k _ H (Same.refl _) ?_⟩
   ·rw [lenA,lE]; exact sz1000 (by omega)
   ·rw [lenA,lenA,lE]; exact sz1000 (by omega)
   ·rw [lenA,lenA,lenA,lE]; exact sz1000 (by omega)
   ·rw [lenA,lenA,lenA,lE]; exact sz1000 (by omega)
   ·simp only [cps_append',c0',cpsI n0,List.nil_append]
    rfl
  | @take p m a x h ha =>
   have hs : SqT K H p [.str "take",.ref m,.str x] := SqT.of h
   obtain ⟨hn,hx⟩ := hb
   obtain ⟨t0,b0,hst,ht0,hb0,hxx⟩ := shown_nat (K := K) ha hn
   have lx : x.length <= 8 := by rw [lenC]; exact hx
   refine ⟨p,_,_,rfl,hs,rfl,rfl,_,rfl,iteF ⟨p,_,_,rfl,hs,rfl,p,_,_,rfl,hs,rfl,rfl,_,rfl,iteF ⟨p,_,_,rfl,hs,rfl,m,t0,b0,rfl,hst,ht0,hb0,fun y ey' => ?_⟩⟩⟩
   obtain ⟨ey,ly⟩ := hxx y ey'
   refine ⟨p,_,_,rfl,hs,rfl,rfl,_,rfl,iteT ⟨_,rfl,?_,_,rfl,_,⟨sz1000 (by omega),rfl⟩,_,rfl,?_,_,rfl,?_,_,rfl,_,⟨sz1000 (by omega),rfl⟩,_,rfl,?_,?_,k _ H (Same.refl _) ?_⟩⟩
   ·rw [lenA,lE]; exact sz1000 (by omega)
   ·rw [lenA,lenA,lE]; exact sz1000 (by omega)
   ·rw [lenA,lenA,lenA,lE]; exact sz1000 (by omega)
   ·rw [lenA,lenA,lenA,lenA,lE]; exact sz1000 (by omega)
   ·rw [lenA,lenA,lenA,lenA,lE]; exact sz1000 (by omega)
   ·simp only [cps_append',c0',ey,List.nil_append]
    rfl
  | @fill p m a x h ha =>
   have hs : SqT K H p [.str "fill",.ref m,.str x] := SqT.of h
   obtain ⟨hn,hx⟩ := hb
   obtain ⟨t0,b0,hst,ht0,hb0,hxx⟩ := shown_nat (K := K) ha hn
   have lx : x.length <= 8 := by rw [lenC]; exact hx
   refine ⟨p,_,_,rfl,hs,rfl,rfl,_,rfl,iteF ⟨p,_,_,rfl,hs,rfl,p,_,_,rfl,hs,rfl,rfl,_,rfl,iteF ⟨p,_,_,rfl,hs,rfl,m,t0,b0,rfl,hst,ht0,hb0,fun y ey' => ?_⟩⟩⟩
   obtain ⟨ey,ly⟩ := hxx y ey'
   refine ⟨p,_,_,rfl,hs,rfl,rfl,_,rfl,iteF ⟨_,rfl,?_,_,rfl,_,⟨sz1000 (by omega),rfl⟩,_,rfl,?_,_,rfl,?_,_,rfl,_,⟨sz1000 (by omega),rfl⟩,_,rfl,?_,?_,k _ H (Same.refl _) ?_⟩⟩
   ·rw [lenA,lE]; exact sz1000 (by omega)
   ·rw [lenA,lenA,lE]; exact sz1000 (by omega)
   ·rw [lenA,lenA,lenA,lE]; exact sz1000 (by omega)
   ·rw [lenA,lenA,lenA,lenA,lE]; exact sz1000 (by omega)
   ·rw [lenA,lenA,lenA,lenA,lE]; exact sz1000 (by omega)
   ·simp only [cps_append',c0',ey,List.nil_append]
    rfl
theorem ndRw : (["row"] : List Str).Nodup := by decide +kernel
theorem scShRec : FnScope ["name","rows","text"] ["name","rows"] (defScope sShRec) := ⟨rfl,rfl,rfl,by decide +kernel,rfl,by decide +kernel,by decide +kernel⟩
theorem ok_shrec {f : Addr} {fd : FuncData} (F : Fun K "shown_recipe" "shown_recipe" sShRec f fd) (cR : Cal P w K mg base CX0 3 "shown_row" ["row"] spShRow) : FnOk P w K mg base CX0 4 f fd ["name","rows"] spShRec := by
 refine F.ok scShRec (fun vs H Q E h => ?_) (fun cdv A outer s H vs Q E hr h => ?_)
 ·obtain ⟨_,_,_,_,rfl,_⟩ := h
  rfl
 ·obtain ⟨nm,q,us,rows,rfl,hq,lr,ln,l10,hrows,lrec,k⟩ := h
  refine ⟨_,(pss_cons (ps_set (i := 2) scShRec.nd rfl (Or.inl rfl) (pe_bm PySem.F.plainAttrs_str PySem.F.slot_str_join PySem.F.type_str_join mt_join pe_str (pa_cons (pe_comp (N' := ["row"]) (cl := []) (g := L2.gName 0) (fun _ => [none]) rfl rfl (by decide +kernel) (by decide +kernel) (clOk_plain (by decide +kernel)) (fun _ _ => blkN_none) (pi_tup (pv 1)) (fun _ _ _ _ _ => pg_name (i := 0) ndRw rfl (Or.inl rfl) (Or.inr rfl)) (fun _ _ _ _ _ => pifs_nil) (fun _ _ _ _ _ => pe_cal cR hr rfl pass0 (pa_cons (pv 0) pa_nil))) pa_nil)))
   (pss_one (ps_ret (pe_join (pj_cons pe_str (pj_cons (pe_fmt (pv 0)) (pj_cons pe_str (pj_cons (pe_fmt (pv 2)) pj_nil)))))))),?_⟩
  have l4 : ("recipe " : Str).length = 7 := by decide +kernel
  have l5 : (": " : Str).length = 2 := by decide +kernel
  have lx : nm.length <= 8 := by rw [lenC]; exact ln
  refine ⟨rfl,_,rfl,q,rfl,⟨_,SqT.of hq⟩,fun D hD => ?_⟩
  have sQ : SqT K H q us := SqT.of hq
  have ul := lr.len
  refine comp_rel (Ys.tup sQ) (fun i _ y _ => ∃ r t,rows[i]? = some r /\ y = .str t /\ cps t = rowT r) (fun _ _ _ _ _ h _ => h) hD (by omega) (fun j y H' R hy sm hR => ?_) (fun ys H4 s4 hD4 yl hy => ?_)
  ·obtain ⟨r,hr',hv⟩ := lr.get hy
   exact ⟨(Keep.refl _).set rfl,_,rfl,y,r,rfl,hv.keep (s_tk sm),(hrows r (List.mem_of_getElem? hr')).1,fun x H5 s5 e => hR _ H5 s5 ⟨r,x,hr',rfl,e⟩⟩
  obtain ⟨ts,rfl,et⟩ := strs_of rowT ys rows (by omega) (fun j y hy' => by
   have hi : j < us.length := by have := (List.getElem?_eq_some_iff.mp hy').1; omega
   exact hy j _ y (List.getElem?_eq_getElem hi) hy')
  have tl : ts.length = rows.length := by simpa using congrArg List.length et
  have tz := len_of et (fun r hr' => (hrows r hr').2)
  have jl' : (jn "; " ts).length <= 900 := by
   rw [lenC,cps_jn,et]
   have lrec' : (cps ("recipe " : Str) ++ cps nm ++ cps (": " : Str) ++ ST.jl (cps ("; " : Str)) (rows.map rowT)).length <= 900 := lrec
   rw [List.length_append] at lrec'
   omega
  refine ⟨"; ",D,ts,rfl,rfl,SqL.of hD4,by decide +kernel,by omega,fun t ht => Nat.le_trans (tz t ht) (by decide),?_⟩
  refine ⟨_,rfl,?_,_,rfl,_,⟨sz1000 (by omega),rfl⟩,_,rfl,?_,_,rfl,?_,_,rfl,_,⟨sz1000 (by omega),rfl⟩,_,rfl,?_,?_,k _ H4 s4 ?_⟩
  ·rw [lenA,lE]; exact sz1000 (by omega)
  ·rw [lenA,lenA,lE]; exact sz1000 (by omega)
  ·rw [lenA,lenA,lenA,lE]; exact sz1000 (by omega)
  ·rw [lenA,lenA,lenA,lenA,lE]; exact sz1000 (by omega)
  ·rw [lenA,lenA,lenA,lenA,lE]; exact sz1000 (by omega)
  ·simp only [cps_append',c0',cps_jn,et,List.nil_append]
   rfl
theorem ndNa : (["name"] : List Str).Nodup := by decide +kernel
theorem ndOO : (["one","other"] : List Str).Nodup := by decide +kernel
theorem ndNR : (["name","rows"] : List Str).Nodup := by decide +kernel
theorem scShB : FnScope ["book","wares","pairs","recipes"] ["book"] (defScope sShB) := ⟨rfl,rfl,rfl,by decide +kernel,rfl,by decide +kernel,by decide +kernel⟩
theorem ok_shb {f : Addr} {fd : FuncData} (F : Fun K "shown_book" "shown_book" sShB f fd) (cR : Cal P w K mg base CX0 4 "shown_recipe" ["name","rows"] spShRec) : FnOk P w K mg base CX0 5 f fd ["book"] spShB := by
 refine F.ok scShB (fun vs H Q E h => ?_) (fun cdv A outer s H vs Q E hr h => ?_)
 ·obtain ⟨_,_,rfl,_⟩ := h
  rfl
 ·obtain ⟨v,b,rfl,⟨z,a0,a1,a2,u1,u2,rfl,hz,h0,h1,l1,h2,l2⟩,bb,k⟩ := h
  refine ⟨_,(pss_cons (ps_comp (iy := 1) (N' := ["name"]) (cl := []) (g := L2.gName 0) (fun _ => [none]) rfl rfl (by decide +kernel) (by decide +kernel) (clOk_plain (by decide +kernel)) (fun _ _ => blkN_none) (pi_tup (pit 0 0)) (fun _ _ _ _ _ => pg_name (i := 0) ndNa rfl (Or.inl rfl) (Or.inr rfl)) (fun _ _ _ _ _ => pifs_nil) (fun _ _ _ _ _ => pe_join (pj_cons pe_str (pj_cons (pe_fmt (pv 0)) pj_nil))) scShB.nd rfl (Or.inl rfl) (Or.inr rfl) rfl)
   (pss_cons (ps_comp (iy := 2) (N' := ["one","other"]) (cl := []) (g := gTup K 2 (gCons (L2.gName 0) (gCons (L2.gName 1) gNil))) (fun _ => [none,none]) rfl rfl (by decide +kernel) (by decide +kernel) (clOk_plain (by decide +kernel)) (fun _ _ => blkN_none) (pi_tup (pit 0 1)) (fun _ _ _ _ _ => pg_tup rfl (pgs_cons (pg_name (i := 0) ndOO rfl (Or.inl rfl) (Or.inr rfl)) (pgs_cons (pg_name (i := 1) ndOO rfl (Or.inl rfl) (Or.inr rfl)) pgs_nil))) (fun _ _ _ _ _ => pifs_nil) (fun _ _ _ _ _ => pe_join (pj_cons pe_str (pj_cons (pe_fmt (pv 0)) (pj_cons pe_str (pj_cons (pe_fmt (pv 1)) pj_nil))))) scShB.nd rfl (Or.inl rfl) (Or.inr rfl) rfl)
   (pss_cons (ps_comp (iy := 3) (N' := ["name","rows"]) (cl := []) (g := gTup K 2 (gCons (L2.gName 0) (gCons (L2.gName 1) gNil))) (fun _ => [none,none]) rfl rfl (by decide +kernel) (by decide +kernel) (clOk_plain (by decide +kernel)) (fun _ _ => blkN_none) (pi_tup (pit 0 2)) (fun _ _ _ _ _ => pg_tup rfl (pgs_cons (pg_name (i := 0) ndNR rfl (Or.inl rfl) (Or.inr rfl)) (pgs_cons (pg_name (i := 1) ndNR rfl (Or.inl rfl) (Or.inr rfl)) pgs_nil))) (fun _ _ _ _ _ => pifs_nil) (fun _ _ _ _ _ => pe_cal cR hr rfl pass0 (pa_cons (pv 0) (pa_cons (pv 1) pa_nil))) scShB.nd rfl (Or.inl rfl) (Or.inr rfl) rfl)
   (pss_one (ps_ret (pe_bm PySem.F.plainAttrs_str PySem.F.slot_str_join PySem.F.type_str_join mt_join pe_str (pa_cons (pe_op op_cat (pe_op op_cat (pv 1) (pv 2)) (pv 3)) pa_nil))))))),?_⟩
  have sz : SqT K H z [.ref a0,.ref a1,.ref a2] := SqT.of hz
  have s0 : SqT K H a0 (b.ws.map V.str) := SqT.of h0
  have L1 : ("ware " : Str).length = 5 := by decide +kernel
  have L2' : ("apart " : Str).length = 6 := by decide +kernel
  have L3' : (" " : Str).length = 1 := by decide +kernel
  have b1 := bb.w.1
  have b2 := bb.p.1
  have b3 := bb.r.1
  refine ⟨z,_,_,rfl,sz,rfl,a0,rfl,⟨_,s0⟩,fun D hD => ?_⟩
  refine comp_rel (Ys.tup s0) (fun i _ y _ => ∃ x t,b.ws[i]? = some x /\ y = .str t /\ cps t = waT x) (fun _ _ _ _ _ h _ => h) hD (by rw [List.length_map]; omega) (fun i u H' R hu sm hR => ?_) (fun ys H1 s1 hD1 yl hy => ?_)
  ·rw [List.getElem?_map] at hu
   obtain ⟨x,hx,rfl⟩ := Option.map_eq_some_iff.mp hu
   have lx : x.length <= 8 := by rw [lenC]; exact bb.w.2 x (List.mem_of_getElem? hx)
   refine ⟨(Keep.refl _).set rfl,_,rfl,?_,_,rfl,_,⟨sz1000 (by omega),rfl⟩,_,rfl,?_,?_,hR _ H' (Same.refl _) ⟨x,_,hx,rfl,?_⟩⟩
   ·rw [lenA,lE]; exact sz1000 (by omega)
   ·rw [lenA,lenA,lE]; exact sz1000 (by omega)
   ·rw [lenA,lenA,lE]; exact sz1000 (by omega)
   ·simp only [cps_append',c0',List.nil_append]
    rfl
  obtain ⟨z0,rfl,ez0⟩ := strs_of waT ys b.ws (by rw [yl,List.length_map]) (fun i y hy' => by
   have hi : i < b.ws.length := by have := (List.getElem?_eq_some_iff.mp hy').1; rw [yl,List.length_map] at this; exact this
   exact hy i _ y (by rw [List.getElem?_map,List.getElem?_eq_getElem hi]; rfl) hy')
  have q1 : SqT K H1 a1 u1 := SqT.of (s1 _ _ h1)
  have ul1 := l1.len
  refine ⟨z,_,_,rfl,SqT.of (s1 _ _ hz),rfl,a1,rfl,⟨_,q1⟩,fun D2 hD2 => ?_⟩
  refine comp_rel (Ys.tup q1) (fun i _ y _ => ∃ x t,b.ps[i]? = some x /\ y = .str t /\ cps t = apT x) (fun _ _ _ _ _ h _ => h) hD2 (by omega) (fun i u H' R hu sm hR => ?_) (fun ys H2 s2 hD22 yl2 hy2 => ?_)
  ·obtain ⟨pr,hpr,zz,rfl,hzz⟩ := l1.get hu
   have lp := bb.p.2 pr (List.mem_of_getElem? hpr)
   have lx : pr.1.length <= 8 := by rw [lenC]; exact lp.1
   have ly : pr.2.length <= 8 := by rw [lenC]; exact lp.2
   refine ⟨zz,_,rfl,SqT.of ((s1.trans sm) _ _ hzz),rfl,_,_,rfl,_,_,rfl,rfl,((Keep.refl _).set rfl).set rfl,?_⟩
   refine ⟨_,rfl,?_,_,rfl,_,⟨sz1000 (by omega),rfl⟩,_,rfl,?_,_,rfl,?_,_,rfl,_,⟨sz1000 (by omega),rfl⟩,_,rfl,?_,?_,hR _ H' (Same.refl _) ⟨pr,_,hpr,rfl,?_⟩⟩
   ·rw [lenA,lE]; exact sz1000 (by omega)
   ·rw [lenA,lenA,lE]; exact sz1000 (by omega)
   ·rw [lenA,lenA,lenA,lE]; exact sz1000 (by omega)
   ·rw [lenA,lenA,lenA,lenA,lE]; exact sz1000 (by omega)
   ·rw [lenA,lenA,lenA,lenA,lE]; exact sz1000 (by omega)
   ·simp only [cps_append',c0',List.nil_append]
    rfl
  obtain ⟨z1,rfl,ez1⟩ := strs_of apT ys b.ps (by omega) (fun i y hy' => by
   have hi : i < u1.length := by have := (List.getElem?_eq_some_iff.mp hy').1; omega
   exact hy2 i _ y (List.getElem?_eq_getElem hi) hy')
  have s02 := s1.trans s2
  have q2 : SqT K H2 a2 u2 := SqT.of (s02 _ _ h2)
  have ul2 := l2.len
  refine ⟨z,_,_,rfl,SqT.of (s02 _ _ hz),rfl,a2,rfl,⟨_,q2⟩,fun D3 hD3 => ?_⟩
  refine comp_rel (Ys.tup q2) (fun i _ y _ => ∃ x t,b.rs[i]? = some x /\ y = .str t /\ cps t = recT x) (fun _ _ _ _ _ h _ => h) hD3 (by omega) (fun i u H' R hu sm hR => ?_) (fun ys H3 s3 hD33 yl3 hy3 => ?_)
  ·obtain ⟨rc,hrc,zz,q,us,rfl,hzz,hq,lr⟩ := l2.get hu
   obtain ⟨ln,lr10,lrows,lrec⟩ := bb.r.2 rc (List.mem_of_getElem? hrc)
   have st := s02.trans sm
   exact ⟨zz,_,rfl,SqT.of (st _ _ hzz),rfl,_,_,rfl,_,_,rfl,rfl,((Keep.refl _).set rfl).set rfl,_,rfl,_,rfl,rc.1,q,us,rc.2,rfl,st _ _ hq,lr.imp fun _ _ x => x.keep (s_tk st),ln,lr10,lrows,lrec,fun x H5 s5 e => hR _ H5 s5 ⟨rc,x,hrc,rfl,e⟩⟩
  obtain ⟨z2,rfl,ez2⟩ := strs_of recT ys b.rs (by omega) (fun i y hy' => by
   have hi : i < u2.length := by have := (List.getElem?_eq_some_iff.mp hy').1; omega
   exact hy3 i _ y (List.getElem?_eq_getElem hi) hy')
  have n0 : z0.length = b.ws.length := by simpa using congrArg List.length ez0
  have n1 : z1.length = b.ps.length := by simpa using congrArg List.length ez1
  have n2 : z2.length = b.rs.length := by simpa using congrArg List.length ez2
  refine ⟨rfl,_,rfl,_,rfl,D,D2,_,_,rfl,rfl,(s2.trans s3) _ _ hD1,s3 _ _ hD22,by rw [List.length_map,List.length_map]; exact sz1000 (by omega),fun p np => ?_⟩
  have sp := Same.upd (o := .lst (z0.map V.str ++ z1.map V.str)) np
  refine ⟨_,rfl,p,D3,_,_,rfl,rfl,upd_same,sp _ _ hD33,by rw [List.length_append,List.length_map,List.length_map,List.length_map]; exact sz1000 (by omega),fun p2 np2 => ?_⟩
  have sp2 := Same.upd (o := .lst (z0.map V.str ++ z1.map V.str ++ z2.map V.str)) np2
  have hp2 : upd (upd H3 p (.lst (z0.map V.str ++ z1.map V.str))) p2 (.lst (z0.map V.str ++ z1.map V.str ++ z2.map V.str)) p2 = some (.lst ((z0 ++ z1 ++ z2).map V.str)) := by rw [upd_same,List.map_append,List.map_append]
  have el : (z0 ++ z1 ++ z2).map cps = linesT b := by rw [List.map_append,List.map_append,ez0,ez1,ez2]; rfl
  refine ⟨"\n",p2,z0 ++ z1 ++ z2,rfl,rfl,SqL.of hp2,by decide +kernel,by rw [List.length_append,List.length_append]; omega,fun t ht => ?_,k _ _ ((s02.trans s3).trans (sp.trans sp2)) ?_⟩
  ·rw [lenC]
   refine Nat.le_trans (lines_len bb _ ?_) (by decide)
   rw [<- el]
   exact List.mem_map.mpr ⟨t,ht,rfl⟩
  ·rw [cps_jn,el]
   rfl
end
end K11
namespace HT
open PySem PySem.Spec PyProof.Rows
section
variable {prog : Program} {w : World} {A : Around} {E : Value -> Shared -> Prop} {s : Shared}
end
end HT
namespace L2
open PySem PySem.Spec PyProof.Rows
section
variable {X : Cx}
def rRepTA (K : PySem.W.Frag) : R2 := fun x y H Q => ∃ a k xs,x = .ref a /\ y = .int k /\ SqT K H a xs /\ xs ≠ [] /\ 1 <= k /\ k <= 1000 /\ xs.length <= 1000 /\ (k = 1 -> Q (.ref a) H) /\ (2 <= k -> ∀ p,H p = none -> Q (.ref p) (upd H p (.tup (List.replicate k.toNat xs).flatten)))
def rCatTB (K : PySem.W.Frag) : R2 := fun x y H Q => ∃ a b xs ys,x = .ref a /\ y = .ref b /\ SqT K H a xs /\ H b = some (.tup ys) /\ ys ≠ [] /\ xs.length + ys.length <= sizeLine /\ ∀ p H',Same H H' -> H' p = some (.tup (xs ++ ys)) -> Q (.ref p) H'
theorem op_catTB : OpR X (binaryOp .Add) (rCatTB X.K) := by
 intro pins s σ H x y v u Q I rx ry h
 obtain ⟨a,b,xs,ys,rfl,rfl,ha,hb,hy,hz,q⟩ := h
 refine op_catTA pins s σ H _ _ v u Q I rx ry ?_
 by_cases e : xs = []
 ·subst e
  exact .inl ⟨a,b,ys,rfl,rfl,ha,SqT.of hb,q b H (Same.refl _) (by rw [List.nil_append]; exact hb)⟩
 ·exact .inr ⟨a,b,xs,ys,rfl,rfl,ha,SqT.of hb,e,hz,fun z => absurd z hy,fun _ p hp => q p _ (Same.upd hp) upd_same⟩
end
end L2
namespace PySem.SeqAt
open PySem MeetsSeq
end PySem.SeqAt
namespace HT
open PySem PySem.Spec PyProof.Rows
section
variable {prog : Program} {w : World} {A : Around} {E : Value -> Shared -> Prop} {s : Shared}
theorem getItem_tuple_whole {t sl : Addr} {items : Array Value} {vl vu : Value} {lo hi : Option Int} {Q : Value -> Shared -> Prop} (ht : IsTup s.heap t items) (hs : s.heap.IsSliceOf sl vl vu .none) (pl : IsPart vl lo) (pu : IsPart vu hi)
  (hw : sIx items.size 0 lo = 0 /\ sIx items.size items.size hi = items.size) (h : Q (.ref t) s) : wpAny (model prog w) A (getItem (.ref t) (.ref sl)) Q E s := by
 obtain ⟨os,hos,hcs,hds⟩ := id hs
 have hTs : s.TypeIs (.ref sl) "slice" := ⟨os,hos,hcs⟩
 unfold getItem
 try with_reducible refine wpAny_holding ?_
 first | refine wpAny_bind (wpAny_pure ?_) | skip
 refine wpAny_bind (wpAny_sequenceKey ht.typeIs (by decide) ?_)
 refine wpAny_bind (wpAny_callSpecial?_slot (name := Str.ofString "__getitem__") ht.typeIs PyProof.Rows.slot_tuple_getitem
  (wpAny_call_entry PyProof.Rows.slot_tuple_getitem ht.typeIs entry_tuple_getitem ?_ (args_tuple_getitem _ _)))
 show wpAny _ _ (Builtin.Tuple.tupleItemsOf (.ref t) >>= _) _ _ s
 refine wpAny_bind (tupleItemsOf_ ht ?_)
 refine wpAny_bind (wpAny_typeOf hTs ?_)
 rw [if_pos (by decide)]
 refine wpAny_bind (sliceApplied_gen hs pl pu ?_)
 rw [hw.1,hw.2]
 have hyes : (((0 : Nat) : Int) == 0 && (1 : Int) == 1 && (items.size - 0) == items.size) = true := by simp
 show wpAny _ _ (if (((0 : Nat) : Int) == 0 && (1 : Int) == 1 && (items.size - 0) == items.size) = true then _ else _) _ _ s
 rw [if_pos hyes]
 refine wpAny_bind (m := Builtin.Tuple.tupleIsExact (.ref t)) ?_
 unfold Builtin.Tuple.tupleIsExact
 refine wpAny_bind (wpAny_typeOf ht.typeIs (wpAny_pure ?_))
 rw [if_pos (by decide)]
 exact wpAny_bind (wpAny_rule (wpAny_pure ⟨_,rfl,wpAny_pure h⟩))
end
end HT
namespace L2
open PySem PySem.Spec PyProof.Rows
def rIndexF : V -> List V -> Hp -> VK -> Prop := fun x vs H Q => ∃ l xs y,∃ i j : Nat,∃ z,x = .ref l /\ vs = [y,.int (i : Int)] /\ H l = some (.lst xs) /\ flatV y = true /\ xs.all flatV = true /\ i <= j /\ xs[j]? = some z /\ eqV z y = true /\
 (∀ m z,i <= m -> m < j -> xs[m]? = some z -> eqV z y = false) /\ Q (.int (j : Int)) H
section
variable {X : Cx}
def rSlTA (K : PySem.W.Frag) : V -> Option Int -> Option Int -> Hp -> VK -> Prop := fun x lo hi H Q => ∃ a xs,x = .ref a /\ H a = some (.tup xs) /\ ∀ p H',Same H H' -> H' p = some (.tup (cutV xs lo hi)) -> Q (.ref p) H'
theorem sl_tupA : SlR X (rSlTA X.K) := by
 intro pins s σ H x v vl vu lo hi sl Q I rx hs pl pu h
 obtain ⟨a,xs,rfl,hx,q⟩ := h
 by_cases hw : HT.sIx xs.length 0 lo = 0 /\ HT.sIx xs.length xs.length hi = xs.length
 ·cases rx
  obtain ⟨its,r,ht,hz⟩ := I.tuple (SqT.of hx)
  have hlen : its.toArray.size = xs.length := by rw [List.size_toArray]; exact r.length.symm
  refine ⟨"tuple",_,PyProof.Rows.slot_tuple_getitem.lookup,ht.typeIs,?_⟩
  refine HT.getItem_tuple_whole ht hs pl pu (by rw [hlen]; exact hw) ⟨.ref a,H,I,rfl,q a H (Same.refl _) ?_⟩
  unfold cutV
  rw [hw.1,hw.2,List.drop_zero,Nat.sub_zero,List.take_length]
  exact hx
 ·exact sl_tup pins s σ H _ v vl vu lo hi sl Q I rx hs pl pu ⟨a,xs,rfl,SqT.of hx,hw,fun p hp => q p _ (Same.upd hp) upd_same⟩
end
end L2
namespace K11
open PySem PySem.Spec PyProof.Rows L2 GM TM BQ TR
def spLaw (K : PySem.W.Frag) : Sp := fun vs H Q _ => ∃ (a : Addr) (ns : List Int),vs = [.ref a] /\ SqL K H a (ns.map V.int) /\ ns.length <= 63 /\ ∀ H',Q (.bl true) H'
def rowD : Rw -> Dt
 | .take a x => .t [.s "take",.t [.i a.1,.i a.2],.s x]
 | .fill a x => .t [.s "fill",.t [.i a.1,.i a.2],.s x]
 | .to n x => .t [.s "to",.i n,.s x]
 | .parts a ps => .t [.s "parts",.t [.i a.1,.i a.2],.t (ps.map fun p => .t [.i p.1,.s p.2])]
def pairD (p : Str × Str) : Dt := .t [.s p.1,.s p.2]
def recD (p : Str × List Rw) : Dt := .t [.s p.1,.t (p.2.map rowD)]
def bookD (b : Bs) : Dt := .t [.t (b.ws.map Dt.s),.t (b.ps.map pairD),.t (b.rs.map recD)]
theorem dl_of {K : PySem.W.Frag} {H : Hp} {α : Type} {R : V -> α -> Prop} {f : α -> Dt} {n : Nat} {us : List V} {ps : List α} (l : L2R R us ps) (h : ∀ u p,R u p -> Dv K H n u (f p)) : DL K H n us (ps.map f) := by
 refine ⟨by rw [List.length_map]; exact l.len,fun j x d hx hd => ?_⟩
 rw [List.getElem?_map] at hd
 obtain ⟨p,hp,rfl⟩ := Option.map_eq_some_iff.mp hd
 exact h x p (l.at' j x p hx hp)
theorem row_dv {K : PySem.W.Frag} {H : Hp} {v : V} {r : Rw} (h : RowV H v r) : Dv K H 3 v (rowD r) := by
 have am : ∀ {m : Addr} {a : BQ.Q},AmV H m a -> Dv K H 2 (.ref m) (.t [.i a.1,.i a.2]) := fun hm => Dv.tup (.of hm) (.cons .i (.cons .i .nil))
 cases h with
 | take a b => exact Dv.tup (.of a) (.cons .s (.cons (am b) (.cons .s .nil)))
 | fill a b => exact Dv.tup (.of a) (.cons .s (.cons (am b) (.cons .s .nil)))
 | to a => exact Dv.tup (.of a) (.cons .s (.cons .i (.cons .s .nil)))
 | parts a b c d => exact Dv.tup (.of a) (.cons .s (.cons (am b) (.cons (Dv.tup (.of c) (dl_of d fun u p ⟨z,e,hz⟩ => by subst e; exact Dv.tup (.of hz) (.cons .i (.cons .s .nil)))) .nil)))
theorem book_dv {K : PySem.W.Frag} {H : Hp} {v : V} {b : Bs} (h : BookV H v b) : Dv K H 7 v (bookD b) := by
 obtain ⟨z,a0,a1,a2,u1,u2,rfl,hz,h0,h1,l1,h2,l2⟩ := h
 have w0 : DL K H 5 (b.ws.map V.str) (b.ws.map Dt.s) := ⟨by simp,fun j x d hx hd => by
  rw [List.getElem?_map] at hx hd
  obtain ⟨p,hp,rfl⟩ := Option.map_eq_some_iff.mp hx
  rw [hp] at hd
  cases hd
  exact .s⟩
 refine Dv.tup (.of hz) (.cons (Dv.tup (.of h0) w0) (.cons (Dv.tup (.of h1) (dl_of l1 fun u p ⟨z,e,hz⟩ => ?_)) (.cons (Dv.tup (.of h2) (dl_of l2 fun u p ⟨z,q,us,e,hz,hq,l⟩ => ?_)) .nil)))
 ·subst e
  exact Dv.tup (.of hz) (.cons .s (.cons .s .nil))
 ·subst e
  exact Dv.tup (.of hz) (.cons .s (.cons (Dv.tup (.of hq) (dl_of l fun u r h => row_dv h)) .nil))
theorem row_pl (r : Rw) : Pl (rowD r) := by
 have am : ∀ a : BQ.Q,Pl (.t [.i a.1,.i a.2]) := fun a => .t fun d hd => by
  simp only [List.mem_cons,List.not_mem_nil,or_false] at hd
  rcases hd with rfl | rfl <;> exact .i _
 cases r with
 | take a x =>
   refine .t fun d hd => ?_
   simp only [List.mem_cons,List.not_mem_nil,or_false] at hd
   rcases hd with rfl | rfl | rfl
   ·exact .s _
   ·exact am a
   ·exact .s _
 | fill a x =>
   refine .t fun d hd => ?_
   simp only [List.mem_cons,List.not_mem_nil,or_false] at hd
   rcases hd with rfl | rfl | rfl
   ·exact .s _
   ·exact am a
   ·exact .s _
 | to n x =>
   refine .t fun d hd => ?_
   simp only [List.mem_cons,List.not_mem_nil,or_false] at hd
   rcases hd with rfl | rfl | rfl
   ·exact .s _
   ·exact .i _
   ·exact .s _
 | parts a ps =>
   refine .t fun d hd => ?_
   simp only [List.mem_cons,List.not_mem_nil,or_false] at hd
   rcases hd with rfl | rfl | rfl
   ·exact .s _
   ·exact am a
   ·refine .t fun e he => ?_
    obtain ⟨p,_,rfl⟩ := List.mem_map.mp he
    exact .t fun d hd => by
     simp only [List.mem_cons,List.not_mem_nil,or_false] at hd
     rcases hd with rfl | rfl
     ·exact .i _
     ·exact .s _
theorem book_pl (b : Bs) : Pl (bookD b) := by
 refine .t fun d hd => ?_
 simp only [List.mem_cons,List.not_mem_nil,or_false] at hd
 rcases hd with rfl | rfl | rfl
 ·refine .t fun e he => ?_
  obtain ⟨p,_,rfl⟩ := List.mem_map.mp he
  exact .s _
 ·refine .t fun e he => ?_
  obtain ⟨p,_,rfl⟩ := List.mem_map.mp he
  exact .t fun d hd => by
   simp only [List.mem_cons,List.not_mem_nil,or_false] at hd
   rcases hd with rfl | rfl <;> exact .s _
 ·refine .t fun e he => ?_
  obtain ⟨p,_,rfl⟩ := List.mem_map.mp he
  exact .t fun d hd => by
   simp only [List.mem_cons,List.not_mem_nil,or_false] at hd
   rcases hd with rfl | rfl
   ·exact .s _
   ·refine .t fun e he => ?_
    obtain ⟨p,_,rfl⟩ := List.mem_map.mp he
    exact row_pl _
structure BkG (ws : List Str) (ps : List (Str × Str)) (rc : List (Str × List Rw)) : Prop where
 w1 : 1 <= ws.length
 w12 : ws.length <= 12
 p7 : ps.length <= 7
 r12 : rc.length <= 12
 hw : ∀ x ∈ ws,Wr x
 hp : ∀ x ∈ ps,Wr x.1 /\ Wr x.2
 hr : ∀ x ∈ rc,RcG x /\ RcF x /\ (recT x).length <= 800 /\ ∀ r ∈ x.2,RwG r /\ (rowT r).length <= 120
theorem BkS.g {ws rs : List Str} {t : Int} {ps : List (Str × Str)} {rc : List (Str × List Rw)} (h : BkS ws rs t ps rc) : BkG ws ps rc :=
 have hw : ∀ x ∈ ws,Wr x := fun x hx => h.wr x (List.mem_append_left _ hx)
 ⟨h.w1,h.w12,by have := h.p6; omega,by rw [h.rl]; exact h.r12,hw,fun x hx => ⟨hw _ (h.pw x hx).1,hw _ (h.pw x hx).2.1⟩,rc_ok h⟩
theorem BkG.bkb {ws : List Str} {ps : List (Str × Str)} {rc : List (Str × List Rw)} (h : BkG ws ps rc) : BkB ⟨0,0,ws,ps,rc⟩ :=
 bkb_of (by have := h.w12; omega) (by have := h.p7; omega) (by have := h.r12; omega) h.hw h.hp h.hr
theorem BkG.run {ws : List Str} {ps : List (Str × Str)} {rc : List (Str × List Rw)} (h : BkG ws ps rc) : ∃ lo hi,Run (linesS ⟨0,0,ws,ps,rc⟩) ⟨lo,hi,ws,ps,rc⟩ :=
 run_all h.w1 (by have := h.w12; omega) (by have := h.p7; omega) h.r12 h.hw h.hp fun x hx => ⟨(h.hr x hx).1,(h.hr x hx).2.1⟩
theorem BkG.text {ws : List Str} {ps : List (Str × Str)} {rc : List (Str × List Rw)} (h : BkG ws ps rc) {ls : List Str} (e : ls = linesS ⟨0,0,ws,ps,rc⟩) : ls.length <= 100 /\ (∀ z ∈ ls,(cps z).length <= 900) /\ (jn "\n" ls).length + 2 <= sizeLine /\ Txt.split (jn "\n" ls) NL = ls := by
 subst e
 have a1 := h.w1
 have a2 := h.w12
 have a3 := h.p7
 have a4 := h.r12
 have ll : (linesS ⟨0,0,ws,ps,rc⟩).length = ws.length + ps.length + rc.length := by
  unfold linesS
  simp [Nat.add_assoc]
 have h9 : ∀ z ∈ linesS ⟨0,0,ws,ps,rc⟩,(cps z).length <= 900 := fun z hz => by
  refine lines_len h.bkb _ ?_
  have e : linesT ⟨0,0,ws,ps,rc⟩ = (linesS ⟨0,0,ws,ps,rc⟩).map cps := by
   unfold linesT linesS
   simp only [List.map_append,List.map_map]
   congr 1
  rw [e]
  exact List.mem_map.mpr ⟨z,hz,rfl⟩
 refine ⟨by omega,h9,jn_len h9 (by omega),jn_split (fun z => ?_) (lines_no10 h.hw h.hp fun x hx => (h.hr x hx).1)⟩
 rw [z,List.length_nil] at ll
 omega
theorem cut_to' {xs : List V} {j : Nat} : cutV xs none (some (j : Int)) = xs.take j := by
 unfold cutV
 rw [HT.sIx_nat,HT.sIx_none]
 show xs.take (min j xs.length - 0) = _
 rw [Nat.sub_zero]
 rcases Nat.le_total j xs.length with h | h
 ·rw [Nat.min_eq_left h]
 ·rw [Nat.min_eq_right h,List.take_of_length_le (Nat.le_refl _),List.take_of_length_le h]
theorem L2R.take {α : Type} {R : V -> α -> Prop} {us : List V} {ps : List α} (h : L2R R us ps) (n : Nat) : L2R R (us.take n) (ps.take n) := by
 refine ⟨by rw [List.length_take,List.length_take,h.len],fun i u p hu hp => ?_⟩
 by_cases c : i < n
 ·rw [List.getElem?_take_of_lt c] at hu hp
  exact h.at' i u p hu hp
 ·rw [List.getElem?_eq_none (by rw [List.length_take]; omega)] at hu
  cases hu
theorem smr17 : SmR (1,7) := ⟨⟨by decide,by decide,by decide⟩,by decide,by decide,by decide⟩
theorem new_rec {x : Str} (h : Wr x) : RcG (x,[.take (1,7) x]) /\ RcF (x,[.take (1,7) x]) /\ (recT (x,[.take (1,7) x])).length <= 800 /\ ∀ r ∈ (x,[Rw.take (1,7) x]).2,RwG r /\ (rowT r).length <= 120 := by
 have k := rol_ok (l := (0,1)) (r := .take (1,7) x) smr17 (fun y hy => by rw [List.mem_singleton.mp hy]; exact h)
 have a : ∀ r ∈ [Rw.take (1,7) x],RwG r /\ (rowT r).length <= 120 := fun r hr => by rw [List.mem_singleton.mp hr]; exact ⟨k.1,k.2.2⟩
 refine ⟨⟨h,by simp,fun r hr => (a r hr).1,fun r hr => ?_⟩,⟨by show 1 <= 6; decide,fun r hr => by rw [List.mem_singleton.mp hr]; exact k.2.1⟩,?_,a⟩
 ·cases hr
  exact (by decide +kernel : ("take" : Str) ≠ "to")
 ·have : (recT (x,[.take (1,7) x])).length <= 17 + 1 * (120 + 2) := recT_len (n := 1) (B := 120) h (fun r hr => (a r hr).2) (Nat.le_refl _)
  omega
theorem wa_split : Txt.split ("ware a" : Str) NL = [("ware a" : Str)] := by decide +kernel
theorem wr_a : Wr ("a" : Str) := ⟨by decide +kernel,by decide +kernel,by decide +kernel⟩
theorem wa_eq : waS ("a" : Str) = ("ware a" : Str) := by
 refine TM.ext ?_
 show cps (mkS (waT "a")) = _
 rw [cps_mk]
 decide +kernel
section
variable {P : Program} {w : World} {K : PySem.W.Frag} {mg : Str -> Option Value} {base : Heap} {c0 : Addr}
theorem scLaw : FnScope ["_law_script","_law_book_here","_law_name","_law_recipe","_law_pairs","_law_text","_law_found"] ["_law_script"] (defScope sLaw) := ⟨rfl,rfl,rfl,by decide +kernel,rfl,by decide +kernel,by decide +kernel⟩
theorem ok_law {f : Addr} {fd : FuncData} (F : Fun K "law" "law" sLaw f fd) (T : Txt mg) (cB : Cal P w K mg base CX0 10 "_law_book" ["_law_script"] (spLbook K)) (cG : Cal P w K mg base CX0 10 "_law_begun" ["_law_script"] (spBegun K)) (cC : Cal P w K mg base CX0 10 "_law_cell_at" ["_law_script","_law_k"] (spCell K)) (cI : Cal P w K mg base CX0 10 "_law_lines" ["_law_book_here"] spLines) (cW : Cal P w K mg base CX0 10 "shown_book" ["book"] spShB) (cS : Cal P w K mg base CX0 10 "_law_same" ["_law_found","_law_due"] (spSame K 8)) (cK : Cal P w K mg base (CXg P w) 10 "read_book" ["text"] (spBook K c0)) : FnOk P w K mg base CX0 11 f fd ["_law_script"] (spLaw K) := by
 refine F.ok scLaw (fun vs H Q E h => ?_) (fun cdv A outer s H vs Q E hr h => ?_)
 ·obtain ⟨_,_,rfl,_⟩ := h
  rfl
 ·obtain ⟨sc,ns,rfl,hS,hlen,k⟩ := h
  refine ⟨_,(pss_cons (ps_set (i := 1) scLaw.nd rfl (Or.inl rfl) (pe_cal cB hr rfl pass0 (pa_cons (pv 0) pa_nil)))
   (pss_cons (ps_set (i := 2) scLaw.nd rfl (Or.inl rfl) (pe_ix ix_list (pe_ix ix_tup (pe_cal cG hr rfl pass0 (pa_cons (pv 0) pa_nil)) pe_int (fun _ _ => rfl)) pe_int (fun _ _ => rfl)))
   (pss_cons (ps_if (pt_cmpR op_eq (pe_op op_mod (pe_cal cC hr rfl pass0 (pa_cons (pv 0) (pa_cons pe_int pa_nil))) pe_int) pe_int (nomark _))
    (pss_cons (ps_set (i := 3) scLaw.nd rfl (Or.inl rfl) (pe_tup (pa_cons (pv 2) (pa_cons (pe_tup (pa_cons (pe_tup (pa_cons pe_str (pa_cons (pe_tup (pa_cons pe_int (pa_cons pe_int pa_nil))) (pa_cons (pv 2) pa_nil)))) pa_nil)) pa_nil))))
   (pss_cons (ps_set (i := 4) scLaw.nd rfl (Or.inl rfl) (pe_op op_catTB (pit 1 1) (pe_tup (pa_cons (pe_tup (pa_cons (pv 2) (pa_cons (pe_ix ix_tup (pit 1 0) pe_int (fun _ _ => rfl)) pa_nil))) pa_nil))))
   (pss_one (ps_set (i := 1) scLaw.nd rfl (Or.inl rfl) (pe_tup (pa_cons (pit 1 0) (pa_cons (pv 4) (pa_cons (pe_op op_catTB (pe_slice sl_tupA (pit 1 2) po_none (po_some pe_int)) (pe_tup (pa_cons (pv 3) pa_nil))) pa_nil))))))))
    pss_nil)
   (pss_cons (ps_set (i := 5) scLaw.nd rfl (Or.inl rfl) (pe_bm PySem.F.plainAttrs_str PySem.F.slot_str_join PySem.F.type_str_join mt_join pe_str (pa_cons (pe_cal cI hr rfl pass0 (pa_cons (pv 1) pa_nil)) pa_nil)))
   (pss_cons (ps_set (i := 6) scLaw.nd rfl (Or.inl rfl) (pe_cal cW hr rfl pass0 (pa_cons (pv 1) pa_nil)))
   (pss_cons (ps_if (PW.pt (pw_or (pt_not (pt_val (pe_callB call_isi rfl T.isi boot_isinstance (pa_cons (pv 6) (pa_cons (pe_bltn (v := .ty "str") rfl T.str' bt_str rfl) pa_nil))))) (pw_or1 (pt_cmpR op_ne (pv 6) (pv 5) (nomark _)))))
    (pss_one (ps_ret pe_bl))
    pss_nil)
   (pss_cons (ps_if (pt_not (pt_val (pe_cal cS hr rfl pass0 (pa_cons (pe_cal cK hr rfl passY (pa_cons (pv 5) pa_nil)) (pa_cons (pv 1) pa_nil)))))
    (pss_one (ps_ret pe_bl))
    pss_nil)
   (pss_cons (ps_if (pt_not (pt_val (pe_cal cS hr rfl pass0 (pa_cons (pe_cal cK hr rfl passY (pa_cons pe_str pa_nil)) (pa_cons (pe_tup (pa_cons (pe_tup (pa_cons pe_str pa_nil)) (pa_cons (pe_tup pa_nil) (pa_cons (pe_tup pa_nil) pa_nil)))) pa_nil)))))
    (pss_one (ps_ret pe_bl))
    pss_nil)
   (pss_one (ps_ret (pe_and (pe_cal cS hr rfl pass0 (pa_cons (pe_cal cK hr rfl passY (pa_cons (pv 5) pa_nil)) (pa_cons (pv 1) pa_nil))) (pe_one (pe_cmpR op_eq (pe_cal cW hr rfl pass0 (pa_cons (pv 1) pa_nil)) (pv 5) (nomark _)))))))))))))),?_⟩
  refine ⟨_,rfl,sc,ns,rfl,hS,fun v ws rs t ps rc H1 s1 bv bk => ?_⟩
  have g0 := bk.g
  refine ⟨_,rfl,sc,ns,rfl,s1.seq hS,fun z c L nw nr t' n' nms H2 s2 hz hc hL _ _ _ _ _ _ _ nl nd wr => ?_⟩
  obtain ⟨nm,hnm⟩ : ∃ x,nms[24]? = some x := ⟨_,List.getElem?_eq_getElem (by omega)⟩
  have wn := wr nm (List.mem_of_getElem? hnm)
  refine ⟨z,_,1,.ref L,rfl,rfl,SqT.of hz,rfl,L,_,24,.str nm,rfl,rfl,SqL.of hL,atI_nat (j := 24) (by rw [List.getElem?_map,hnm]; rfl),?_⟩
  have s02 := s1.trans s2
  dsimp only [L2.gName]
  have bv2 : BookV H2 v ⟨0,0,ws,ps,rc⟩ := by
   obtain ⟨z,a0,a1,a2,u1,u2,rfl,hz,h0,h1,l1,h2,l2⟩ := bv
   exact ⟨z,a0,a1,a2,u1,u2,rfl,s2 _ _ hz,s2 _ _ h0,s2 _ _ h1,l1.imp fun _ _ x => x.keep' s2.tk,s2 _ _ h2,l2.imp fun _ _ x => RecV.tk s2.tk x⟩
  refine seq_nx (fun σ' H' => ∃ (v : V) (ws : List Str) (ps : List (Str × Str)) (rc : List (Str × List Rw)) (v3 v4 : Option V),σ' = [some (.ref sc),some v,some (.str nm),v3,v4,none,none] /\ BookV H' v ⟨0,0,ws,ps,rc⟩ /\ BkG ws ps rc) ?_ (fun N hN => ?_)
  rotate_left
  ·refine ⟨_,rfl,sc,ns,3,rfl,s02.seq hS,by decide,fun c3 => ⟨_,_,rfl,rfl,(by show (0 : Int) < 3; decide),rfl,_,rfl,ite2 (fun _ => ?_) (fun _ => hN _ _ ⟨v,ws,ps,rc,none,none,rfl,bv2,g0⟩)⟩⟩
   obtain ⟨z,a0,a1,a2,u1,u2,rfl,hz,h0,h1,l1,h2,l2⟩ := bv2
   have sZ : SqT K H2 z [.ref a0,.ref a1,.ref a2] := SqT.of hz
   refine ⟨_,rfl,(by show 2 <= sizeLine; decide),fun t1 nt1 => ⟨_,rfl,(by show 3 <= sizeLine; decide),fun t2 nt2 => ⟨(by show 1 <= sizeLine; decide),fun t3 nt3 => ⟨(by show 2 <= sizeLine; decide),fun t4 nt4 => ?_⟩⟩⟩⟩
   have st1 := Same.upd (o := .tup [.int 1,.int 7]) nt1
   have st2 := Same.upd (o := .tup [.str "take",.ref t1,.str nm]) nt2
   have st3 := Same.upd (o := .tup [.ref t2]) nt3
   have st4 := Same.upd (o := .tup [.str nm,.ref t3]) nt4
   have st := ((st1.trans st2).trans st3).trans st4
   have rcv : RecV (upd (upd (upd (upd H2 t1 (.tup [.int 1,.int 7])) t2 (.tup [.str "take",.ref t1,.str nm])) t3 (.tup [.ref t2])) t4 (.tup [.str nm,.ref t3])) (.ref t4) (nm,[.take (1,7) nm]) := ⟨t4,t3,_,rfl,upd_same,st4 _ _ upd_same,L2R.one (.take ((st3.trans st4) _ _ upd_same) (((st2.trans st3).trans st4) _ _ upd_same))⟩
   generalize upd (upd (upd (upd H2 t1 (.tup [.int 1,.int 7])) t2 (.tup [.str "take",.ref t1,.str nm])) t3 (.tup [.ref t2])) t4 (.tup [.str nm,.ref t3]) = H3 at st rcv ⊢
   obtain ⟨w0,hw0⟩ : ∃ w0,ws[0]? = some w0 := ⟨_,List.getElem?_eq_getElem (by have := g0.w1; omega)⟩
   have hw0' := List.mem_of_getElem? hw0
   refine ⟨z,_,_,rfl,st.tup sZ,rfl,_,rfl,z,_,_,rfl,st.tup sZ,rfl,a0,_,0,.str w0,rfl,rfl,SqT.of (st _ _ h0),atI_nat (j := 0) (by rw [List.getElem?_map,hw0]; rfl),(by show 2 <= sizeLine; decide),fun t5 nt5 => ⟨(by show 1 <= sizeLine; decide),fun t6 nt6 => ?_⟩⟩
   have st5 := Same.upd (o := .tup [.str nm,.str w0]) nt5
   have st6 := Same.upd (o := .tup [.ref t5]) nt6
   have st' := st.trans (st5.trans st6)
   have ul1 : u1.length = ps.length := l1.len
   have ul2 : u2.length = rc.length := l2.len
   have p7 : ps.length <= 6 := bk.p6
   have r12 := g0.r12
   refine ⟨a1,t6,u1,_,rfl,rfl,SqT.of (st' _ _ h1),upd_same,by simp,Nat.le_trans (show u1.length + 1 <= 100 by omega) (by decide),fun p1 H4 s4 hp1 => ?_⟩
   have hp5 : H4 t5 = some (.tup [.str nm,.str w0]) := s4 _ _ (st6 _ _ upd_same)
   have s24 := st'.trans s4
   have rec4 : RecV H4 (.ref t4) (nm,[.take (1,7) nm]) := RecV.tk ((st5.trans st6).trans s4).tk rcv
   have pv1 : L2R (PairV H4) (u1 ++ [.ref t5]) (ps ++ [(nm,w0)]) := (l1.imp fun _ _ x => x.keep' s24.tk).snoc ⟨t5,rfl,hp5⟩
   refine ⟨z,_,_,rfl,s24.tup sZ,rfl,_,rfl,z,_,_,rfl,s24.tup sZ,rfl,_,rfl,a2,u2,rfl,s24 _ _ h2,fun p2 H5 s5 hp2 => ?_⟩
   have e11 : cutV u2 none (some (11 : Int)) = u2.take 11 := cut_to' (j := 11)
   rw [e11] at hp2
   refine ⟨_,rfl,(by show 1 <= sizeLine; decide),fun t7 nt7 => ?_⟩
   have st7 := Same.upd (o := .tup [.ref t4]) nt7
   refine ⟨p2,t7,_,_,rfl,rfl,SqT.of (st7 _ _ hp2),upd_same,by simp,Nat.le_trans (show (u2.take 11).length + 1 <= 100 by rw [List.length_take]; omega) (by decide),fun p3 H6 s6 hp3 => ?_⟩
   have s46 := (s5.trans st7).trans s6
   have s26 := s24.trans s46
   refine ⟨(by show 3 <= sizeLine; decide),fun nb nnb => hN _ _ ?_⟩
   have snb := Same.upd (o := .tup [.ref a0,.ref p1,.ref p3]) nnb
   have tkb := (s46.trans snb).tk
   refine ⟨.ref nb,ws,ps ++ [(nm,w0)],rc.take 11 ++ [(nm,[.take (1,7) nm])],_,_,rfl,⟨nb,a0,p1,p3,_,_,rfl,upd_same,(s26.trans snb) _ _ h0,(s46.trans snb) _ _ hp1,pv1.imp fun _ _ x => x.keep' tkb,snb _ _ hp3,?_⟩,?_⟩
   ·exact ((L2R.take l2 11).imp fun _ _ x => RecV.tk (s26.trans snb).tk x).snoc (RecV.tk tkb rec4)
   ·refine ⟨g0.w1,g0.w12,by rw [List.length_append]; show ps.length + 1 <= 7; omega,by rw [List.length_append,List.length_take]; show _ + 1 <= 12; omega,g0.hw,fun x hx => ?_,fun x hx => ?_⟩
    ·rcases List.mem_append.mp hx with h | h
     ·exact g0.hp x h
     ·rw [List.mem_singleton.mp h]; exact ⟨wn,g0.hw _ hw0'⟩
    ·rcases List.mem_append.mp hx with h | h
     ·exact g0.hr x (List.mem_of_mem_take h)
     ·rw [List.mem_singleton.mp h]; exact new_rec wn
  clear bv2 g0 bv bk s02 s1 s2 hz hc hL
  intro σ' H3 hh
  obtain ⟨v,ws,ps,rc,v3,v4,rfl,bv,g⟩ := hh
  refine ⟨rfl,_,rfl,v,_,rfl,bv,g.bkb,fun l ls H4 s4 hl el => ?_⟩
  have els := lines_eq el
  obtain ⟨t1,t2,t3,t4⟩ := g.text els
  obtain ⟨lo,hi,run⟩ := g.run
  rw [<- els] at run
  have bvk : ∀ {Ha Hb : Hp},Same Ha Hb -> BookV Ha v ⟨0,0,ws,ps,rc⟩ -> BookV Hb v ⟨0,0,ws,ps,rc⟩ := fun s h => by
   obtain ⟨z,a0,a1,a2,u1,u2,rfl,hz,h0,h1,l1,h2,l2⟩ := h
   exact ⟨z,a0,a1,a2,u1,u2,rfl,s _ _ hz,s _ _ h0,s _ _ h1,l1.imp fun _ _ x => x.keep' s.tk,s _ _ h2,l2.imp fun _ _ x => RecV.tk s.tk x⟩
  have bv4 := bvk s4 bv
  refine ⟨"\n",l,ls,rfl,rfl,SqL.of hl,by decide +kernel,t1,fun z hz => by rw [lenC]; exact Nat.le_trans (t2 z hz) (by decide),?_⟩
  refine ⟨_,rfl,v,_,rfl,bv4,g.bkb,fun x H5 s5 ex => ?_⟩
  have exx : x = jn "\n" ls := TM.ext (by rw [ex,cps_jn,el]; rfl)
  subst exx
  have bv5 := bvk s5 bv4
  have nofail : ∀ {pre l' post b},Txt.split (jn "\n" ls) NL = pre ++ l' :: post -> Run pre b -> (∀ b',¬ Step b l' b') -> False := fun e r' ns' => by
   rw [t4] at e
   obtain ⟨d0,d1,rc0,sc0⟩ := run.pre _ _ _ e
   have := rc0.det r'
   subst this
   exact ns' _ sc0
  have good : ∀ {b},Run (Txt.split (jn "\n" ls) NL) b -> b = ⟨lo,hi,ws,ps,rc⟩ := fun r' => by
   rw [t4] at r'
   exact r'.det run
  refine ⟨_,rfl,_,"str",true,rfl,.str_str,_,rfl,iteF ⟨_,rfl,_,rfl,rfl,_,rfl,?_⟩⟩
  rw [show (!decide (V.str (jn "\n" ls) = V.str (jn "\n" ls))) = false by simp]
  refine iteF ?_
  refine ⟨_,rfl,_,rfl,.inr ⟨_,rfl,t3,by rw [t4]; exact t1,fun z hz => by rw [t4] at hz; exact t2 z hz,fun b run' u H6 s6 bv6 => ?_,fun pre l' post b e r' ns' => (nofail e r' ns').elim⟩⟩
  rw [good run'] at bv6
  have d1 : Dv K H6 7 u (bookD ⟨lo,hi,ws,ps,rc⟩) := book_dv bv6
  have d2 : Dv K H6 7 v (bookD ⟨0,0,ws,ps,rc⟩) := book_dv (bvk s6 bv5)
  refine ⟨_,rfl,u,v,_,7,rfl,rfl,d1,d2,book_pl _,fun H7 s7 => ⟨_,rfl,iteF ?_⟩⟩
  have bv7 := bvk (s6.trans s7) bv5
  have run1 : Run [("ware a" : Str)] ⟨0,2,[("a" : Str)],[],[]⟩ := by
   have st := step_w (b := B0) wr_a rfl (by decide)
   rw [wa_eq] at st
   exact Run.nil.snoc st
  refine ⟨_,rfl,.inr ⟨_,rfl,by decide +kernel,by rw [wa_split]; decide,by rw [wa_split]; decide +kernel,fun b run' u2 H8 s8 bv8 => ?_,fun pre l' post b e r' ns' => ?_⟩⟩
  rotate_left
  ·exfalso
   rw [wa_split] at e
   obtain ⟨d0,d1,rc0,sc0⟩ := run1.pre _ _ _ e
   have := rc0.det r'
   subst this
   exact ns' _ sc0
  rw [wa_split] at run'
  have eb := run'.det run1
  subst eb
  refine ⟨(by show 1 <= sizeLine; decide),fun y1 ny1 => ⟨(by show 0 <= sizeLine; decide),fun y2 ny2 => ⟨(by show 0 <= sizeLine; decide),fun y3 ny3 => ⟨(by show 3 <= sizeLine; decide),fun y4 ny4 => ?_⟩⟩⟩⟩
  have sy1 := Same.upd (o := .tup [.str "a"]) ny1
  have sy2 := Same.upd (o := .tup []) ny2
  have sy3 := Same.upd (o := .tup []) ny3
  have sy4 := Same.upd (o := .tup [.ref y1,.ref y2,.ref y3]) ny4
  have sy := ((sy1.trans sy2).trans sy3).trans sy4
  have bvy : BookV (upd (upd (upd (upd H8 y1 (.tup [.str "a"])) y2 (.tup [])) y3 (.tup [])) y4 (.tup [.ref y1,.ref y2,.ref y3])) (.ref y4) ⟨0,2,[("a" : Str)],[],[]⟩ := ⟨y4,y1,y2,y3,[],[],rfl,upd_same,((sy2.trans sy3).trans sy4) _ _ upd_same,(sy3.trans sy4) _ _ upd_same,L2R.nil,sy4 _ _ upd_same,L2R.nil⟩
  have e1 : Dv K _ 7 u2 (bookD ⟨0,2,[("a" : Str)],[],[]⟩) := (book_dv bv8).keep (s_tk sy)
  have e2 : Dv K _ 7 (.ref y4) (bookD ⟨0,2,[("a" : Str)],[],[]⟩) := book_dv bvy
  refine ⟨u2,.ref y4,_,7,rfl,rfl,e1,e2,book_pl _,fun H9 s9 => ⟨_,rfl,iteF ?_⟩⟩
  have bv9 := bvk ((s8.trans sy).trans s9) bv7
  refine ⟨_,rfl,_,rfl,.inr ⟨_,rfl,t3,by rw [t4]; exact t1,fun z hz => by rw [t4] at hz; exact t2 z hz,fun b run' u H10 s10 bv10 => ?_,fun pre l' post b e r' ns' => (nofail e r' ns').elim⟩⟩
  rw [good run'] at bv10
  have d1 : Dv K H10 7 u (bookD ⟨lo,hi,ws,ps,rc⟩) := book_dv bv10
  have d2 : Dv K H10 7 v (bookD ⟨0,0,ws,ps,rc⟩) := book_dv (bvk s10 bv9)
  refine ⟨_,rfl,u,v,_,7,rfl,rfl,d1,d2,book_pl _,fun H11 s11 => ⟨_,rfl,iteT ?_⟩⟩
  refine ⟨_,rfl,v,_,rfl,bvk (s10.trans s11) bv9,g.bkb,fun x2 H12 s12 ex2 => ?_⟩
  have exx2 : x2 = jn "\n" ls := TM.ext (by rw [ex2,cps_jn,el]; rfl)
  subst exx2
  refine ⟨_,rfl,rfl,?_⟩
  rw [show decide (V.str (jn "\n" ls) = V.str (jn "\n" ls)) = true by simp]
  exact k _
end
end K11
namespace K11
open PySem PySem.Spec PyProof.Rows L2 GM TM BQ
structure Dn (K : PySem.W.Frag) (x : Str) (st : Stmt) (ps : List Str) : Prop where
 ex : ∃ (f : Addr) (fd : FuncData),PySem.W.nsIn K mainGlobals x = some (some (.ref f)) /\ Fun K x x st f fd /\ Binds K fd ps []
theorem Dn.mk' {K : PySem.W.Frag} {x : Str} {st : Stmt} {ps : List Str} {f : Addr} {oc : Value} {od an : Option Addr} {osl : Array (Option Value)} {kV doc pm cdv ct : Value} (a : PySem.W.nsIn K mainGlobals x = some (some (.ref f)))
  (l : K.lookup f = some ⟨oc,od,.func (PySem.W.fnOf x x (defArgs st) (defBody st) (defScope st) .none kV doc pm an cdv ct),osl⟩) (c : PySem.W.codeIn K cdv x = true) (k : PySem.W.keepIn K (.ref f) = true)
  (hb : ∀ (kV doc pm : Value) (an : Option Addr) (cdv ct : Value) (us : List Value),us.length = ps.length -> bindArgs (PySem.W.fnOf x x (defArgs st) (defBody st) (defScope st) .none kV doc pm an cdv ct) ⟨us,[]⟩ = pure (ps.zip us)) : Dn K x st ps :=
 ⟨f,_,a,fun_mk (st := st) l c k,(fun_mk (st := st) l c k).binds hb⟩
theorem Dn.cal {P : Program} {w : World} {K : PySem.W.Frag} {mg : Str -> Option Value} {base h : Heap} {CX : CXT} {k : Nat} {x : Str} {st : Stmt} {ps : List Str} {sp : Sp} (D : Dn K x st ps) (X : K.In h) (G : h.Ns mainGlobals mg)
  (ok : ∀ {f : Addr} {fd : FuncData},Fun K x x st f fd -> FnOk P w K mg base CX k f fd ps sp) : Cal P w K mg base CX k x ps sp := by
 obtain ⟨f,fd,a,F,b⟩ := D.ex
 exact ⟨f,fd,PySem.W.mg_of X G a,F.kp,b,ok F⟩
theorem mst_mk {K : PySem.W.Frag} {tk : Tok} {x : Str} {n : Int} (h : PySem.W.nsIn K mainGlobals x = some (some (.int n tk))) : ∃ tk : Tok,PySem.W.nsIn K mainGlobals x = some (some (.int n tk)) := ⟨_,h⟩
theorem fgs_mk {K : PySem.W.Frag} {tk : Tok} {x y z : Str} (h : PySem.W.nsIn K mainGlobals z = some (some (.str x tk))) (e : x = y) : ∃ tk : Tok,PySem.W.nsIn K mainGlobals z = some (some (.str y tk)) := ⟨_,e ▸ h⟩
structure KdK (K : PySem.W.Frag) (aK aM : Addr) (oK : Obj) : Prop where
 m1 : PySem.W.nsIn K mainGlobals "KINDS" = some (some (.ref aK))
 s1 : ∀ H : Hp,SqT K H aK KND
 l1 : K.lookup aK = some oK
 c1 : oK.cls = .type "tuple"
 d1 : oK.dict = none
 m2 : PySem.W.nsIn K mainGlobals "MOST_OF_KIND" = some (some (.ref aM))
 s2 : ∀ H : Hp,SqT K H aM MKD
theorem KdK.mk' {K : PySem.W.Frag} {aK aM : Addr} {od : Option Addr} {x0 x1 x2 : Str} {t0 t1 t2 u0 u1 u2 : Tok} {n1 n2 : Nat} {sl1 sl2 : Array (Option Value)} (a : PySem.W.nsIn K mainGlobals "KINDS" = some (some (.ref aK))) (l : K.lookup aK = some ⟨.type "tuple",none,.seq #[.str x0 t0,.str x1 t1,.str x2 t2] n1,sl1⟩)
  (b : PySem.W.nsIn K mainGlobals "MOST_OF_KIND" = some (some (.ref aM))) (r : K.lookup aM = some ⟨.type "tuple",od,.seq #[.int 20 u0,.int 30 u1,.int 12 u2] n2,sl2⟩) (e0 : x0 = "ware") (e1 : x1 = "apart") (e2 : x2 = "recipe") : ∃ (aK aM : Addr) (oK : Obj),KdK K aK aM oK := by
 subst e0 e1 e2
 exact ⟨aK,aM,_,a,fun _ => .inr ⟨_,_,_,l,rfl,rfl,(by show 3 <= sizeLine; decide),.cons ⟨_,rfl⟩ (.cons ⟨_,rfl⟩ (.cons ⟨_,rfl⟩ .nil))⟩,l,rfl,rfl,b,fun _ => .inr ⟨_,_,_,r,rfl,rfl,(by show 3 <= sizeLine; decide),.cons ⟨_,rfl⟩ (.cons ⟨_,rfl⟩ (.cons ⟨_,rfl⟩ .nil))⟩⟩
structure ErNK (K : PySem.W.Frag) (cP c0 fI : Addr) : Prop where
 ef : ExF K c0 cP fI "row"
 ct : CtK K cP
 ctN : CtK K c0
 s : PySem.W.subIn K (.ref c0) (.ref cP) = some true
 sN : PySem.W.subIn K (.ref c0) (.ref c0) = some true
 bi : BaseI K cP
 iP : PySem.W.kitOne K (.ref c0) (.ref cP) = some true
 iV : PySem.W.kitOne K (.ref c0) (.type "ValueError") = some true
 mP : PySem.W.nsIn K mainGlobals "PhialError" = some (some (.ref cP))
 m0 : PySem.W.nsIn K mainGlobals "NoText" = some (some (.ref c0))
 i0 : PySem.W.kitOne K (.ref c0) (.ref c0) = some true
 fn : ∃ fd : FuncData,Fun K "__init__" "NoText.__init__" sInit fI fd /\ Binds K fd ["self","row"] []
theorem ErNK.er {K : PySem.W.Frag} {mg : Str -> Option Value} {h : Heap} {cP c0 fI : Addr} (E : ErNK K cP c0 fI) (X : K.In h) (G : h.Ns mainGlobals mg) : ErN K mg cP c0 fI :=
 ⟨E.ef,E.ct,E.ctN,E.s,E.sN,E.bi,E.iP,E.iV,PySem.W.mg_of X G E.mP,PySem.W.mg_of X G E.m0,E.i0⟩
theorem fnI_mk {K : PySem.W.Frag} {f : Addr} {oc : Value} {od an : Option Addr} {osl : Array (Option Value)} {kV doc pm cdv ct : Value}
  (l : K.lookup f = some ⟨oc,od,.func (PySem.W.fnOf "__init__" "NoText.__init__" (defArgs sInit) (defBody sInit) (defScope sInit) .none kV doc pm an cdv ct),osl⟩) (c : PySem.W.codeIn K cdv "NoText.__init__" = true) (k : PySem.W.keepIn K (.ref f) = true) :
  ∃ fd : FuncData,Fun K "__init__" "NoText.__init__" sInit f fd /\ Binds K fd ["self","row"] [] :=
 ⟨_,fun_mk (st := sInit) l c k,(fun_mk (st := sInit) l c k).binds fun _ _ _ _ _ _ us hl => match us,hl with | [_,_],_ => rfl⟩
theorem err_mk {K : PySem.W.Frag} {cP c0 fI : Addr} {od : Option Addr} {cd : ClassData} {sl : Array (Option Value)}
  (mP : PySem.W.nsIn K mainGlobals "PhialError" = some (some (.ref cP)))
  (m0 : PySem.W.nsIn K mainGlobals "NoText" = some (some (.ref c0)))
  (_lk : K.lookup c0 = some ⟨.type "type",od,.cls cd,sl⟩) (_ni : PySem.W.nsIn K cd.ns "__init__" = some (some (.ref fI)))
  (ef : ExF K c0 cP fI "row")
  (ct : CtK K cP)
  (ctN : CtK K c0)
  (s : PySem.W.subIn K (.ref c0) (.ref cP) = some true)
  (sN : PySem.W.subIn K (.ref c0) (.ref c0) = some true)
  (bi : BaseI K cP)
  (iP : PySem.W.kitOne K (.ref c0) (.ref cP) = some true)
  (iV : PySem.W.kitOne K (.ref c0) (.type "ValueError") = some true)
  (i0 : PySem.W.kitOne K (.ref c0) (.ref c0) = some true)
  (fn : ∃ fd : FuncData,Fun K "__init__" "NoText.__init__" sInit fI fd /\ Binds K fd ["self","row"] []) : ∃ cP c0 fI : Addr,ErNK K cP c0 fI :=
 ⟨_,_,_,ef,ct,ctN,s,sN,bi,iP,iV,mP,m0,i0,fn⟩
structure AllD (K : PySem.W.Frag) : Prop where
 dGcd : Dn K "common_divisor" sGcd ["one","other"]
 dLow : Dn K "lowest_terms" sLow ["top","bottom"]
 dShown : Dn K "shown_amount" sShown ["one"]
 dRf : Dn K "read_figures" sRf ["word"]
 dRa : Dn K "read_amount" sRa ["text"]
 dIsWare : Dn K "is_ware" sIsWare ["thing"]
 dBook : Dn K "read_book" sBook ["text"]
 dKindOf : Dn K "kind_of" sKindOf ["line"]
 dEntry : Dn K "read_entry" sEntry ["kind","rest"]
 dAon : Dn K "all_or_none" sAon ["parts"]
 dName : Dn K "read_name" sName ["word"]
 dApart : Dn K "read_apart" sApart ["rest"]
 dRecipe : Dn K "read_recipe" sRecipe ["rest"]
 dRow : Dn K "read_row" sRow ["text"]
 dParts : Dn K "read_parts" sParts ["rest"]
 dShare : Dn K "read_share" sShare ["text"]
 dRowAm : Dn K "read_row_amount" sRowAm ["word"]
 dNumber : Dn K "read_number" sNumber ["word"]
 dCell : Dn K "_law_cell_at" sCell ["_law_script","_law_k"]
 dLeft : Dn K "_law_left" sLeft ["_law_script","_law_k"]
 dNext : Dn K "_law_next" sNext ["_law_left_here","_law_many"]
 dNames : Dn K "_law_names" sNames ["_law_left_here","_law_many"]
 dWhole : Dn K "_law_whole" sWhole ["_law_found"]
 dAmT : Dn K "_law_amount_text" sAmT ["_law_one"]
 dRowT : Dn K "_law_row_text" sRowT ["_law_row_here"]
 dLines : Dn K "_law_lines" sLines ["_law_book_here"]
 dSame : Dn K "_law_same" sSame ["_law_found","_law_due"]
 dShB : Dn K "shown_book" sShB ["book"]
 dShRec : Dn K "shown_recipe" sShRec ["name","rows"]
 dShRow : Dn K "shown_row" sShRow ["row"]
 dShP : Dn K "shown_parts" sShP ["all_of_it","pairs"]
 dDiv : Dn K "_law_divisor" sDiv ["_law_one","_law_other"]
 dLlow : Dn K "_law_low" sLlow ["_law_top","_law_bottom"]
 dLam : Dn K "_law_amount" sLam ["_law_left_here"]
 dLparts : Dn K "_law_parts" sLparts ["_law_left_here","_law_allowed"]
 dFilled : Dn K "_law_filled" sFilled ["_law_left_here","_law_thing","_law_lies"]
 dLrow : Dn K "_law_row" sLrow ["_law_left_here","_law_allowed","_law_lies"]
 dBehind : Dn K "_law_behind" sBehind ["_law_lies","_law_row_here"]
 dLower : Dn K "_law_lower" sLower ["_law_recipes_here","_law_j","_law_turn"]
 dLrecs : Dn K "_law_recipes" sLrecs ["_law_script","_law_wares","_law_recipes_here","_law_turn","_law_places"]
 dLapart : Dn K "_law_apart" sLapart ["_law_script","_law_wares","_law_many"]
 dBegun : Dn K "_law_begun" sBegun ["_law_script"]
 dLbook : Dn K "_law_book" sLbook ["_law_script"]
 z0 : PySem.W.nsIn K mainGlobals "isinstance" = some none
 z1 : PySem.W.nsIn K mainGlobals "int" = some none
 z2 : PySem.W.nsIn K mainGlobals "bool" = some none
 z3 : PySem.W.nsIn K mainGlobals "str" = some none
 z4 : PySem.W.nsIn K mainGlobals "list" = some none
 z5 : PySem.W.nsIn K mainGlobals "tuple" = some none
 z6 : PySem.W.nsIn K mainGlobals "len" = some none
 z7 : PySem.W.nsIn K mainGlobals "any" = some none
 z8 : PySem.W.nsIn K mainGlobals "all" = some none
 z9 : PySem.W.nsIn K mainGlobals "range" = some none
 z10 : PySem.W.nsIn K mainGlobals "min" = some none
 z11 : PySem.W.nsIn K mainGlobals "abs" = some none
 z12 : PySem.W.nsIn K mainGlobals "enumerate" = some none
 z13 : PySem.W.nsIn K mainGlobals "zip" = some none
 z14 : PySem.W.nsIn K mainGlobals "ValueError" = some none
 z15 : PySem.W.nsIn K mainGlobals "max" = some none
 err : ∃ cP c0 fI : Addr,ErNK K cP c0 fI
 kd : ∃ (aK aM : Addr) (oK : Obj),KdK K aK aM oK
 mMR : ∃ tk : Tok,PySem.W.nsIn K mainGlobals "MOST_ROWS" = some (some (.int 6 tk))
 mMP : ∃ tk : Tok,PySem.W.nsIn K mainGlobals "MOST_PAIRS" = some (some (.int 4 tk))
 mMN : ∃ tk : Tok,PySem.W.nsIn K mainGlobals "MOST_NUMBER" = some (some (.int 1000 tk))
 mMA : ∃ tk : Tok,PySem.W.nsIn K mainGlobals "MOST_IN_AMOUNT" = some (some (.int 999999999 tk))
 mMF : ∃ tk : Tok,PySem.W.nsIn K mainGlobals "MOST_FIGURES" = some (some (.int 60 tk))
 mML : ∃ tk : Tok,PySem.W.nsIn K mainGlobals "MOST_LETTERS" = some (some (.int 8 tk))
 mFG : ∃ tk : Tok,PySem.W.nsIn K mainGlobals "FIGURES" = some (some (.str K11.FIG tk))
 mLE : ∃ tk : Tok,PySem.W.nsIn K mainGlobals "LETTERS" = some (some (.str TM.LET tk))
theorem AllD.txt {K : PySem.W.Frag} {mg : Str -> Option Value} {h : Heap} (A : AllD K) (X : K.In h) (G : h.Ns mainGlobals mg) : Txt mg := ⟨PySem.W.mg_none_of X G A.z0,PySem.W.mg_none_of X G A.z1,PySem.W.mg_none_of X G A.z2,PySem.W.mg_none_of X G A.z3,PySem.W.mg_none_of X G A.z4,PySem.W.mg_none_of X G A.z5,PySem.W.mg_none_of X G A.z6,PySem.W.mg_none_of X G A.z7,PySem.W.mg_none_of X G A.z8,PySem.W.mg_none_of X G A.z9,PySem.W.mg_none_of X G A.z10,PySem.W.mg_none_of X G A.z11,PySem.W.mg_none_of X G A.z12,PySem.W.mg_none_of X G A.z13,PySem.W.mg_none_of X G A.z14,PySem.W.mg_none_of X G A.z15⟩
theorem law_ok {P : Program} {w : World} {K : PySem.W.Frag} {mg : Str -> Option Value} {base h : Heap} {f : Addr} {fd : FuncData} (X : K.In h) (G : h.Ns mainGlobals mg) (A : AllD K) (F : Fun K "law" "law" sLaw f fd) : FnOk P w K mg base CX0 11 f fd ["_law_script"] (spLaw K) := by
 have T : Txt mg := A.txt X G
 obtain ⟨cP,c0,fI,EK⟩ := A.err
 have R := EK.er X G
 obtain ⟨fdI,FI,bI⟩ := EK.fn
 have kI : FnOk P w K mg base CX0 1 fI fdI ["self","row"] (spInit c0) := ok_init FI R
 obtain ⟨aK,aM,oK,KK⟩ := A.kd
 obtain ⟨tmMR,mMR⟩ := A.mMR
 obtain ⟨tmMP,mMP⟩ := A.mMP
 obtain ⟨tmMN,mMN⟩ := A.mMN
 obtain ⟨tmMA,mMA⟩ := A.mMA
 obtain ⟨tmMF,mMF⟩ := A.mMF
 obtain ⟨tmML,mML⟩ := A.mML
 obtain ⟨tmFG,mFG⟩ := A.mFG
 obtain ⟨tmLE,mLE⟩ := A.mLE
 have cG : Cal P w K mg base CX0 1 "common_divisor" ["one","other"] spGcd := A.dGcd.cal X G ok_gcd
 have cLow : Cal P w K mg base CX0 2 "lowest_terms" ["top","bottom"] spLow := A.dLow.cal X G fun F => ok_low F cG
 have cSh : Cal P w K mg base CX0 1 "shown_amount" ["one"] (spShown K) := A.dShown.cal X G ok_shown
 have cRf : Cal P w K mg base CX0 1 "read_figures" ["word"] spRf := A.dRf.cal X G fun F => ok_rf F T (PySem.W.mg_of X G mMF) (PySem.W.mg_of X G mFG)
 have cRa : Cal P w K mg base (CXg P w) 3 "read_amount" ["text"] (spRa K c0) := A.dRa.cal X G fun F => ok_ra F T R kI bI (cRf.mono (by decide)) cLow (cSh.mono (by decide))
 have cIw : Cal P w K mg base CX0 1 "is_ware" ["thing"] (spIsWare K) := A.dIsWare.cal X G fun F => ok_isware F T (PySem.W.mg_of X G mML) (PySem.W.mg_of X G mLE)
 have cNa : Cal P w K mg base CX0 3 "read_name" ["word"] (spOp NameR NameV) := A.dName.cal X G fun F => ok_name F (cIw.mono (by decide))
 have cNu : Cal P w K mg base CX0 3 "read_number" ["word"] (spOp NumR NumV) := A.dNumber.cal X G fun F => ok_number F (PySem.W.mg_of X G mMN) (cRf.mono (by decide))
 have cRm : Cal P w K mg base CX0 4 "read_row_amount" ["word"] (spOp AmR AmW) := A.dRowAm.cal X G fun F => ok_rowam F R (PySem.W.mg_of X G mMA) cRa
 have cAo : Cal P w K mg base CX0 1 "all_or_none" ["parts"] spAon := A.dAon.cal X G fun F => ok_aon F T
 have cShr : Cal P w K mg base CX0 5 "read_share" ["text"] (spOp ShareR PrV) := A.dShare.cal X G fun F => ok_share F T (cAo.mono (by decide)) (cNu.mono (by decide)) (cNa.mono (by decide))
 have cAp : Cal P w K mg base CX0 5 "read_apart" ["rest"] (spOp PairR PairV) := A.dApart.cal X G fun F => ok_apart F T (cAo.mono (by decide)) (cNa.mono (by decide))
 have cPa : Cal P w K mg base CX0 6 "read_parts" ["rest"] (spOp PartsR RowV) := A.dParts.cal X G fun F => ok_parts F T (PySem.W.mg_of X G mMP) (cAo.mono (by decide)) cShr (cRm.mono (by decide))
 have cRo : Cal P w K mg base CX0 7 "read_row" ["text"] (spOp RowR RowV) := A.dRow.cal X G fun F => ok_row F T (cAo.mono (by decide)) cPa (cRm.mono (by decide)) (cNu.mono (by decide)) (cNa.mono (by decide))
 have cRe : Cal P w K mg base CX0 8 "read_recipe" ["rest"] (spOp RecR RecV) := A.dRecipe.cal X G fun F => ok_recipe F T (PySem.W.mg_of X G mMR) (cAo.mono (by decide)) cRo (cNa.mono (by decide))
 have cKo : Cal P w K mg base CX0 1 "kind_of" ["line"] spKO := A.dKindOf.cal X G fun F => ok_kindof F T (PySem.W.mg_of X G KK.m1) KK.s1 KK.l1 KK.c1 KK.d1
 have cEn : Cal P w K mg base CX0 9 "read_entry" ["kind","rest"] spEntry := A.dEntry.cal X G fun F => ok_entry F (PySem.W.mg_of X G KK.m1) KK.s1 (cNa.mono (by decide)) (cAp.mono (by decide)) cRe
 have cBk : Cal P w K mg base (CXg P w) 10 "read_book" ["text"] (spBook K c0) := A.dBook.cal X G fun F => ok_book F T R kI bI (PySem.W.mg_of X G KK.m1) KK.s1 (PySem.W.mg_of X G KK.m2) KK.s2 (cKo.mono (by decide)) cEn
 have cC : Cal P w K mg base CX0 1 "_law_cell_at" ["_law_script","_law_k"] (spCell K) := A.dCell.cal X G fun F => ok_cell F T
 have cL : Cal P w K mg base CX0 2 "_law_left" ["_law_script","_law_k"] (spLeft K) := A.dLeft.cal X G fun F => ok_left F T cC
 have cN : Cal P w K mg base CX0 1 "_law_next" ["_law_left_here","_law_many"] spNext := A.dNext.cal X G fun F => ok_next F T
 have cNm : Cal P w K mg base CX0 2 "_law_names" ["_law_left_here","_law_many"] spNames := A.dNames.cal X G fun F => ok_names F T cN
 have cW : Cal P w K mg base CX0 1 "_law_whole" ["_law_found"] spWhole := A.dWhole.cal X G fun F => ok_whole F T
 have cAt : Cal P w K mg base CX0 1 "_law_amount_text" ["_law_one"] spAmT := A.dAmT.cal X G fun F => ok_amt F T
 have cRt : Cal P w K mg base CX0 2 "_law_row_text" ["_law_row_here"] spRowT := A.dRowT.cal X G fun F => ok_rowt F T cAt
 have cLi : Cal P w K mg base CX0 3 "_law_lines" ["_law_book_here"] spLines := A.dLines.cal X G fun F => ok_lines F cRt
 have cSa : ∀ n : Nat,Cal P w K mg base CX0 (n + 1) "_law_same" ["_law_found","_law_due"] (spSame K n) := fun n => by
  induction n with
  | zero => exact A.dSame.cal X G fun _ => no_same
  | succ n ih => exact A.dSame.cal X G fun F => ok_same F T (cW.mono (by omega)) ih
 have cSp : Cal P w K mg base CX0 2 "shown_parts" ["all_of_it","pairs"] spShP := A.dShP.cal X G fun F => ok_shp F cSh
 have cSr : Cal P w K mg base CX0 3 "shown_row" ["row"] spShRow := A.dShRow.cal X G fun F => ok_shrow F (cSh.mono (by decide)) cSp
 have cSe : Cal P w K mg base CX0 4 "shown_recipe" ["name","rows"] spShRec := A.dShRec.cal X G fun F => ok_shrec F cSr
 have cSb : Cal P w K mg base CX0 5 "shown_book" ["book"] spShB := A.dShB.cal X G fun F => ok_shb F cSe
 have cDv : Cal P w K mg base CX0 1 "_law_divisor" ["_law_one","_law_other"] spGcd := A.dDiv.cal X G ok_div
 have cLl : Cal P w K mg base CX0 2 "_law_low" ["_law_top","_law_bottom"] spLow := A.dLlow.cal X G fun F => ok_llow F cDv
 have cAm : Cal P w K mg base CX0 3 "_law_amount" ["_law_left_here"] spLam := A.dLam.cal X G fun F => ok_lam F (cN.mono (by decide)) cLl
 have cLp : Cal P w K mg base CX0 4 "_law_parts" ["_law_left_here","_law_allowed"] spLparts := A.dLparts.cal X G fun F => ok_lparts F T (cN.mono (by decide)) cAm
 have cFi : Cal P w K mg base CX0 4 "_law_filled" ["_law_left_here","_law_thing","_law_lies"] spFilled := A.dFilled.cal X G fun F => ok_filled F (cN.mono (by decide)) cAm (cLl.mono (by decide))
 have cLr : Cal P w K mg base CX0 5 "_law_row" ["_law_left_here","_law_allowed","_law_lies"] spLrow := A.dLrow.cal X G fun F => ok_lrow F T (cN.mono (by decide)) (cAm.mono (by decide)) cLp cFi
 have cBh : Cal P w K mg base CX0 3 "_law_behind" ["_law_lies","_law_row_here"] spBehind := A.dBehind.cal X G fun F => ok_behind F cLl
 have cLo : Cal P w K mg base CX0 1 "_law_lower" ["_law_recipes_here","_law_j","_law_turn"] spLower := A.dLower.cal X G fun F => ok_lower F T
 have cRs : Cal P w K mg base CX0 6 "_law_recipes" ["_law_script","_law_wares","_law_recipes_here","_law_turn","_law_places"] (spLrecs K) := A.dLrecs.cal X G fun F => ok_lrecs F T (cL.mono (by decide)) (cN.mono (by decide)) (cLo.mono (by decide)) cLr (cBh.mono (by decide))
 have cAa : Cal P w K mg base CX0 6 "_law_apart" ["_law_script","_law_wares","_law_many"] (spLapart K) := A.dLapart.cal X G fun F => ok_lapart F T (cL.mono (by decide)) (cN.mono (by decide))
 have cBe : Cal P w K mg base CX0 6 "_law_begun" ["_law_script"] (spBegun K) := A.dBegun.cal X G fun F => ok_begun F (cL.mono (by decide)) (cN.mono (by decide)) (cNm.mono (by decide))
 have cLb : Cal P w K mg base CX0 7 "_law_book" ["_law_script"] (spLbook K) := A.dLbook.cal X G fun F => ok_lbook F T cBe cRs cAa
 exact ok_law F T (cLb.mono (by decide)) (cBe.mono (by decide)) (cC.mono (by decide)) (cLi.mono (by decide)) (cSb.mono (by decide)) ((cSa 8).mono (by decide)) cBk
theorem all_mk {l : PySem.W.OpenLaw} {w : World} {K : PySem.W.Frag} {h : Heap} {mg : Str -> Option Value} {fa f4 : Addr} (X : K.In h) (G : h.Ns mainGlobals mg) (hfa : mg "law" = some (.ref fa)) (A : AllD K)
  {od4 an4 : Option Addr} {sl4 : Array (Option Value)} {oc4 kV4 dc4 pm4 cd4 ct4 : Value}
  (a4 : PySem.W.nsIn K mainGlobals "law" = some (some (.ref f4))) (l4 : K.lookup f4 = some ⟨oc4,od4,.func (PySem.W.fnOf "law" "law" (defArgs sLaw) (defBody sLaw) (defScope sLaw) .none kV4 dc4 pm4 an4 cd4 ct4),sl4⟩) (c4 : PySem.W.codeIn K cd4 "law" = true) (k4 : PySem.W.keepIn K (.ref f4) = true) :
  ∃ fd : FuncData,(∀ (s : Shared) (v : Value),BindsTo s fd ⟨[v],[]⟩ [("_law_script",v)]) /\ ∀ base : Heap,K.In base -> base.Ns mainGlobals mg -> FnOk l.prog w K mg base CX0 11 fa fd ["_law_script"] (spLaw K) := by
 have e := hfa.symm.trans (PySem.W.mg_of X G a4)
 cases e
 exact ⟨PySem.W.fnOf "law" "law" (defArgs sLaw) (defBody sLaw) (defScope sLaw) .none kV4 dc4 pm4 an4 cd4 ct4,fun s v => .of_eq rfl,fun base _ _ => law_ok X G A (fun_mk (st := sLaw) l4 c4 k4)⟩
theorem walk {l : PySem.W.OpenLaw} {q : Program} {loose : List Str} {XP : (Str -> Option Value) -> Heap -> Prop} {YP : World -> Heap -> Prop} {d : DefRec} {K : Params -> PySem.W.Frag} (hn : l.most = some 63) (hdf : d.params.defaults = [])
  (hY : ∀ (w : World) (h : Heap),YP w h -> (K w.params).In h)
  (F : ∀ (w : World) (mg : Str -> Option Value) (fa : Addr) (h : Heap),(K w.params).In h -> h.Ns mainGlobals mg -> mg d.name = some (.ref fa) ->
   ∃ fd : FuncData,(∀ (s : Shared) (u : Value),BindsTo s fd ⟨[u],[]⟩ [("_law_script",u)]) /\ ∀ base : Heap,(K w.params).In base -> base.Ns mainGlobals mg -> FnOk l.prog w (K w.params) mg base CX0 11 fa fd ["_law_script"] (spLaw (K w.params))) :
  PySem.W.WalkO q loose XP YP l.row.toRowW d [] (fun f vs => PySem.call f vs) :=
 L2.walk_of (n := 63) (k := 11) (x := "_law_script") (CX := fun _ => CX0) (sp := fun w => spLaw (K w.params)) hn (by decide) hdf ⟨rfl,by decide,by decide⟩ hY F (fun _ _ a ns hl _ hS => ⟨a,ns,rfl,hS,hl,fun _ => rfl⟩) fun _ _ _ _ _ z => z
end K11
def PySem.W.Fast.tw10980775742663249457 : Unit := ()
def PySem.W.Fast.tw3802356147010112058 : Unit := ()
def PySem.W.Fast.tw14201137620465385548 : Unit := ()
def PySem.W.Fast.tw15966298117784844965 : Unit := ()
def PySem.W.Fast.tw6825757150016455368 : Unit := ()
def PySem.W.Fast.tw11728149080339583669 : Unit := ()
def PySem.W.Fast.tw1252813616592937614 : Unit := ()
def PySem.W.Fast.tw9793471323285669587 : Unit := ()
def PySem.W.Fast.tw11151958915219458444 : Unit := ()
def PySem.W.Fast.tw4511233309349372834 : Unit := ()
def PySem.W.Fast.tw10733820280215756260 : Unit := ()
def PySem.W.Fast.tw8358355398497631615 : Unit := ()
def PySem.W.Fast.tw9110877584130964533 : Unit := ()
def PySem.W.Fast.tw10860915348396493883 : Unit := ()
def PySem.W.Fast.tw4935427954895357400 : Unit := ()
def PySem.W.Fast.tw3535649780778040938 : Unit := ()
def PySem.W.Fast.tw1145471778364003644 : Unit := ()
def PySem.W.Fast.tw7303827081921462003 : Unit := ()
def PySem.W.Fast.tw139582525734316961 : Unit := ()
def PySem.W.Fast.tw16641722459185651609 : Unit := ()
def PySem.W.Fast.tw2721973439692176778 : Unit := ()
def PySem.W.Fast.tw6144780740623688846 : Unit := ()
def PySem.W.Fast.tw4208525930026796715 : Unit := ()
def PySem.W.Fast.tw18093958319623149903 : Unit := ()
def PySem.W.Fast.tw6325442719386991940 : Unit := ()
def PySem.W.Fast.tw4505615570040655869 : Unit := ()
def PySem.W.Fast.tw1548894681183342889 : Unit := ()
def PySem.W.Fast.tw15543008415060663932 : Unit := ()
def PySem.W.Fast.tw15328676702485302808 : Unit := ()
def PySem.W.Fast.tw8370072436772422220 : Unit := ()
def PySem.W.Fast.tw14983134388166921997 : Unit := ()
def PySem.W.Fast.tw7693231936856462160 : Unit := ()
def PySem.W.Fast.tw10179395486515736081 : Unit := ()
def PySem.W.Fast.tw12649045211407141370 : Unit := ()
def PySem.W.Fast.tw12239128662421260579 : Unit := ()
def PySem.W.Fast.tw549927095962567522 : Unit := ()
def PySem.W.Fast.tw17553582997384269637 : Unit := ()
def PySem.W.Fast.tw420683676608839304 : Unit := ()
def PySem.W.Fast.tw14580265843886595513 : Unit := ()
def PySem.W.Fast.tw17437982830799694631 : Unit := ()
def PySem.W.Fast.tw543802587467614477 : Unit := ()
def PySem.W.Fast.tw13684021744014886033 : Unit := ()
def PySem.W.Fast.tw16034030864252703519 : Unit := ()
def PySem.W.Fast.tw5796255561010052853 : Unit := ()
def PySem.W.Fast.tw16988148435466722242 : Unit := ()
def PySem.W.Fast.tw5465801761564938514 : Unit := ()
def PySem.W.Fast.tw374381304491969607 : Unit := ()
def PySem.W.Fast.tw8183807641594662087 : Unit := ()
def PySem.W.Fast.tw14357859552123798302 : Unit := ()
def PySem.W.Fast.tw14259917033480596061 : Unit := ()
def PySem.W.Fast.tw5382457008437958601 : Unit := ()
def PySem.W.Fast.tw11113332819513677978 : Unit := ()
def PySem.W.Fast.tw17469341810032906209 : Unit := ()
def PySem.W.Fast.tw14052164041612149385 : Unit := ()
def PySem.W.Fast.tw8176786772821461303 : Unit := ()
def PySem.W.Fast.tw3313774447525559682 : Unit := ()
def PySem.W.Fast.tw8686322545469461268 : Unit := ()
def PySem.W.Fast.tw4689585775919044545 : Unit := ()
def PySem.W.Fast.tw16913678051877765974 : Unit := ()
def PySem.W.Fast.tw12949287905373225191 : Unit := ()
open PySem PySem.W PyProof.Rows
set_option maxRecDepth 100000 in
set_option maxHeartbeats 0 in
theorem PySem.Challenge.cw_phialhouse_k11_books_written_holds : PySem.Challenge.rw_phialhouse_k11_books_written.Holds := by
 w_on; o_law; k_head; (case hw => w_witness2)
 k_fill
 refine K11.walk (l := PySem.Challenge.rw_phialhouse_k11_books_written) rfl rfl (fun w h Y => PySem.W.kIn_of Y) ?F
 case F =>
  intro w mg fa h KX G hmg
  have dGcd : K11.Dn (L2.KOf KX) "common_divisor" K11.sGcd ["one","other"] := by
   dsimp only [L2.KOf]
   refine' K11.Dn.mk' ?a ?l ?c ?k ?b
   (case a => k_is); (case l => k_is); (case c => k_is); (case k => k_is)
   (case b => exact fun _ _ _ _ _ _ us hl => match us,hl with | [_,_],_ => rfl)
  have dLow : K11.Dn (L2.KOf KX) "lowest_terms" K11.sLow ["top","bottom"] := by
   dsimp only [L2.KOf]
   refine' K11.Dn.mk' ?a ?l ?c ?k ?b
   (case a => k_is); (case l => k_is); (case c => k_is); (case k => k_is)
   (case b => exact fun _ _ _ _ _ _ us hl => match us,hl with | [_,_],_ => rfl)
  have dShown : K11.Dn (L2.KOf KX) "shown_amount" K11.sShown ["one"] := by
   dsimp only [L2.KOf]
   refine' K11.Dn.mk' ?a ?l ?c ?k ?b
   (case a => k_is); (case l => k_is); (case c => k_is); (case k => k_is)
   (case b => exact fun _ _ _ _ _ _ us hl => match us,hl with | [_],_ => rfl)
  have dRf : K11.Dn (L2.KOf KX) "read_figures" K11.sRf ["word"] := by
   dsimp only [L2.KOf]
   refine' K11.Dn.mk' ?a ?l ?c ?k ?b
   (case a => k_is); (case l => k_is); (case c => k_is); (case k => k_is)
   (case b => exact fun _ _ _ _ _ _ us hl => match us,hl with | [_],_ => rfl)
  have dRa : K11.Dn (L2.KOf KX) "read_amount" K11.sRa ["text"] := by
   dsimp only [L2.KOf]
   refine' K11.Dn.mk' ?a ?l ?c ?k ?b
   (case a => k_is); (case l => k_is); (case c => k_is); (case k => k_is)
   (case b => exact fun _ _ _ _ _ _ us hl => match us,hl with | [_],_ => rfl)
  have dIsWare : K11.Dn (L2.KOf KX) "is_ware" K11.sIsWare ["thing"] := by
   dsimp only [L2.KOf]
   refine' K11.Dn.mk' ?a ?l ?c ?k ?b
   (case a => k_is); (case l => k_is); (case c => k_is); (case k => k_is)
   (case b => exact fun _ _ _ _ _ _ us hl => match us,hl with | [_],_ => rfl)
  have dBook : K11.Dn (L2.KOf KX) "read_book" K11.sBook ["text"] := by
   dsimp only [L2.KOf]
   refine' K11.Dn.mk' ?a ?l ?c ?k ?b
   (case a => k_is); (case l => k_is); (case c => k_is); (case k => k_is)
   (case b => exact fun _ _ _ _ _ _ us hl => match us,hl with | [_],_ => rfl)
  have dKindOf : K11.Dn (L2.KOf KX) "kind_of" K11.sKindOf ["line"] := by
   dsimp only [L2.KOf]
   refine' K11.Dn.mk' ?a ?l ?c ?k ?b
   (case a => k_is); (case l => k_is); (case c => k_is); (case k => k_is)
   (case b => exact fun _ _ _ _ _ _ us hl => match us,hl with | [_],_ => rfl)
  have dEntry : K11.Dn (L2.KOf KX) "read_entry" K11.sEntry ["kind","rest"] := by
   dsimp only [L2.KOf]
   refine' K11.Dn.mk' ?a ?l ?c ?k ?b
   (case a => k_is); (case l => k_is); (case c => k_is); (case k => k_is)
   (case b => exact fun _ _ _ _ _ _ us hl => match us,hl with | [_,_],_ => rfl)
  have dAon : K11.Dn (L2.KOf KX) "all_or_none" K11.sAon ["parts"] := by
   dsimp only [L2.KOf]
   refine' K11.Dn.mk' ?a ?l ?c ?k ?b
   (case a => k_is); (case l => k_is); (case c => k_is); (case k => k_is)
   (case b => exact fun _ _ _ _ _ _ us hl => match us,hl with | [_],_ => rfl)
  have dName : K11.Dn (L2.KOf KX) "read_name" K11.sName ["word"] := by
   dsimp only [L2.KOf]
   refine' K11.Dn.mk' ?a ?l ?c ?k ?b
   (case a => k_is); (case l => k_is); (case c => k_is); (case k => k_is)
   (case b => exact fun _ _ _ _ _ _ us hl => match us,hl with | [_],_ => rfl)
  have dApart : K11.Dn (L2.KOf KX) "read_apart" K11.sApart ["rest"] := by
   dsimp only [L2.KOf]
   refine' K11.Dn.mk' ?a ?l ?c ?k ?b
   (case a => k_is); (case l => k_is); (case c => k_is); (case k => k_is)
   (case b => exact fun _ _ _ _ _ _ us hl => match us,hl with | [_],_ => rfl)
  have dRecipe : K11.Dn (L2.KOf KX) "read_recipe" K11.sRecipe ["rest"] := by
   dsimp only [L2.KOf]
   refine' K11.Dn.mk' ?a ?l ?c ?k ?b
   (case a => k_is); (case l => k_is); (case c => k_is); (case k => k_is)
   (case b => exact fun _ _ _ _ _ _ us hl => match us,hl with | [_],_ => rfl)
  have dRow : K11.Dn (L2.KOf KX) "read_row" K11.sRow ["text"] := by
   dsimp only [L2.KOf]
   refine' K11.Dn.mk' ?a ?l ?c ?k ?b
   (case a => k_is); (case l => k_is); (case c => k_is); (case k => k_is)
   (case b => exact fun _ _ _ _ _ _ us hl => match us,hl with | [_],_ => rfl)
  have dParts : K11.Dn (L2.KOf KX) "read_parts" K11.sParts ["rest"] := by
   dsimp only [L2.KOf]
   refine' K11.Dn.mk' ?a ?l ?c ?k ?b
   (case a => k_is); (case l => k_is); (case c => k_is); (case k => k_is)
   (case b => exact fun _ _ _ _ _ _ us hl => match us,hl with | [_],_ => rfl)
  have dShare : K11.Dn (L2.KOf KX) "read_share" K11.sShare ["text"] := by
   dsimp only [L2.KOf]
   refine' K11.Dn.mk' ?a ?l ?c ?k ?b
   (case a => k_is); (case l => k_is); (case c => k_is); (case k => k_is)
   (case b => exact fun _ _ _ _ _ _ us hl => match us,hl with | [_],_ => rfl)
  have dRowAm : K11.Dn (L2.KOf KX) "read_row_amount" K11.sRowAm ["word"] := by
   dsimp only [L2.KOf]
   refine' K11.Dn.mk' ?a ?l ?c ?k ?b
   (case a => k_is); (case l => k_is); (case c => k_is); (case k => k_is)
   (case b => exact fun _ _ _ _ _ _ us hl => match us,hl with | [_],_ => rfl)
  have dNumber : K11.Dn (L2.KOf KX) "read_number" K11.sNumber ["word"] := by
   dsimp only [L2.KOf]
   refine' K11.Dn.mk' ?a ?l ?c ?k ?b
   (case a => k_is); (case l => k_is); (case c => k_is); (case k => k_is)
   (case b => exact fun _ _ _ _ _ _ us hl => match us,hl with | [_],_ => rfl)
  have dCell : K11.Dn (L2.KOf KX) "_law_cell_at" K11.sCell ["_law_script","_law_k"] := by
   dsimp only [L2.KOf]
   refine' K11.Dn.mk' ?a ?l ?c ?k ?b
   (case a => k_is); (case l => k_is); (case c => k_is); (case k => k_is)
   (case b => exact fun _ _ _ _ _ _ us hl => match us,hl with | [_,_],_ => rfl)
  have dLeft : K11.Dn (L2.KOf KX) "_law_left" K11.sLeft ["_law_script","_law_k"] := by
   dsimp only [L2.KOf]
   refine' K11.Dn.mk' ?a ?l ?c ?k ?b
   (case a => k_is); (case l => k_is); (case c => k_is); (case k => k_is)
   (case b => exact fun _ _ _ _ _ _ us hl => match us,hl with | [_,_],_ => rfl)
  have dNext : K11.Dn (L2.KOf KX) "_law_next" K11.sNext ["_law_left_here","_law_many"] := by
   dsimp only [L2.KOf]
   refine' K11.Dn.mk' ?a ?l ?c ?k ?b
   (case a => k_is); (case l => k_is); (case c => k_is); (case k => k_is)
   (case b => exact fun _ _ _ _ _ _ us hl => match us,hl with | [_,_],_ => rfl)
  have dNames : K11.Dn (L2.KOf KX) "_law_names" K11.sNames ["_law_left_here","_law_many"] := by
   dsimp only [L2.KOf]
   refine' K11.Dn.mk' ?a ?l ?c ?k ?b
   (case a => k_is); (case l => k_is); (case c => k_is); (case k => k_is)
   (case b => exact fun _ _ _ _ _ _ us hl => match us,hl with | [_,_],_ => rfl)
  have dWhole : K11.Dn (L2.KOf KX) "_law_whole" K11.sWhole ["_law_found"] := by
   dsimp only [L2.KOf]
   refine' K11.Dn.mk' ?a ?l ?c ?k ?b
   (case a => k_is); (case l => k_is); (case c => k_is); (case k => k_is)
   (case b => exact fun _ _ _ _ _ _ us hl => match us,hl with | [_],_ => rfl)
  have dAmT : K11.Dn (L2.KOf KX) "_law_amount_text" K11.sAmT ["_law_one"] := by
   dsimp only [L2.KOf]
   refine' K11.Dn.mk' ?a ?l ?c ?k ?b
   (case a => k_is); (case l => k_is); (case c => k_is); (case k => k_is)
   (case b => exact fun _ _ _ _ _ _ us hl => match us,hl with | [_],_ => rfl)
  have dRowT : K11.Dn (L2.KOf KX) "_law_row_text" K11.sRowT ["_law_row_here"] := by
   dsimp only [L2.KOf]
   refine' K11.Dn.mk' ?a ?l ?c ?k ?b
   (case a => k_is); (case l => k_is); (case c => k_is); (case k => k_is)
   (case b => exact fun _ _ _ _ _ _ us hl => match us,hl with | [_],_ => rfl)
  have dLines : K11.Dn (L2.KOf KX) "_law_lines" K11.sLines ["_law_book_here"] := by
   dsimp only [L2.KOf]
   refine' K11.Dn.mk' ?a ?l ?c ?k ?b
   (case a => k_is); (case l => k_is); (case c => k_is); (case k => k_is)
   (case b => exact fun _ _ _ _ _ _ us hl => match us,hl with | [_],_ => rfl)
  have dSame : K11.Dn (L2.KOf KX) "_law_same" K11.sSame ["_law_found","_law_due"] := by
   dsimp only [L2.KOf]
   refine' K11.Dn.mk' ?a ?l ?c ?k ?b
   (case a => k_is); (case l => k_is); (case c => k_is); (case k => k_is)
   (case b => exact fun _ _ _ _ _ _ us hl => match us,hl with | [_,_],_ => rfl)
  have dShB : K11.Dn (L2.KOf KX) "shown_book" K11.sShB ["book"] := by
   dsimp only [L2.KOf]
   refine' K11.Dn.mk' ?a ?l ?c ?k ?b
   (case a => k_is); (case l => k_is); (case c => k_is); (case k => k_is)
   (case b => exact fun _ _ _ _ _ _ us hl => match us,hl with | [_],_ => rfl)
  have dShRec : K11.Dn (L2.KOf KX) "shown_recipe" K11.sShRec ["name","rows"] := by
   dsimp only [L2.KOf]
   refine' K11.Dn.mk' ?a ?l ?c ?k ?b
   (case a => k_is); (case l => k_is); (case c => k_is); (case k => k_is)
   (case b => exact fun _ _ _ _ _ _ us hl => match us,hl with | [_,_],_ => rfl)
  have dShRow : K11.Dn (L2.KOf KX) "shown_row" K11.sShRow ["row"] := by
   dsimp only [L2.KOf]
   refine' K11.Dn.mk' ?a ?l ?c ?k ?b
   (case a => k_is); (case l => k_is); (case c => k_is); (case k => k_is)
   (case b => exact fun _ _ _ _ _ _ us hl => match us,hl with | [_],_ => rfl)
  have dShP : K11.Dn (L2.KOf KX) "shown_parts" K11.sShP ["all_of_it","pairs"] := by
   dsimp only [L2.KOf]
   refine' K11.Dn.mk' ?a ?l ?c ?k ?b
   (case a => k_is); (case l => k_is); (case c => k_is); (case k => k_is)
   (case b => exact fun _ _ _ _ _ _ us hl => match us,hl with | [_,_],_ => rfl)
  have dDiv : K11.Dn (L2.KOf KX) "_law_divisor" K11.sDiv ["_law_one","_law_other"] := by
   dsimp only [L2.KOf]
   refine' K11.Dn.mk' ?a ?l ?c ?k ?b
   (case a => k_is); (case l => k_is); (case c => k_is); (case k => k_is)
   (case b => exact fun _ _ _ _ _ _ us hl => match us,hl with | [_,_],_ => rfl)
  have dLlow : K11.Dn (L2.KOf KX) "_law_low" K11.sLlow ["_law_top","_law_bottom"] := by
   dsimp only [L2.KOf]
   refine' K11.Dn.mk' ?a ?l ?c ?k ?b
   (case a => k_is); (case l => k_is); (case c => k_is); (case k => k_is)
   (case b => exact fun _ _ _ _ _ _ us hl => match us,hl with | [_,_],_ => rfl)
  have dLam : K11.Dn (L2.KOf KX) "_law_amount" K11.sLam ["_law_left_here"] := by
   dsimp only [L2.KOf]
   refine' K11.Dn.mk' ?a ?l ?c ?k ?b
   (case a => k_is); (case l => k_is); (case c => k_is); (case k => k_is)
   (case b => exact fun _ _ _ _ _ _ us hl => match us,hl with | [_],_ => rfl)
  have dLparts : K11.Dn (L2.KOf KX) "_law_parts" K11.sLparts ["_law_left_here","_law_allowed"] := by
   dsimp only [L2.KOf]
   refine' K11.Dn.mk' ?a ?l ?c ?k ?b
   (case a => k_is); (case l => k_is); (case c => k_is); (case k => k_is)
   (case b => exact fun _ _ _ _ _ _ us hl => match us,hl with | [_,_],_ => rfl)
  have dFilled : K11.Dn (L2.KOf KX) "_law_filled" K11.sFilled ["_law_left_here","_law_thing","_law_lies"] := by
   dsimp only [L2.KOf]
   refine' K11.Dn.mk' ?a ?l ?c ?k ?b
   (case a => k_is); (case l => k_is); (case c => k_is); (case k => k_is)
   (case b => exact fun _ _ _ _ _ _ us hl => match us,hl with | [_,_,_],_ => rfl)
  have dLrow : K11.Dn (L2.KOf KX) "_law_row" K11.sLrow ["_law_left_here","_law_allowed","_law_lies"] := by
   dsimp only [L2.KOf]
   refine' K11.Dn.mk' ?a ?l ?c ?k ?b
   (case a => k_is); (case l => k_is); (case c => k_is); (case k => k_is)
   (case b => exact fun _ _ _ _ _ _ us hl => match us,hl with | [_,_,_],_ => rfl)
  have dBehind : K11.Dn (L2.KOf KX) "_law_behind" K11.sBehind ["_law_lies","_law_row_here"] := by
   dsimp only [L2.KOf]
   refine' K11.Dn.mk' ?a ?l ?c ?k ?b
   (case a => k_is); (case l => k_is); (case c => k_is); (case k => k_is)
   (case b => exact fun _ _ _ _ _ _ us hl => match us,hl with | [_,_],_ => rfl)
  have dLower : K11.Dn (L2.KOf KX) "_law_lower" K11.sLower ["_law_recipes_here","_law_j","_law_turn"] := by
   dsimp only [L2.KOf]
   refine' K11.Dn.mk' ?a ?l ?c ?k ?b
   (case a => k_is); (case l => k_is); (case c => k_is); (case k => k_is)
   (case b => exact fun _ _ _ _ _ _ us hl => match us,hl with | [_,_,_],_ => rfl)
  have dLrecs : K11.Dn (L2.KOf KX) "_law_recipes" K11.sLrecs ["_law_script","_law_wares","_law_recipes_here","_law_turn","_law_places"] := by
   dsimp only [L2.KOf]
   refine' K11.Dn.mk' ?a ?l ?c ?k ?b
   (case a => k_is); (case l => k_is); (case c => k_is); (case k => k_is)
   (case b => exact fun _ _ _ _ _ _ us hl => match us,hl with | [_,_,_,_,_],_ => rfl)
  have dLapart : K11.Dn (L2.KOf KX) "_law_apart" K11.sLapart ["_law_script","_law_wares","_law_many"] := by
   dsimp only [L2.KOf]
   refine' K11.Dn.mk' ?a ?l ?c ?k ?b
   (case a => k_is); (case l => k_is); (case c => k_is); (case k => k_is)
   (case b => exact fun _ _ _ _ _ _ us hl => match us,hl with | [_,_,_],_ => rfl)
  have dBegun : K11.Dn (L2.KOf KX) "_law_begun" K11.sBegun ["_law_script"] := by
   dsimp only [L2.KOf]
   refine' K11.Dn.mk' ?a ?l ?c ?k ?b
   (case a => k_is); (case l => k_is); (case c => k_is); (case k => k_is)
   (case b => exact fun _ _ _ _ _ _ us hl => match us,hl with | [_],_ => rfl)
  have dLbook : K11.Dn (L2.KOf KX) "_law_book" K11.sLbook ["_law_script"] := by
   dsimp only [L2.KOf]
   refine' K11.Dn.mk' ?a ?l ?c ?k ?b
   (case a => k_is); (case l => k_is); (case c => k_is); (case k => k_is)
   (case b => exact fun _ _ _ _ _ _ us hl => match us,hl with | [_],_ => rfl)
  have z0 : PySem.W.nsIn (L2.KOf KX) mainGlobals "isinstance" = some none := by
   dsimp only [L2.KOf]
   k_is
  have z1 : PySem.W.nsIn (L2.KOf KX) mainGlobals "int" = some none := by
   dsimp only [L2.KOf]
   k_is
  have z2 : PySem.W.nsIn (L2.KOf KX) mainGlobals "bool" = some none := by
   dsimp only [L2.KOf]
   k_is
  have z3 : PySem.W.nsIn (L2.KOf KX) mainGlobals "str" = some none := by
   dsimp only [L2.KOf]
   k_is
  have z4 : PySem.W.nsIn (L2.KOf KX) mainGlobals "list" = some none := by
   dsimp only [L2.KOf]
   k_is
  have z5 : PySem.W.nsIn (L2.KOf KX) mainGlobals "tuple" = some none := by
   dsimp only [L2.KOf]
   k_is
  have z6 : PySem.W.nsIn (L2.KOf KX) mainGlobals "len" = some none := by
   dsimp only [L2.KOf]
   k_is
  have z7 : PySem.W.nsIn (L2.KOf KX) mainGlobals "any" = some none := by
   dsimp only [L2.KOf]
   k_is
  have z8 : PySem.W.nsIn (L2.KOf KX) mainGlobals "all" = some none := by
   dsimp only [L2.KOf]
   k_is
  have z9 : PySem.W.nsIn (L2.KOf KX) mainGlobals "range" = some none := by
   dsimp only [L2.KOf]
   k_is
  have z10 : PySem.W.nsIn (L2.KOf KX) mainGlobals "min" = some none := by
   dsimp only [L2.KOf]
   k_is
  have z11 : PySem.W.nsIn (L2.KOf KX) mainGlobals "abs" = some none := by
   dsimp only [L2.KOf]
   k_is
  have z12 : PySem.W.nsIn (L2.KOf KX) mainGlobals "enumerate" = some none := by
   dsimp only [L2.KOf]
   k_is
  have z13 : PySem.W.nsIn (L2.KOf KX) mainGlobals "zip" = some none := by
   dsimp only [L2.KOf]
   k_is
  have z14 : PySem.W.nsIn (L2.KOf KX) mainGlobals "ValueError" = some none := by
   dsimp only [L2.KOf]
   k_is
  have z15 : PySem.W.nsIn (L2.KOf KX) mainGlobals "max" = some none := by
   dsimp only [L2.KOf]
   k_is
  have err : ∃ cP c0 fI : Addr,K11.ErNK (L2.KOf KX) cP c0 fI := by
   dsimp only [L2.KOf]
   refine' K11.err_mk ?mP ?m0 ?lk ?ni ⟨⟨?xi,?xf,?xk,⟨?x1,?x2,?x3,?x4,?x5,?x6⟩⟩,?sa,?nn⟩ ⟨?y1,?y2,?y3⟩ ⟨?w1,?w2,?w3⟩ ?s ?sN ⟨?b1,?b2,?b3⟩ ?iP ?iV ?i0 (K11.fnI_mk ?l ?c ?k)
   (case mP => k_is); (case m0 => k_is)
   (case lk => k_is); (case ni => k_is); (case xi => first | kernel_rfl | rfl); (case xf => k_is); (case xk => k_is)
   (case x1 => k_is); (case x2 => k_is); (case x3 => k_is); (case x4 => k_is); (case x5 => k_is); (case x6 => (show PySem.W.isClsIn _ _ = true; k_is)); (case sa => k_is); (case nn => k_is)
   (case y1 => k_is); (case y2 => (show PySem.W.isClsIn _ _ = true; k_is)); (case y3 => k_is); (case w1 => k_is); (case w2 => (show PySem.W.isClsIn _ _ = true; k_is)); (case w3 => k_is); (case s => k_is); (case sN => k_is); (case b1 => k_is); (case b2 => k_is); (case b3 => k_is); (case iP => kit_is); (case iV => kit_is)
   (case i0 => kit_is)
   (case l => k_is); (case c => k_is); (case k => k_is)
  have kd : ∃ (aK aM : Addr) (oK : Obj),K11.KdK (L2.KOf KX) aK aM oK := by
   dsimp only [L2.KOf]
   refine' K11.KdK.mk' ?a ?l ?b ?r ?e0 ?e1 ?e2
   (case a => k_is); (case l => k_is); (case b => k_is); (case r => k_is); (case e0 => decide +kernel); (case e1 => decide +kernel); (case e2 => decide +kernel)
  have mMR : ∃ tk : Tok,PySem.W.nsIn (L2.KOf KX) mainGlobals "MOST_ROWS" = some (some (.int 6 tk)) := by
   dsimp only [L2.KOf]
   refine' K11.mst_mk ?a
   (case a => k_is)
  have mMP : ∃ tk : Tok,PySem.W.nsIn (L2.KOf KX) mainGlobals "MOST_PAIRS" = some (some (.int 4 tk)) := by
   dsimp only [L2.KOf]
   refine' K11.mst_mk ?a
   (case a => k_is)
  have mMN : ∃ tk : Tok,PySem.W.nsIn (L2.KOf KX) mainGlobals "MOST_NUMBER" = some (some (.int 1000 tk)) := by
   dsimp only [L2.KOf]
   refine' K11.mst_mk ?a
   (case a => k_is)
  have mMA : ∃ tk : Tok,PySem.W.nsIn (L2.KOf KX) mainGlobals "MOST_IN_AMOUNT" = some (some (.int 999999999 tk)) := by
   dsimp only [L2.KOf]
   refine' K11.mst_mk ?a
   (case a => k_is)
  have mMF : ∃ tk : Tok,PySem.W.nsIn (L2.KOf KX) mainGlobals "MOST_FIGURES" = some (some (.int 60 tk)) := by
   dsimp only [L2.KOf]
   refine' K11.mst_mk ?a
   (case a => k_is)
  have mML : ∃ tk : Tok,PySem.W.nsIn (L2.KOf KX) mainGlobals "MOST_LETTERS" = some (some (.int 8 tk)) := by
   dsimp only [L2.KOf]
   refine' K11.mst_mk ?a
   (case a => k_is)
  have mFG : ∃ tk : Tok,PySem.W.nsIn (L2.KOf KX) mainGlobals "FIGURES" = some (some (.str K11.FIG tk)) := by
   dsimp only [L2.KOf]
   refine' K11.fgs_mk ?a ?e
   (case a => k_is); (case e => decide +kernel)
  have mLE : ∃ tk : Tok,PySem.W.nsIn (L2.KOf KX) mainGlobals "LETTERS" = some (some (.str TM.LET tk)) := by
   dsimp only [L2.KOf]
   refine' K11.fgs_mk ?a ?e
   (case a => k_is); (case e => decide +kernel)
  refine' K11.all_mk KX G hmg ⟨dGcd,dLow,dShown,dRf,dRa,dIsWare,dBook,dKindOf,dEntry,dAon,dName,dApart,dRecipe,dRow,dParts,dShare,dRowAm,dNumber,dCell,dLeft,dNext,dNames,dWhole,dAmT,dRowT,dLines,dSame,dShB,dShRec,dShRow,dShP,dDiv,dLlow,dLam,dLparts,dFilled,dLrow,dBehind,dLower,dLrecs,dLapart,dBegun,dLbook,z0,z1,z2,z3,z4,z5,z6,z7,z8,z9,z10,z11,z12,z13,z14,z15,err,kd,mMR,mMP,mMN,mMA,mMF,mML,mFG,mLE⟩ ?a4 ?l4 ?c4 ?k4
  (case a4 => k_is); (case l4 => k_is); (case c4 => k_is); (case k4 => k_is)
