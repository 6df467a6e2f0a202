import PyProof.Rows.All
import Wide.All
import OpenK.AllK
import Wide.FinOn
import Lean
import PyProof.EqAt
import PyProof.EqKinds
import PyProof.TupleCall
import PySem.Challenge.RW_phialhouse_k25_trees
set_option Elab.async false
set_option linter.all false
set_option maxRecDepth 100000
set_option maxHeartbeats 4000000
namespace L2
open PySem PySem.Spec PyProof.Rows
abbrev Key:=Sum Int Str
def rV:Key->Value->Bool
 | .inl k,v=>Value.isInt k v
 | .inr x,v=>Value.isStrOf x v
def keyH (w:World):Key->Int
 | .inl k=>hashInt k
 | .inr x=>hashStr w x
theorem cQ : ∀ {k:Key} {v:Value},rV k v=true->(∃ i t,k=Sum.inl i/\v=Value.int i t)\/(∃ x t,k=Sum.inr x/\v=Value.str x t)
 | .inl i,v,h=>by
  obtain ⟨t,e⟩:=Value.isInt_shape (k:=i) (v:=v) h
  exact .inl ⟨i,t,rfl,e⟩
 | .inr x,v,h=>by
  obtain ⟨t,e⟩:=Value.isStrOf_shape (x:=x) (v:=v) h
  exact .inr ⟨x,t,rfl,e⟩
theorem vE (i:Int)(t:Tok):rV (.inl i) (.int i t)=true:=by simp [rV,Value.isInt]
theorem vD (x:Str)(t:Tok):rV (.inr x) (.str x t)=true:=by simp [rV,Value.isStrOf]
theorem aFe (a b:Int):decide ((Sum.inl a:Key)=Sum.inl b)=(a == b):=by
 by_cases e:a=b
 ·subst e; simp
 ·have h : ¬ (Sum.inl a:Key)=Sum.inl b:=fun q=>e (Sum.inl.inj q)
  rw [decide_eq_false h]
  exact (beq_eq_false_iff_ne.mpr e).symm
theorem aFb (a b:Str):decide ((Sum.inr a:Key)=Sum.inr b)=decide (a=b):=by
 by_cases e:a=b
 ·subst e; simp
 ·have h : ¬ (Sum.inr a:Key)=Sum.inr b:=fun q=>e (Sum.inr.inj q)
  rw [decide_eq_false h,decide_eq_false e]
theorem aFd (a:Int)(b:Str):decide ((Sum.inl a:Key)=Sum.inr b)=false:=decide_eq_false (fun q=>nomatch q)
theorem aFc (a:Str)(b:Int):decide ((Sum.inr a:Key)=Sum.inl b)=false:=decide_eq_false (fun q=>nomatch q)
def bR (prog:Program)(w:World):PySem.KeyKind prog w Key where
 is:=rV
 hash:=keyH w
 inj:=fun v a b ha hb=>by
  rcases cQ ha with ⟨i,t,rfl,rfl⟩ | ⟨x,t,rfl,rfl⟩
  ·rcases cQ hb with ⟨j,u,rfl,e⟩ | ⟨y,u,rfl,e⟩
   ·injection e with e1 _; rw [e1]
   ·exact nomatch e
  ·rcases cQ hb with ⟨j,u,rfl,e⟩ | ⟨y,u,rfl,e⟩
   ·exact nomatch e
   ·injection e with e1 _; rw [e1]
 byValue:=fun k v h=>by
  rcases cQ h with ⟨i,t,rfl,rfl⟩ | ⟨x,t,rfl,rfl⟩ <;> rfl
 pyHash:=fun hv h=>by
  rcases cQ hv with ⟨i,t,rfl,rfl⟩ | ⟨x,t,rfl,rfl⟩
  ·exact wpAny_pyHash_int h
  ·exact wpAny_pyHash_str h
 eqBool:=fun hu hv h=>by
  rcases cQ hu with ⟨i,t,rfl,rfl⟩ | ⟨x,t,rfl,rfl⟩
  ·rcases cQ hv with ⟨j,u,rfl,rfl⟩ | ⟨y,u,rfl,rfl⟩
   ·rw [aFe] at h; exact wpAny_eqBool_int h
   ·rw [aFd] at h; exact SeqAt.EqAt.int_str i t y u _ _ _ _ h
  ·rcases cQ hv with ⟨j,u,rfl,rfl⟩ | ⟨y,u,rfl,rfl⟩
   ·rw [aFc] at h; exact SeqAt.EqAt.str_int x t j u _ _ _ _ h
   ·rw [aFb] at h; exact wpAny_eqBool_str h
 «strs» := fun k x t v h=>by
  rcases cQ h with ⟨i,u,rfl,e⟩ | ⟨y,u,rfl,e⟩
  ·exact nomatch e
  ·injection e with e1 _
   subst e1
   cases v <;> rfl
theorem pJ (prog:Program)(w:World)(i:Int)(t:Tok):(bR prog w).is (.inl i) (.int i t)=true:=vE i t
theorem pI (prog:Program)(w:World)(x:Str)(t:Tok):(bR prog w).is (.inr x) (.str x t)=true:=vD x t
inductive V where
 | non | bl (b:Bool) | int (i:Int) | str (x:Str) | byt (b:Array UInt8) | flt (b:UInt64) | ref (a:Addr) | ty (n:String)
 deriving DecidableEq
def RelV:V->Value->Prop
 | .non,u=>u=Value.none
 | .bl b,u=>u=Value.bool b
 | .int i,u=>∃ t,u=Value.int i t
 | .str x,u=>∃ t,u=Value.str x t
 | .byt b,u=>∃ t,u=Value.bytes b t
 | .flt b,u=>∃ t,u=Value.float b t
 | .ref a,u=>u=Value.ref a
 | .ty n,u=>u=Value.type n
abbrev Vals:List V->List Value->Prop:=Paired RelV
theorem Vals.length {xs:List V}{us:List Value}(r:Vals xs us):xs.length=us.length:=Paired.length r
theorem Vals.get : ∀ {xs:List V} {us:List Value} {i:Nat} {x:V},Vals xs us->xs[i]?=some x->∃ u,us[i]?=some u/\RelV x u
 | _,_,_,_,.nil,e=>by simp at e
 | _,_,0,_,.cons r _,e=>by simp at e; subst e; exact ⟨_,rfl,r⟩
 | _,_,i+1,x,.cons _ t,e=>by
  obtain ⟨u,h1,h2⟩:=Vals.get (i:=i) (x:=x) t (by simpa using e)
  exact ⟨u,by simpa using h1,h2⟩
theorem Vals.set {x:V}{u:Value}(r:RelV x u) : ∀ {xs:List V} {us:List Value} (i:Nat),Vals xs us->Vals (xs.set i x) (us.set i u)
 | _,_,_,.nil=>.nil
 | _,_,0,.cons _ t=>.cons r t
 | _,_,i+1,.cons q t=>.cons q (Vals.set r i t)
theorem Vals.append : ∀ {xs ys:List V} {us ws:List Value},Vals xs us->Vals ys ws->Vals (xs ++ ys) (us ++ ws)
 | _,_,_,_,.nil,s=>s
 | _,_,_,_,.cons r t,s=>.cons r (Vals.append t s)
theorem Vals.take : ∀ {xs:List V} {us:List Value} (n:Nat),Vals xs us->Vals (xs.take n) (us.take n)
 | _,_,0,_=>.nil
 | _,_,_+1,.nil=>.nil
 | _,_,n+1,.cons r t=>.cons r (Vals.take n t)
theorem Vals.drop : ∀ {xs:List V} {us:List Value} (n:Nat),Vals xs us->Vals (xs.drop n) (us.drop n)
 | _,_,0,r=>r
 | _,_,_+1,.nil=>.nil
 | _,_,n+1,.cons _ t=>Vals.drop n t
def RelO:Option V->Option Value->Prop
 | some v,some u=>RelV v u
 | none,none=>True
 | _,_=>False
def KV {κ:Type}:List (κ × V)->List (κ × Value)->Prop:=Paired fun (p:κ × V) (q:κ × Value)=>p.1=q.1/\RelV p.2 q.2
def kV:Key->V
 | .inl i=>.int i
 | .inr x=>.str x
inductive HO where
 | lst (xs:List V)
 | tup (xs:List V)
 | dK (kvs:List (Key × V)) | dT (kvs:List (List Key × V))
 | set (S:Int->Bool) (n:Nat)
 | ins (C dx:Addr) (fs:List (Str × V))
 | own (x:Addr)
 | xd (fs:List (Str × V))
 | met (f x:Addr)
 | rng (lo hi:Int)
 | frz (o:Obj) (u:HO)
 | tbl (ps:Array Value)
 | ext (φ:Heap->Prop)
abbrev Hp:=Addr->Option HO
def upd (H:Hp)(a:Addr)(o:HO):Hp:=fun b=>if b=a then some o else H b
theorem aB {H:Hp}{a:Addr}{o:HO}:upd H a o a=some o:=by unfold upd; rw [if_pos rfl]
theorem aL {H:Hp}{a b:Addr}{o:HO}(h:b ≠ a):upd H a o b=H b:=by unfold upd; rw [if_neg h]
theorem aGe {H:Hp}{a b:Addr}{o u:HO}(h:H a=some o)(h':H b=some u)(d:o ≠ u):a ≠ b:=by
 intro e; subst e; rw [h] at h'; exact d (Option.some.inj h')
theorem cH {H:Hp}{a b:Addr}{o:HO}(h:H a=some o)(h':H b=none):a ≠ b:=by
 intro e; subst e; rw [h] at h'; cases h'
section
variable (P:Program)(w:World)
def ObjOk (H:Hp)(h:Heap)(a:Addr):HO->Prop
 | .lst xs=>xs.length<=sizeLine/\∃ (its:List Value) (n:Nat),Vals xs its/\h.get? a=some { cls:=.type "list",data:=.seq its.toArray n }
 | .tup xs=>xs.length<=sizeLine/\∃ its:List Value,Vals xs its/\IsTup h a its.toArray
 | .dK kvs=>kvs.length<=sizeLine/\(a == sysModules)=false/\∃ vs,KV kvs vs/\h.DictOf (bR P w) a vs
 | .dT kvs=>kvs.length<=sizeLine/\(a == sysModules)=false/\∃ xs:List (List Key × Addr × Value),
   Paired (fun (p:List Key × V) (q:List Key × Addr × Value)=>p.1=q.1/\H q.2.1=some (.tup (p.1.map kV))/\RelV p.2 q.2.2) kvs xs /\
   ∃ o es ep,h.get? a=some o/\o.ExactDict/\o.data = .dict es ep/\es.toList=xs.map (entryOfKey (tupleKind (bR P w)))/\(xs.map (·.1)).Nodup
 | .set S n=>h.SetOf (intKind P w) a S n
 | .ins C dx fs=>H dx=some (.own a)/\fs.length<=1000/\dx ≠ a/\h.get? a=some (PySem.W.instObj C dx) /\
   ∃ mA,h.Ns1 dx mA/\(∀ f,RelO (fs.lookup f) (mA f))/\PySem.Within mA (fs.map (·.1))
 | .own _=>∃ o,h.get? a=some o
 | .xd fs=>∃ mA,h.Ns1 a mA/\∀ f,RelO (fs.lookup f) (mA f)
 | .rng lo hi=>∃ t u v,h.get? a=some { cls:=.type "range",data:=.fields #[.int lo t,.int hi u,.int 1 v] }
 | .frz o u=>h.get? a=some o/\ObjOk H h a u
 | .tbl ps=>h.get? a=some { cls:=.none,data:=.fields ps }
 | .met f x=>h.get? a=some (PySem.W.methodObj (.ref f) (.ref x))
 | .ext φ=>φ h/\(∃ o,h.get? a=some o)/\∀ h1 h2:Heap,φ h1->(∀ o,h1.get? a=some o->h2.get? a=some o)->φ h2
def HOk (H:Hp)(h:Heap):Prop:=∀ a o,H a=some o->ObjOk P w H h a o
end
section
variable {P:Program}{w:World}{H H':Hp}{h h':Heap}{a:Addr}{o:HO}
theorem ObjOk.lt (x:ObjOk P w H h a o):a < h.objs.size:=by
 cases o with
 | lst xs=>obtain ⟨_,_,_,_,e⟩:=x; exact Heap.lt_size e
 | tup xs=>obtain ⟨_,_,_,p⟩:=x; exact p.lt
 | dK kvs=>obtain ⟨_,_,_,_,o,_,_,e,_⟩:=x; exact Heap.lt_size e
 | dT kvs=>obtain ⟨_,_,_,_,o,_,_,e,_⟩:=x; exact Heap.lt_size e
 | set S n=>obtain ⟨o,_,_,_,e,_⟩:=x; exact Heap.lt_size e
 | ins C dx fs=>obtain ⟨_,_,_,e,_⟩:=x; exact Heap.lt_size e
 | own y=>obtain ⟨_,e⟩:=x; exact Heap.lt_size e
 | xd fs=>obtain ⟨_,⟨_,_,_,e,_⟩,_⟩:=x; exact Heap.lt_size e
 | rng lo hi=>obtain ⟨_,_,_,e⟩:=x; exact Heap.lt_size e
 | frz ob u=>obtain ⟨e,_⟩:=x; exact Heap.lt_size e
 | tbl ps=>exact Heap.lt_size (show h.get? a=some _ from x)
 | met f y=>exact Heap.lt_size (show h.get? a=some _ from x)
 | ext φ=>obtain ⟨_,⟨_,e⟩,_⟩:=x; exact Heap.lt_size e
theorem Paired.mapP {α β:Type}{F G:α->β->Prop} : ∀ {l₁:List α} {l₂:List β},Paired F l₁ l₂->(∀ a b,F a b->G a b)->Paired G l₁ l₂
 | _,_,.nil,_=>.nil
 | _,_,.cons r t,f=>.cons (f _ _ r) (Paired.mapP t f)
theorem ObjOk.stay (x:ObjOk P w H h a o)(k : ∀ b u,(b=a\/H b=some (.own a))->h.get? b=some u->h'.get? b=some u)
  (ho : ∀ b,H b=some (.own a)->H' b=some (.own a)) (ht : ∀ b xs,H b=some (.tup xs)->H' b=some (.tup xs)):ObjOk P w H' h' a o:=by
 induction o with
 | lst xs=>obtain ⟨z,its,n,r,e⟩:=x; exact ⟨z,its,n,r,k _ _ (.inl rfl) e⟩
 | tup xs=>obtain ⟨z,its,r,ob,e,c⟩:=x; exact ⟨z,its,r,ob,k _ _ (.inl rfl) e,c⟩
 | dK kvs=>obtain ⟨z,y,vs,r,ob,es,ep,e,c⟩:=x; exact ⟨z,y,vs,r,ob,es,ep,k _ _ (.inl rfl) e,c⟩
 | dT kvs =>
  obtain ⟨z,y,xs,r,ob,es,ep,e,c⟩:=x
  exact ⟨z,y,xs,Paired.mapP r fun p q z=>⟨z.1,ht _ _ z.2.1,z.2.2⟩,ob,es,ep,k _ _ (.inl rfl) e,c⟩
 | set S n=>obtain ⟨ob,es,ep,t,e,c⟩:=x; exact ⟨ob,es,ep,t,k _ _ (.inl rfl) e,c⟩
 | ins C dx fs =>
  obtain ⟨d,z,ne,e,mA,⟨od,es,ep,e2,c⟩,r⟩:=x
  exact ⟨ho _ d,z,ne,k _ _ (.inl rfl) e,mA,⟨od,es,ep,k _ _ (.inr d) e2,c⟩,r⟩
 | own y=>obtain ⟨ob,e⟩:=x; exact ⟨ob,k _ _ (.inl rfl) e⟩
 | xd fs=>obtain ⟨mA,⟨od,es,ep,e,c⟩,r⟩:=x; exact ⟨mA,⟨od,es,ep,k _ _ (.inl rfl) e,c⟩,r⟩
 | rng lo hi=>obtain ⟨t,u,v,e⟩:=x; exact ⟨t,u,v,k _ _ (.inl rfl) e⟩
 | frz ob u ih=>obtain ⟨e,q⟩:=x; exact ⟨k _ _ (.inl rfl) e,ih q⟩
 | tbl ps =>
  have e:h.get? a=some { cls:=.none,data:=.fields ps }:=x
  show h'.get? a=some { cls:=.none,data:=.fields ps }
  exact k a _ (.inl rfl) e
 | met f y =>
  have e:h.get? a=some (PySem.W.methodObj (.ref f) (.ref y)):=x
  show h'.get? a=some (PySem.W.methodObj (.ref f) (.ref y))
  exact k a _ (.inl rfl) e
 | ext φ=>obtain ⟨p,⟨o,e⟩,st⟩:=x; exact ⟨st _ _ p fun o q=>k _ _ (.inl rfl) q,⟨o,k _ _ (.inl rfl) e⟩,st⟩
theorem HOk.lt (x:HOk P w H h)(e:H a=some o):a < h.objs.size:=(x a o e).lt
theorem HOk.fresh (x:HOk P w H h)(e:h.objs.size<=a):H a=none:=by
 cases q:H a with
 | none=>rfl
 | some u=>exact absurd (Nat.lt_of_lt_of_le (x.lt q) e) (Nat.lt_irrefl _)
theorem HOk.kept (x:HOk P w H h)(k : ∀ b u,h.get? b=some u->h'.get? b=some u):HOk P w H h':=fun a o e =>
 (x a o e).stay (fun b u _ q=>k b u q) (fun _ q=>q) fun _ _ q=>q
theorem HOk.laid (x:HOk P w H h)(k : ∀ b u,h.get? b=some u->h'.get? b=some u)(hp:h.objs.size<=a)(new:ObjOk P w (upd H a o) h' a o):HOk P w (upd H a o) h':=fun b u e=>by
 have hn:=x.fresh hp
 by_cases hb:b=a
 ·subst hb; rw [aB] at e; cases e; exact new
 ·rw [aL hb] at e
  exact (x b u e).stay (fun c v _ q=>k c v q) (fun c q=>by rw [aL (cH q hn)]; exact q) fun c xs q=>by rw [aL (cH q hn)]; exact q
end
def Rd (H:Hp)(a:Addr)(u:HO):Prop:=H a=some u\/∃ o,H a=some (.frz o u)
theorem Rd.ok {P:Program}{w:World}{H:Hp}{h:Heap}{a:Addr}{u:HO}(r:Rd H a u)(x:HOk P w H h):ObjOk P w H h a u:=by
 rcases r with r | ⟨o,r⟩
 ·exact x a u r
 ·obtain ⟨_,q⟩:=x a _ r
  exact q
def Mut:Option HO->Prop
 | some (.lst _)=>True
 | some (.dK _)=>True
 | some (.dT _)=>True
 | some (.set _ _)=>True
 | some (.ins _ _ _)=>True
 | some (.ext _)=>True
 | _=>False
section
variable {P:Program}{w:World}{H:Hp}{h h':Heap}{x e:Addr}{o':HO}
theorem HOk.write (ok:HOk P w H h)(mu:Mut (H x))(he:e=x\/H e=some (.own x))(k : ∀ b u,b ≠ e->h.get? b=some u->h'.get? b=some u)(heo : ∃ u,h'.get? e=some u)
  (new:ObjOk P w (upd H x o') h' x o'):HOk P w (upd H x o') h':=fun b u q=>by
 have nown : ∀ c y,H c=some (.own y)->c ≠ x:=fun c y r z=>by subst z; rw [r] at mu; exact mu
 have ntup : ∀ c xs,H c=some (.tup xs)->c ≠ x:=fun c xs r z=>by subst z; rw [r] at mu; exact mu
 by_cases hb:b=x
 ·subst hb; rw [aB] at q; cases q; exact new
 ·rw [aL hb] at q
  by_cases hbe:b=e
  ·have q':H b=some (.own x):=by
    rcases he with z | z
    ·exact absurd (hbe.trans z) hb
    ·rw [hbe]; exact z
   rw [q] at q'; cases q'
   obtain ⟨v,hv⟩:=heo
   exact ⟨v,by rw [hbe]; exact hv⟩
  ·refine (ok b u q).stay (fun c v hc r=>k c v ?_ r) (fun c r=>by rw [aL (nown c b r)]; exact r) fun c xs r=>by rw [aL (ntup c xs r)]; exact r
   rcases hc with rfl | hc
   ·exact hbe
   ·rintro rfl
    rcases he with z | z
    ·exact nown c b hc z
    ·rw [hc] at z; cases z; exact hb rfl
end
structure Un (fs ex:List Addr)(H H':Hp)(h h':Heap):Prop where
 keep : ∀ b o,h.get? b=some o->H b=none->b ∉ fs->b ∉ ex->h'.get? b=some o
 slot : ∀ b o,h.get? b=some o->H b=none->b ∈ fs->b ∉ ex->∃ sl,h'.get? b=some { o with slots:=sl }
 free : ∀ b o,h.get? b=some o->H b=none->b ∉ ex->H' b=none
 there : ∀ b o,h.get? b=some o->b ∉ ex->∃ o',h'.get? b=some o'
 tups : ∀ b xs,H b=some (.tup xs)->H' b=some (.tup xs)
 frzs : ∀ b o u,H b=some (.frz o u)->H' b=some (.frz o u)
 tbls : ∀ b ps,H b=some (.tbl ps)->∃ more,H' b=some (.tbl (ps ++ more))
section
variable {fs fs' ex ex':List Addr}{H H1 H2:Hp}{h h1 h2 h':Heap}{a x e:Addr}{o:HO}
theorem Un.any (u:Un fs ex H H1 h h1){b:Addr}{ob:Obj}(q:h.get? b=some ob)(n:H b=none)(hx:b ∉ ex) : ∃ sl,h1.get? b=some { ob with slots:=sl }:=by
 by_cases hb:b ∈ fs
 ·exact u.slot b ob q n hb hx
 ·exact ⟨ob.slots,u.keep b ob q n hb hx⟩
theorem Un.kept (k : ∀ b u,h.get? b=some u->h'.get? b=some u):Un fs ex H H h h' :=
 ⟨fun b ob q _ _ _=>k b ob q,fun b ob q _ _ _=>⟨ob.slots,k b ob q⟩,fun _ _ _ n _=>n,fun b ob q _=>⟨ob,k b ob q⟩,fun _ _ q=>q,fun _ _ _ q=>q,fun _ ps q=>⟨#[],by rw [q]; simp⟩⟩
theorem Un.refl:Un fs ex H H h h:=Un.kept fun _ _ q=>q
theorem Un.laid (k : ∀ b u,h.get? b=some u->h'.get? b=some u)(hp:h.objs.size<=a)(hn:H a=none):Un fs ex H (upd H a o) h h' where
 keep:=fun b u q _ _ _=>k b u q
 slot:=fun b u q _ _ _=>⟨u.slots,k b u q⟩
 free:=fun b u q n _=>by rw [aL (Nat.ne_of_lt (Nat.lt_of_lt_of_le (Heap.lt_size q) hp))]; exact n
 there:=fun b u q _=>⟨u,k b u q⟩
 tups:=fun b xs q=>by rw [aL (cH q hn)]; exact q
 frzs:=fun b u xs q=>by rw [aL (cH q hn)]; exact q
 tbls:=fun b ps q=>⟨#[],by rw [aL (cH q hn),q]; simp⟩
theorem Un.write (mu:Mut (H x))(he:e=x\/H e=some (.own x))(k : ∀ b u,b ≠ e->h.get? b=some u->h'.get? b=some u)(heo : ∃ u,h'.get? e=some u):Un fs ex H (upd H x o) h h':=by
 have hx : ∀ b,H b=none->b ≠ x:=fun b n z=>by subst z; rw [n] at mu; exact mu
 have hb : ∀ b,H b=none->b ≠ e:=fun b n z=>by
  subst z
  rcases he with r | r
  ·exact hx b n r
  ·rw [n] at r; cases r
 have hm : ∀ b u,H b=some u->¬ Mut (some u)->b ≠ x:=fun b u q nm z=>by subst z; rw [q] at mu; exact nm mu
 refine ⟨fun b u q n _ _=>k b u (hb b n) q,fun b u q n _ _=>⟨u.slots,k b u (hb b n) q⟩,fun b u q n _=>by rw [aL (hx b n)]; exact n,fun b u q _ => ?_,
  fun b xs q=>by rw [aL (hm b _ q fun z=>z)]; exact q,fun b u xs q=>by rw [aL (hm b _ q fun z=>z)]; exact q,fun b ps q=>⟨#[],by rw [aL (hm b _ q fun z=>z),q]; simp⟩⟩
 by_cases hbe:b=e
 ·subst hbe; exact heo
 ·exact ⟨u,k b u hbe q⟩
end
def trk (h:Heap)(H:Hp):List Addr:=(List.range h.objs.size).filter fun a=>(H a).isSome
def hidT (h:Heap)(H:Hp):Heap:=PySem.W.hideAll h (trk h H)
theorem vL (h:Heap)(H:Hp):(hidT h H).objs.size=h.objs.size:=PySem.W.hideAll_size _ _
theorem yV {h:Heap}{H:Hp}{b:Addr}{o:Obj}(e:h.get? b=some o)(n:H b=none):(hidT h H).get? b=some o :=
 PySem.W.hideAll_get _ e fun hm=>by
  have q:(H b).isSome=true:=(List.mem_filter.mp hm).2
  rw [n] at q; simp at q
theorem aCo {h:Heap}{H:Hp}{b:Addr}{o:Obj}(e:(hidT h H).get? b=some o):h.get? b=some o/\H b=none:=by
 have e':h.get? b=some o:=PySem.W.of_hideAll (trk h H) e
 refine ⟨e',?_⟩
 cases q:H b with
 | none=>rfl
 | some x =>
  have hm:b ∈ trk h H:=List.mem_filter.mpr ⟨List.mem_range.mpr (Heap.lt_size e'),by simp [q]⟩
  have z:(hidT h H).get? b=none:=PySem.W.hideAll_none (trk h H) hm
  rw [z] at e; cases e
def aC3 (g h:Heap)(L:Addr):List (Addr × Obj):=(List.range h.objs.size).filterMap fun a=>if a=L\/(g.get? a).isSome=true then none else (h.get? a).map fun o=>(a,o)
def rest (g h:Heap)(L d:Addr):List (Addr × Obj):=(aC3 g h L).filter fun p=>decide (p.1 ≠ d)
structure Mod (K:PySem.W.Frag)(mg:Str->Option Value)(base:Heap):Prop where
 kin:K.In base
 glob:base.Ns mainGlobals mg
 blt : ∃ mb,base.Ns builtinsNs mb/\∀ x:Str,x ≠ "__name__" -> mb x=bootBuiltins x
 nolimit:base.NoLimit
structure Cx where
 prog:Program
 w:World
 K:PySem.W.Frag
 mg:Str->Option Value
 base:Heap
 A:Around
 N:List Str
 s₀:Shared
 H₀:Hp
 env:Env
 outer:List Env
 stack:List Env
 ex:List Addr
 fn:Str->Bool
 calm:Bool
 pn:List (Addr × Obj)
 xe:Value->Shared->Prop
def frs (l:List Env):List Addr:=l.filterMap (·.frame)
abbrev Cx.fs (X:Cx):List Addr:=frs X.outer
def Vis (sc:Scope)(x:Str):Prop:=sc.names.lookup x=some .local\/sc.names.lookup x=some .cell\/sc.names.lookup x=some .free
def Loc (sc:Scope)(x:Str):Prop:=sc.names.lookup x=some .local\/sc.names.lookup x=some .cell
def Look (env:Env)(h:Heap)(m:Str->Option Value)(x:Str)(u:Value):Prop :=
 (env.kindOf x=some .local/\m x=some u)\/((env.kindOf x=some .cell\/env.kindOf x=some .free)/\∃ c,env.cells.lookup x=some c/\h.IsCell c (some u))
structure Cx.Ok (X:Cx):Prop where
 mod:Mod X.K X.mg X.base
 kind:X.env.scope.kind = .function
 glob:X.env.globals=mainGlobals
 blt:X.env.builtins=builtinsNs
 above:X.s₀.heap.objs.size<=X.env.locals
 inj : ∀ x y c,X.env.cells.lookup x=some c->X.env.cells.lookup y=some c->x=y
 has : ∀ x,(X.env.kindOf x=some .cell\/X.env.kindOf x=some .free)->∃ c,X.env.cells.lookup x=some c
 cab : ∀ x c,X.fn x=true->X.env.cells.lookup x=some c->X.s₀.heap.objs.size<=c
 hd:X.calm=true->X.A.handled=none
 frames:X.A.frames=some X.stack
 stk:X.stack=X.outer\/(X.stack=X.env :: X.outer/\X.env.frame=some X.env.locals)
 exf : ∀ b ∈ X.ex,b ≠ X.env.locals/\∀ x c,X.env.cells.lookup x=some c->c ≠ b
 bs : ∀ b o,X.base.get? b=some o->X.s₀.heap.get? b=some o/\X.H₀ b=none
 bsz:X.base.objs.size<=X.s₀.heap.objs.size
 noex : ∀ b o,X.base.get? b=some o->b ∉ X.ex
 exfs : ∀ b ∈ X.ex,b ∉ X.fs
 funs:X.s₀.heap.FunFrames X.base X.outer
 frf : ∀ b ∈ X.fs,X.H₀ b=none
structure Inv (X:Cx)(pins:List (Addr × Obj))(σ:List (Option V))(H:Hp)(s:Shared):Prop where
 ok:X.Ok
 os:s.os=X.s₀.os
 bare:AllBare s.gens
 base:Un X.fs X.ex X.H₀ H X.s₀.heap s.heap
 loc : ∃ m,s.heap.Ns X.env.locals m/\∀ (i:Nat) (x:Str) (v:V),X.N[i]?=some x->σ[i]?=some (some v)->Vis X.env.scope x->∃ u,RelV v u/\Look X.env s.heap m x u
 cell : ∀ x c,X.env.cells.lookup x=some c->∃ v,s.heap.IsCell c v
 free:H X.env.locals=none
 freeC : ∀ x c,X.env.cells.lookup x=some c->H c=none
 pin : ∀ p ∈ X.pn ++ pins,s.heap.get? p.1=some p.2/\H p.1=none/\p.1 ≠ X.env.locals/\p.1 ∉ X.fs/\∀ v,p.2.data ≠ .cell v
 hok:HOk X.prog X.w H s.heap
 len:σ.length=X.N.length
section
variable {X:Cx}{pins:List (Addr × Obj)}{σ:List (Option V)}{H H':Hp}{s:Shared}{h':Heap}
theorem Cx.Ok.nofr (ok:X.Ok){b:Addr}{o:Obj}(e:X.base.get? b=some o):b ∉ X.fs:=fun hb=>by
 have:=(ok.funs.mem hb).1
 rw [e] at this; cases this
theorem Inv.bs (I:Inv X pins σ H s) : ∀ b o,X.base.get? b=some o->s.heap.get? b=some o/\H b=none:=fun b o e =>
 ⟨I.base.keep b o (I.ok.bs b o e).1 (I.ok.bs b o e).2 (I.ok.nofr e) (I.ok.noex b o e),I.base.free b o (I.ok.bs b o e).1 (I.ok.bs b o e).2 (I.ok.noex b o e)⟩
theorem Inv.bk (I:Inv X pins σ H s) : ∀ b o,X.base.get? b=some o->s.heap.get? b=some o:=fun b o e=>(I.bs b o e).1
theorem Inv.mod (I:Inv X pins σ H s):Mod X.K X.mg X.base:=I.ok.mod
theorem Inv.kIn (I:Inv X pins σ H s):X.K.In s.heap:=I.ok.mod.kin.keeps I.bk
theorem Inv.fr (I:Inv X pins σ H s) : ∃ m,Fr X.base X.env.locals s.heap m :=
 let ⟨m,hn,_⟩:=I.loc
 ⟨m,hn,I.bk,Nat.le_trans I.ok.bsz I.ok.above⟩
theorem Inv.lt (I:Inv X pins σ H s):X.env.locals < s.heap.objs.size:=let ⟨_,hn,_⟩:=I.loc; hn.lt
theorem Inv.sz (I:Inv X pins σ H s):X.s₀.heap.objs.size<=s.heap.objs.size:=Nat.le_trans I.ok.above (Nat.le_of_lt I.lt)
theorem Inv.nofs (I:Inv X pins σ H s){a:Addr}(h:s.heap.objs.size<=a):a ∉ X.fs:=fun hb=>by
 obtain ⟨_,o,ho,_⟩:=I.ok.funs.mem hb
 exact absurd (Nat.lt_of_lt_of_le (Heap.lt_size ho) (Nat.le_trans I.sz h)) (Nat.lt_irrefl _)
theorem Inv.cne (I:Inv X pins σ H s) : ∀ x c,X.env.cells.lookup x=some c->c ≠ X.env.locals:=fun x c e z=>by
 obtain ⟨v,o,ho,hd⟩:=I.cell x c e
 obtain ⟨m,⟨o',es,ep,ho',hd',_⟩,_⟩:=I.loc
 rw [z,ho'] at ho; cases ho; rw [hd'] at hd; cases hd
theorem Inv.funs (I:Inv X pins σ H s):s.heap.FunFrames X.base X.outer:=by
 have all : ∀ (l:List Env),(∀ b ∈ frs l,b ∈ X.fs)->X.s₀.heap.FunFrames X.base l->s.heap.FunFrames X.base l:=by
  intro l
  induction l with
  | nil=>intro _ _; trivial
  | cons env r ih =>
   intro hs hl
   obtain ⟨hk,⟨L,o,hf,hn,ho,hd⟩,hr⟩:=hl
   have hL:L ∈ X.fs:=hs L (by unfold frs; rw [List.filterMap_cons,hf]; exact List.mem_cons_self)
   obtain ⟨sl,e⟩:=I.base.slot L o ho (I.ok.frf L hL) hL fun z=>I.ok.exfs L z hL
   exact ⟨hk,⟨L,_,hf,hn,e,hd⟩,ih (fun b hb=>hs b (by unfold frs; rw [List.filterMap_cons,hf]; exact List.mem_cons_of_mem _ hb)) hr⟩
 exact all X.outer (fun _ hb=>hb) I.ok.funs
theorem Inv.stack (I:Inv X pins σ H s):s.heap.FunFrames X.base X.stack:=by
 rcases I.ok.stk with e | ⟨e,hf⟩
 ·rw [e]; exact I.funs
 ·rw [e]
  obtain ⟨m,hn,_⟩:=I.loc
  refine .cons (by rw [I.ok.kind]; decide) hf hn ?_ I.funs
  exact Heap.get?_none_of_le (Nat.le_trans I.ok.bsz I.ok.above)
theorem Inv.stkSub (I:Inv X pins σ H s) : ∀ b ∈ frs X.stack,b ∈ X.env.locals :: X.fs:=fun b hb=>by
 rcases I.ok.stk with e | ⟨e,hf⟩
 ·rw [e] at hb; exact List.mem_cons_of_mem _ hb
 ·rw [e] at hb
  unfold frs at hb
  rw [List.filterMap_cons,hf] at hb
  exact hb
theorem Inv.stkFree (I:Inv X pins σ H s) : ∀ b ∈ frs X.stack,H b=none:=fun b hb=>by
 rcases List.mem_cons.mp (I.stkSub b hb) with e | hb
 ·rw [e]; exact I.free
 ·obtain ⟨_,o,ho,_⟩:=I.ok.funs.mem hb
  exact I.base.free b o ho (I.ok.frf b hb) fun z=>I.ok.exfs b z hb
theorem Inv.step {g':Array GenState}{t':Nat}{d':Drawn}{ch:List Addr}(I:Inv X pins σ H s)
  (hch : ∀ b ∈ ch,(b ∈ X.ex\/X.s₀.heap.objs.size<=b)/\b ≠ X.env.locals/\(∀ x c,X.env.cells.lookup x=some c->c ≠ b)/\∀ p ∈ X.pn ++ pins,p.1 ≠ b)
  (keep : ∀ b o,b ≠ X.env.locals->b ∉ X.fs->b ∉ ch->s.heap.get? b=some o->H b=none->h'.get? b=some o)
  (slot : ∀ b o,b ≠ X.env.locals->b ∈ X.fs->b ∉ ch->s.heap.get? b=some o->H b=none->∃ sl,h'.get? b=some { o with slots:=sl }) (free : ∀ b o,b ∉ ch->s.heap.get? b=some o->H b=none->H' b=none)
  (there : ∀ b o,b ∉ ch->s.heap.get? b=some o->∃ o',h'.get? b=some o')
  (tups : ∀ b xs,H b=some (.tup xs)->H' b=some (.tup xs)) (frzs : ∀ b o u,H b=some (.frz o u)->H' b=some (.frz o u)) (tbls : ∀ b ps,H b=some (.tbl ps)->∃ more,H' b=some (.tbl (ps ++ more)))
  (ns : ∀ m,s.heap.Ns X.env.locals m->h'.Ns X.env.locals m) (hok:HOk X.prog X.w H' h') (hg:AllBare g') :
  Inv X pins σ H' { s with heap:=h',gens:=g',drawn:=d',toks:=t' }:=by
 have neL : ∀ b o,X.s₀.heap.get? b=some o->b ≠ X.env.locals:=fun b o e=>Nat.ne_of_lt (Nat.lt_of_lt_of_le (Heap.lt_size e) I.ok.above)
 have neC : ∀ b o,X.s₀.heap.get? b=some o->b ∉ X.ex->b ∉ ch:=fun b o e hx hb=>by
  rcases (hch b hb).1 with z | z
  ·exact hx z
  ·exact absurd (Nat.lt_of_lt_of_le (Heap.lt_size e) z) (Nat.lt_irrefl _)
 have cellK : ∀ x c,X.env.cells.lookup x=some c->∀ v,s.heap.IsCell c v->h'.IsCell c v:=fun x c e v ⟨o,ho,hd⟩=>by
  have nch:c ∉ ch:=fun z=>(hch c z).2.2.1 x c e rfl
  by_cases hc:c ∈ X.fs
  ·obtain ⟨sl,q⟩:=slot c o (I.cne x c e) hc nch ho (I.freeC x c e)
   exact ⟨_,q,hd⟩
  ·exact ⟨o,keep c o (I.cne x c e) hc nch ho (I.freeC x c e),hd⟩
 refine ⟨I.ok,I.os,hg,⟨fun b o e n hb hx => ?_,fun b o e n hb hx => ?_,fun b o e n hx => ?_,fun b o e hx => ?_,fun b xs e=>tups b xs (I.base.tups b xs e),fun b o xs e=>frzs b o xs (I.base.frzs b o xs e),fun b ps e => ?_⟩,?_,fun x c e => ?_,?_,fun x c e => ?_,fun p hp => ?_,hok,I.len⟩
 ·exact keep b o (neL b o e) hb (neC b o e hx) (I.base.keep b o e n hb hx) (I.base.free b o e n hx)
 ·obtain ⟨sl,e1⟩:=I.base.slot b o e n hb hx
  obtain ⟨sl',e2⟩:=slot b _ (neL b o e) hb (neC b o e hx) e1 (I.base.free b o e n hx)
  exact ⟨sl',e2⟩
 ·obtain ⟨o',e1⟩:=I.base.there b o e hx
  exact free b o' (neC b o e hx) e1 (I.base.free b o e n hx)
 ·obtain ⟨o',e1⟩:=I.base.there b o e hx
  exact there b o' (neC b o e hx) e1
 ·obtain ⟨m1,e1⟩:=I.base.tbls b ps e
  obtain ⟨m2,e2⟩:=tbls b _ e1
  exact ⟨m1 ++ m2,by rw [e2,Array.append_assoc]⟩
 ·obtain ⟨m,hn,hl⟩:=I.loc
  refine ⟨m,ns m hn,fun i x v e1 e2 e3 => ?_⟩
  obtain ⟨u,r,l⟩:=hl i x v e1 e2 e3
  refine ⟨u,r,?_⟩
  rcases l with l | ⟨k,c,e,z⟩
  ·exact .inl l
  ·exact .inr ⟨k,c,e,cellK x c e _ z⟩
 ·obtain ⟨v,z⟩:=I.cell x c e
  exact ⟨v,cellK x c e v z⟩
 ·obtain ⟨m,⟨o,_,_,ho,_⟩,_⟩:=I.loc
  exact free _ o (fun z=>(hch _ z).2.1 rfl) ho I.free
 ·obtain ⟨v,o,ho,hd⟩:=I.cell x c e
  exact free c o (fun z=>(hch c z).2.2.1 x c e rfl) ho (I.freeC x c e)
 ·obtain ⟨e,n,ne,nf,d⟩:=I.pin p hp
  have nch:p.1 ∉ ch:=fun z=>(hch p.1 z).2.2.2 p hp rfl
  exact ⟨keep p.1 p.2 ne nf nch e n,free p.1 p.2 nch e n,ne,nf,d⟩
theorem Inv.un {t':Nat}(I:Inv X pins σ H s)(u:Un X.fs [] H H' s.heap h')(hok:HOk X.prog X.w H' h'):Inv X pins σ H' { s with heap:=h',toks:=t' }:=by
 obtain ⟨m,⟨o,es,ep,ho,r⟩,_⟩:=id I.loc
 obtain ⟨sl,hL⟩:=u.any ho I.free (by simp)
 exact I.step (g':=s.gens) (d':=s.drawn) (ch:=[]) (fun _ z=>nomatch z) (fun b o _ hb _ e n=>u.keep b o e n hb (by simp)) (fun b o _ hb _ e n=>u.slot b o e n hb (by simp)) (fun b o _ e n=>u.free b o e n (by simp)) (fun b o _ e=>u.there b o e (by simp)) u.tups u.frzs u.tbls (fun m' hm=>by
  obtain ⟨o',es',ep',ho',r'⟩:=hm
  rw [ho] at ho'; cases ho'
  exact ⟨_,es',ep',hL,r'⟩) hok I.bare
theorem Inv.call {g':Array GenState}{t':Nat}{d':Drawn}{ch:List Addr}(I:Inv X pins σ H s)(u:Un (frs X.stack) ch H H' s.heap h')(hok:HOk X.prog X.w H' h')(hg:AllBare g')
  (hch : ∀ b ∈ ch,(b ∈ X.ex\/X.s₀.heap.objs.size<=b)/\b ≠ X.env.locals/\(∀ x c,X.env.cells.lookup x=some c->c ≠ b)/\∀ p ∈ X.pn ++ pins,p.1 ≠ b) :
  Inv X pins σ H' { s with heap:=h',gens:=g',drawn:=d',toks:=t' }:=by
 obtain ⟨m,⟨o,es,ep,ho,r⟩,_⟩:=id I.loc
 obtain ⟨sl,hL⟩:=u.any ho I.free fun z=>(hch _ z).2.1 rfl
 exact I.step (ch:=ch) hch (fun b o hL hb hc e n=>u.keep b o e n (fun z=>(List.mem_cons.mp (I.stkSub b z)).elim hL hb) hc) (fun b o _ _ hc e n=>u.any e n hc) (fun b o hc e n=>u.free b o e n hc) (fun b o hc e=>u.there b o e hc) u.tups u.frzs u.tbls (fun m' hm=>by
  obtain ⟨o',es',ep',ho',r'⟩:=hm
  rw [ho] at ho'; cases ho'
  exact ⟨_,es',ep',hL,r'⟩) hok hg
theorem Inv.turned {t':Nat}{it:Addr}(I:Inv X pins σ H s)(k : ∀ b o,b ≠ it->s.heap.get? b=some o->h'.get? b=some o)(hn:H it=none)(hL:it ≠ X.env.locals)
  (h1:it ∈ X.ex\/X.s₀.heap.objs.size<=it) (h2 : ∀ x c,X.env.cells.lookup x=some c->c ≠ it) (h3 : ∀ p ∈ X.pn ++ pins,p.1 ≠ it):Inv X pins σ H { s with heap:=h',toks:=t' }:=by
 have nit : ∀ b u,H b=some u->b ≠ it:=fun b u e z=>by rw [z,hn] at e; cases e
 refine I.step (g':=s.gens) (d':=s.drawn) (ch:=[it]) (fun b hb => ?_) (fun b o _ _ hc e _=>k b o (fun z=>hc (by simp [z])) e) (fun b o _ _ hc e _=>⟨o.slots,k b o (fun z=>hc (by simp [z])) e⟩) (fun _ _ _ _ n=>n)
  (fun b o hc e=>⟨o,k b o (fun z=>hc (by simp [z])) e⟩) (fun _ _ e=>e) (fun _ _ _ e=>e) (fun b ps e=>⟨#[],by rw [e]; simp⟩) (fun m hm => ?_) (fun b u e => ?_) I.bare
 ·have e:b=it:=by simpa using hb
  subst e
  exact ⟨h1,hL,h2,h3⟩
 ·obtain ⟨o,es,ep,ho,r⟩:=hm
  exact ⟨o,es,ep,k _ o (Ne.symm hL) ho,r⟩
 ·refine (I.hok b u e).stay (fun c v hc q=>k c v ?_ q) (fun _ q=>q) fun _ _ q=>q
  rcases hc with z | z
  ·rw [z]; exact nit b u e
  ·exact nit c _ z
theorem Inv.tok (I:Inv X pins σ H s)(t:Nat):Inv X pins σ H { s with toks:=t }:=I.un (h':=s.heap) (t':=t) Un.refl I.hok
theorem Inv.kept {t':Nat}(I:Inv X pins σ H s)(k : ∀ b u,s.heap.get? b=some u->h'.get? b=some u):Inv X pins σ H { s with heap:=h',toks:=t' }:=I.un (Un.kept k) (I.hok.kept k)
theorem Inv.laid {a:Addr}{o:HO}{t':Nat}(I:Inv X pins σ H s)(k : ∀ b u,s.heap.get? b=some u->h'.get? b=some u)(hp:s.heap.objs.size<=a)(new:ObjOk X.prog X.w (upd H a o) h' a o) :
  Inv X pins σ (upd H a o) { s with heap:=h',toks:=t' }:=I.un (Un.laid k hp (I.hok.fresh hp)) (I.hok.laid k hp new)
theorem Inv.write {x e:Addr}{o:HO}{t':Nat}(I:Inv X pins σ H s)(mu:Mut (H x))(he:e=x\/H e=some (.own x))(k : ∀ b u,b ≠ e->s.heap.get? b=some u->h'.get? b=some u)(heo : ∃ u,h'.get? e=some u)
  (new:ObjOk X.prog X.w (upd H x o) h' x o):Inv X pins σ (upd H x o) { s with heap:=h',toks:=t' }:=I.un (Un.write mu he k heo) (I.hok.write mu he k heo new)
theorem Inv.weak {σ':List (Option V)}(I:Inv X pins σ H s)(hl:σ'.length=σ.length)(w : ∀ (i:Nat) v,σ'[i]?=some (some v)->σ[i]?=some (some v)):Inv X pins σ' H s :=
 ⟨I.ok,I.os,I.bare,I.base,let ⟨m,hn,hl'⟩:=I.loc; ⟨m,hn,fun i x v e1 e2 e3=>hl' i x v e1 (w i v e2) e3⟩,I.cell,I.free,I.freeC,I.pin,I.hok,hl.trans I.len⟩
theorem Inv.pins_of {pins':List (Addr × Obj)}(I:Inv X pins σ H s)(h : ∀ p ∈ pins',s.heap.get? p.1=some p.2/\H p.1=none/\p.1 ≠ X.env.locals/\p.1 ∉ X.fs/\∀ v,p.2.data ≠ .cell v):Inv X pins' σ H s :=
 ⟨I.ok,I.os,I.bare,I.base,I.loc,I.cell,I.free,I.freeC,fun p hp=>(List.mem_append.mp hp).elim (fun z=>I.pin p (List.mem_append_left _ z)) (h p),I.hok,I.len⟩
theorem lR {N:List Str}(hN:N.Nodup){i j:Nat}{x:Str}(a:N[i]?=some x)(b:N[j]?=some x):i=j:=by
 obtain ⟨h1,e1⟩:=List.getElem?_eq_some_iff.mp a
 obtain ⟨h2,e2⟩:=List.getElem?_eq_some_iff.mp b
 exact (List.getElem_inj hN).mp (e1.trans e2.symm)
theorem tI {M:Model}{A:Around}{E:Value->Shared->Prop}{i:Nat}{x:Str}{v:V}{u:Value}{Q:Unit->Shared->Prop}(I:Inv X pins σ H s)(hN:X.N.Nodup)(hi:X.N[i]?=some x)(hx:Loc X.env.scope x)(r:RelV v u)
  (h : ∀ s',Inv X pins (σ.set i (some v)) H s'->(∃ a,Heap.SameBut a s.heap s'.heap/\(a=X.env.locals\/X.env.cells.lookup x=some a))->Q () s') (hf:X.fn x=true\/X.env.scope.names.lookup x=some .local:=by first | exact .inl rfl | exact .inr rfl | assumption):wpAny M A (storeName X.env x u) Q E s:=by
 obtain ⟨m,hn,hl⟩:=id I.loc
 have hcls:(X.env.scope.kind == .class || (X.env.scope.kind == .module && X.env.locals != X.env.globals))=false:=by rw [I.ok.kind]; rfl
 have hiσ:i < σ.length:=by rw [I.len]; exact (List.getElem?_eq_some_iff.mp hi).1
 have cne:=I.cne
 have tracked : ∀ {a:Addr} {h':Heap},(∃ o,s.heap.get? a=some o/\H a=none)->Heap.SameBut a s.heap h'->HOk X.prog X.w H h':=fun {a h'} ha hs b ob e=>by
  obtain ⟨_,_,hfree⟩:=ha
  refine (I.hok b ob e).stay (fun c w' hc q=>(hs.2 c ?_).trans q) (fun _ q=>q) fun _ _ q=>q
  rintro rfl
  rcases hc with rfl | hc
  ·rw [hfree] at e; cases e
  ·rw [hfree] at hc; cases hc
 rcases hx with hk | hk
 ·refine wpAny_storeName_local hk hn (fun h' hn' hs => ?_) hcls
  obtain ⟨oL,_,_,hoL,_⟩:=id hn
  refine h _ ⟨I.ok,I.os,I.bare,⟨fun b o e n hb hx => ?_,fun b o e n hb hx => ?_,I.base.free,fun b o e hx => ?_,I.base.tups,I.base.frzs,I.base.tbls⟩,⟨_,hn',fun j y v' e1 e2 e3 => ?_⟩,fun y c e => ?_,I.free,I.freeC,fun p hp => ?_,tracked ⟨oL,hoL,I.free⟩ hs,by simpa using I.len⟩ ⟨_,hs,.inl rfl⟩
  ·exact (hs.2 b (Nat.ne_of_lt (Nat.lt_of_lt_of_le (Heap.lt_size e) I.ok.above))).trans (I.base.keep b o e n hb hx)
  ·obtain ⟨sl,e1⟩:=I.base.slot b o e n hb hx
   exact ⟨sl,(hs.2 b (Nat.ne_of_lt (Nat.lt_of_lt_of_le (Heap.lt_size e) I.ok.above))).trans e1⟩
  ·obtain ⟨o',e1⟩:=I.base.there b o e hx
   exact ⟨o',(hs.2 b (Nat.ne_of_lt (Nat.lt_of_lt_of_le (Heap.lt_size e) I.ok.above))).trans e1⟩
  ·by_cases hj:j=i
   ·subst hj
    rw [hi] at e1; cases e1
    rw [List.getElem?_set_self hiσ] at e2
    cases e2
    exact ⟨u,r,.inl ⟨hk,by simp⟩⟩
   ·rw [List.getElem?_set_ne (Ne.symm hj)] at e2
    obtain ⟨u',r',q⟩:=hl j y v' e1 e2 e3
    refine ⟨u',r',?_⟩
    rcases q with ⟨k,e⟩ | ⟨k,c,e,z⟩
    ·refine .inl ⟨k,?_⟩
     have:y ≠ x:=fun e=>hj (lR hN e1 (e ▸ hi))
     simp [this,e]
    ·exact .inr ⟨k,c,e,z.sameBut hs (cne y c e)⟩
  ·obtain ⟨w',z⟩:=I.cell y c e
   exact ⟨w',z.sameBut hs (cne y c e)⟩
  ·obtain ⟨e,n,ne,nf,d⟩:=I.pin p hp
   exact ⟨(hs.2 p.1 ne).trans e,n,ne,nf,d⟩
 ·have hfn:X.fn x=true:=by
   rcases hf with z | z
   ·exact z
   ·rw [z] at hk; cases hk
  obtain ⟨c,hc⟩:=I.ok.has x (.inl hk)
  obtain ⟨w',z⟩:=I.cell x c hc
  refine wpAny_storeName_cell I.ok.kind hk hc z (fun h' hc' hs => ?_)
  obtain ⟨oc,hoc,hocd⟩:=id z
  refine h { s with heap:=h' } ⟨I.ok,I.os,I.bare,⟨fun b o e n hb hx => ?_,fun b o e n hb hx => ?_,I.base.free,fun b o e hx => ?_,I.base.tups,I.base.frzs,I.base.tbls⟩,⟨m,hn.sameBut hs (Ne.symm (cne x c hc)),fun j y v' e1 e2 e3 => ?_⟩,fun y c' e => ?_,I.free,I.freeC,fun p hp => ?_,tracked ⟨oc,hoc,I.freeC x c hc⟩ hs,by simpa using I.len⟩ ⟨c,hs,.inr hc⟩
  ·exact (hs.2 b (Nat.ne_of_lt (Nat.lt_of_lt_of_le (Heap.lt_size e) (I.ok.cab x c hfn hc)))).trans (I.base.keep b o e n hb hx)
  ·obtain ⟨sl,e1⟩:=I.base.slot b o e n hb hx
   exact ⟨sl,(hs.2 b (Nat.ne_of_lt (Nat.lt_of_lt_of_le (Heap.lt_size e) (I.ok.cab x c hfn hc)))).trans e1⟩
  ·obtain ⟨o',e1⟩:=I.base.there b o e hx
   exact ⟨o',(hs.2 b (Nat.ne_of_lt (Nat.lt_of_lt_of_le (Heap.lt_size e) (I.ok.cab x c hfn hc)))).trans e1⟩
  ·by_cases hj:j=i
   ·subst hj
    rw [hi] at e1; cases e1
    rw [List.getElem?_set_self hiσ] at e2
    cases e2
    exact ⟨u,r,.inr ⟨.inl hk,c,hc,hc'⟩⟩
   ·rw [List.getElem?_set_ne (Ne.symm hj)] at e2
    obtain ⟨u',r',q⟩:=hl j y v' e1 e2 e3
    refine ⟨u',r',?_⟩
    rcases q with q | ⟨k,c',e,z'⟩
    ·exact .inl q
    ·refine .inr ⟨k,c',e,z'.sameBut hs ?_⟩
     rintro rfl
     exact hj (lR hN e1 (I.ok.inj _ _ _ e hc ▸ hi))
  ·by_cases hcc:c'=c
   ·subst hcc; exact ⟨_,hc'⟩
   ·obtain ⟨w2,z2⟩:=I.cell y c' e
    exact ⟨w2,z2.sameBut hs hcc⟩
  ·obtain ⟨e,n,ne,nf,d⟩:=I.pin p hp
   refine ⟨(hs.2 p.1 ?_).trans e,n,ne,nf,d⟩
   intro q
   rw [q,hoc] at e
   have q':oc=p.2:=Option.some.inj e
   exact d w' (by rw [<- q']; exact hocd)
theorem iB {M:Model}{A:Around}{E:Value->Shared->Prop}{i:Nat}{x:Str}{v:V}{u:Value}{Q:Unit->Shared->Prop}(I:Inv X pins σ H s)(hN:X.N.Nodup)(hi:X.N[i]?=some x)(hx:Loc X.env.scope x)(r:RelV v u)
  (h : ∀ s',Inv X pins (σ.set i (some v)) H s'->Q () s') (hf:X.fn x=true\/X.env.scope.names.lookup x=some .local:=by first | exact .inl rfl | exact .inr rfl | assumption):wpAny M A (storeName X.env x u) Q E s :=
 tI I hN hi hx r (fun s' I' _=>h s' I') hf
theorem Inv.call' {s':Shared}{ch:List Addr}(I:Inv X pins σ H s)(ho:s'.os=s.os)(u:Un (frs X.stack) ch H H' s.heap s'.heap)(hok:HOk X.prog X.w H' s'.heap)(hg:AllBare s'.gens)
  (hch : ∀ b ∈ ch,(b ∈ X.ex\/X.s₀.heap.objs.size<=b)/\b ≠ X.env.locals/\(∀ x c,X.env.cells.lookup x=some c->c ≠ b)/\∀ p ∈ X.pn ++ pins,p.1 ≠ b):Inv X pins σ H' s':=by
 obtain ⟨h',g',d',t',o'⟩:=s'
 have e:o'=s.os:=ho
 subst e
 exact I.call (g':=g') (t':=t') (d':=d') u hok hg hch
end
abbrev XK:=Value->Option Addr->Hp->Prop
abbrev St:=List (Option V)
abbrev VK:=V->Hp->Prop
abbrev TE:=St->Hp->VK->Prop
abbrev TT:=St->Hp->(Bool->Hp->Prop)->Prop
abbrev TA:=St->Hp->(List V->Hp->Prop)->Prop
structure Ends where
 nx:St->Hp->Prop
 rt:VK
 bk:St->Hp->Prop:=fun _ _=>False
 ct:St->Hp->Prop:=fun _ _=>False
abbrev TS:=Ends->St->Hp->Prop
def EP (X:Cx)(pins:List (Addr × Obj))(σ:St)(Q:VK)(u:Value)(s':Shared):Prop:=∃ v H',Inv X pins σ H' s'/\RelV v u/\Q v H'
def TP (X:Cx)(pins:List (Addr × Obj))(σ:St)(Q:Bool->Hp->Prop)(b:Bool)(s':Shared):Prop:=∃ H',Inv X pins σ H' s'/\Q b H'
def AP (X:Cx)(pins:List (Addr × Obj))(σ:St)(Q:List V->Hp->Prop)(us:List Value)(s':Shared):Prop:=∃ vs H',Inv X pins σ H' s'/\Vals vs us/\Q vs H'
def SP (X:Cx)(pins:List (Addr × Obj))(D:Ends)(f:Flow)(s':Shared):Prop :=
 match f with
 | .next=>∃ σ' H',Inv X pins σ' H' s'/\D.nx σ' H'
 | .brk=>∃ σ' H',Inv X pins σ' H' s'/\D.bk σ' H'
 | .cont=>∃ σ' H',Inv X pins σ' H' s'/\D.ct σ' H'
 | .ret u=>∃ v σ' H',Inv X pins σ' H' s'/\RelV v u/\D.rt v H'
def PE (X:Cx)(e:Expr)(t:TE):Prop :=
 ∀ (pins:List (Addr × Obj)) (s:Shared) (σ:St) (H:Hp) (Q:VK),Inv X pins σ H s->t σ H Q->wpAny (model X.prog X.w) X.A (eval e X.env) (EP X pins σ Q) X.xe s
def PT (X:Cx)(e:Expr)(t:TT):Prop :=
 ∀ (pins:List (Addr × Obj)) (s:Shared) (σ:St) (H:Hp) (Q:Bool->Hp->Prop),Inv X pins σ H s->t σ H Q->wpAny (model X.prog X.w) X.A (isTrue e X.env (eval e X.env)) (TP X pins σ Q) X.xe s
def PW (X:Cx)(e:Expr)(t:TT):Prop :=
 ∀ (whole:Sem Value) (pins:List (Addr × Obj)) (s:Shared) (σ:St) (H:Hp) (Q:Bool->Hp->Prop),Inv X pins σ H s->t σ H Q->wpAny (model X.prog X.w) X.A (isTrue e X.env whole) (TP X pins σ Q) X.xe s
theorem PW.pt {X:Cx}{e:Expr}{t:TT}(h:PW X e t):PT X e t:=h _
def PA (X:Cx)(es:List Expr)(t:TA):Prop :=
 ∀ (pos:Pos) (pins:List (Addr × Obj)) (s:Shared) (σ:St) (H:Hp) (Q:List V->Hp->Prop),Inv X pins σ H s->t σ H Q->wpAny (model X.prog X.w) X.A (spliced (backTo pos (starEach es X.env))) (AP X pins σ Q) X.xe s
def PS (X:Cx)(st:Stmt)(t:TS):Prop :=
 ∀ (pins:List (Addr × Obj)) (s:Shared) (σ:St) (H:Hp) (D:Ends),Inv X pins σ H s->t D σ H->wpAny (model X.prog X.w) X.A (exec st X.env) (SP X pins D) X.xe s
def PSs (X:Cx)(st:List Stmt)(t:TS):Prop :=
 ∀ (pins:List (Addr × Obj)) (s:Shared) (σ:St) (H:Hp) (D:Ends),Inv X pins σ H s->t D σ H->wpAny (model X.prog X.w) X.A (execs st X.env) (SP X pins D) X.xe s
theorem thn {α:Type}{t:Sem α}{Q Q':α->Shared->Prop}{M:Model}{A:Around}{E:Value->Shared->Prop}{s:Shared}(h:wpAny M A t Q E s)(hQ : ∀ a s,Q a s->Q' a s):wpAny M A t Q' E s:=wpAny_mono h hQ fun _ _ x=>x
section
variable {X:Cx}
theorem bin {a b:Expr}{ta tb:TE}(ha:PE X a ta)(hb:PE X b tb){pins:List (Addr × Obj)}{s:Shared}{σ:St}{H:Hp}{R:V->V->Hp->Prop}(I:Inv X pins σ H s)(h:ta σ H fun x H1=>tb σ H1 fun y H2=>R x y H2)
  {α:Type} {Q:α->Shared->Prop} {f:Value->Value->Sem α}
  (hf : ∀ v u s2 x y H2,Inv X pins σ H2 s2->RelV x v->RelV y u->R x y H2->wpAny (model X.prog X.w) X.A (f v u) Q X.xe s2) :
  wpAny (model X.prog X.w) X.A (eval a X.env) (fun v s₁=>wpAny (model X.prog X.w) X.A (eval b X.env) (fun u s₂=>wpAny (model X.prog X.w) X.A (f v u) Q X.xe s₂) X.xe s₁) X.xe s:=by
 refine thn (ha pins s σ H _ I h) fun v s1 ⟨x,H1,I1,r1,q1⟩ => ?_
 refine thn (hb pins s1 σ H1 _ I1 q1) fun u s2 ⟨y,H2,I2,r2,q2⟩ => ?_
 exact hf v u s2 x y H2 I2 r1 r2 q2
def tVar (i:Nat):TE:=fun σ H Q=>∃ v,σ[i]?=some (some v)/\Q v H
def tC (v:V):TE:=fun _ H Q=>Q v H
theorem qI {i:Nat}{x:Str}{pos:Pos}(hN:X.N[i]?=some x)(hv:Vis X.env.scope x)(hd:(x == ("__debug__" : Str))=false:=by decide)(hcd:(x == ("__classdict__" : Str))=false:=by decide):PE X (.Name x pos) (tVar i):=by
 intro pins s σ H Q I h
 obtain ⟨v,e,h⟩:=h
 obtain ⟨m,hn,hl⟩:=I.loc
 obtain ⟨u,r,l⟩:=hl i x v hN e hv
 have fin:EP X pins σ Q u s:=⟨v,H,I,r,h⟩
 rcases l with ⟨hk,hm⟩ | ⟨hk,c,hc,hcell⟩
 ·exact wpAny_Name (wpAny_loadName_local I.ok.kind hk hn hm fin) hd
 ·rcases hk with hk | hk
  ·exact wpAny_Name (wpAny_loadName_cell I.ok.kind hk hc hcell fin) hd
  ·exact wpAny_Name (wpAny_loadName_free I.ok.kind hk hc hcell fin hcd) hd
theorem aF {i j pos}:PE X (.Constant (.int i) j pos) (tC (.int i)):=fun _ _ _ H _ I h=>wpAny_Constant_int ⟨.int i,H,I.tok _,⟨_,rfl⟩,h⟩
theorem jV {b j pos}:PE X (.Constant (.bool b) j pos) (tC (.bl b)):=fun _ _ _ H _ I h=>Constant_bool ⟨.bl b,H,I,rfl,h⟩
theorem dS {j pos}:PE X (.Constant .none j pos) (tC .non):=fun _ _ _ H _ I h=>Constant_none ⟨.non,H,I,rfl,h⟩
theorem bX {x j pos}:PE X (.Constant (.str x) j pos) (tC (.str x)):=fun _ _ _ H _ I h=>Calls.Constant_str ⟨.str x,H,I.tok _,⟨_,rfl⟩,h⟩
def Gl (X:Cx)(x:Str):Prop:=X.env.kindOf x=some .globalImplicit
theorem fN {E:Value->Shared->Prop}{pins:List (Addr × Obj)}{s:Shared}{σ:St}{H:Hp}{x:Str}{u:Value}{pos:Pos}{Q:Value->Shared->Prop}(I:Inv X pins σ H s)(hg:Gl X x)(hm:X.mg x=some u)(h:Q u s)
  (hd:(x == ("__debug__" : Str))=false:=by decide):wpAny (model X.prog X.w) X.A (eval (.Name x pos) X.env) Q E s :=
 Calls.Name_function_global I.ok.kind hg (Calls.loadGlobal_global (by rw [I.ok.glob]; exact I.mod.glob.keeps I.bk) hm h) hd
theorem iU {E:Value->Shared->Prop}{pins:List (Addr × Obj)}{s:Shared}{σ:St}{H:Hp}{x:Str}{u:Value}{pos:Pos}{Q:Value->Shared->Prop}(I:Inv X pins σ H s)(hg:Gl X x)(hm:X.mg x=none)(hv:bootBuiltins x=some u)(h:Q u s)
  (hn:x ≠ "__name__" := by decide) (hd:(x == ("__debug__" : Str))=false:=by decide):wpAny (model X.prog X.w) X.A (eval (.Name x pos) X.env) Q E s:=by
 obtain ⟨mb,h1,h2⟩:=I.mod.blt
 exact Calls.Name_function_global I.ok.kind hg (Calls.loadGlobal_builtin (by rw [I.ok.glob]; exact I.mod.glob.keeps I.bk) hm (by rw [I.ok.blt]; exact h1.keeps I.bk) ((h2 x hn).trans hv) h) hd
theorem dQ {x:Str}{v:V}{u:Value}{pos:Pos}(hg:Gl X x)(hm:X.mg x=some u)(r:RelV v u)(hd:(x == ("__debug__" : Str))=false:=by decide):PE X (.Name x pos) (tC v) :=
 fun _ _ _ H _ I h=>fN I hg hm ⟨v,H,I,r,h⟩ hd
theorem gB {x:Str}{v:V}{u:Value}{pos:Pos}(hg:Gl X x)(hm:X.mg x=none)(hv:bootBuiltins x=some u)(r:RelV v u)(hn:x ≠ "__name__" := by decide)(hd:(x == ("__debug__" : Str))=false:=by decide):PE X (.Name x pos) (tC v) :=
 fun _ _ _ H _ I h=>iU I hg hm hv ⟨v,H,I,r,h⟩ hn hd
def t2I (ta tb:TE)(k:Int->Int->Hp->Prop):St->Hp->Prop:=fun σ H=>ta σ H fun x H1=>tb σ H1 fun y H2=>∃ i j,x = .int i/\y = .int j/\k i j H2
def tAdd (ta tb:TE):TE:=fun σ H Q=>t2I ta tb (fun i j H2=>Q (.int (i+j)) H2) σ H
def tSub (ta tb:TE):TE:=fun σ H Q=>t2I ta tb (fun i j H2=>Q (.int (i - j)) H2) σ H
def tMul (ta tb:TE):TE:=fun σ H Q=>t2I ta tb (fun i j H2=>(-(2 ^ 64) < i/\i < 2 ^ 64)/\Q (.int (i*j)) H2) σ H
variable {a b:Expr}{ta tb:TE}{pos:Pos}
def PC (X:Cx)(op:CmpOp)(a b:Expr)(t:TE):Prop :=
 ∀ (pins:List (Addr × Obj)) (s:Shared) (σ:St) (H:Hp) (Q:VK),Inv X pins σ H s->t σ H Q ->
  wpAny (model X.prog X.w) X.A (eval a X.env) (fun v s₁=>wpAny (model X.prog X.w) X.A (eval b X.env) (fun u s₂=>wpAny (model X.prog X.w) X.A (compareOp op v u) (EP X pins σ Q) X.xe s₂) X.xe s₁) X.xe s
def tCmp (p:Int->Int->Bool)(ta tb:TE):TE:=fun σ H Q=>t2I ta tb (fun i j H2=>Q (.bl (p i j)) H2) σ H
abbrev tLt:TE->TE->TE:=tCmp fun i j=>decide (i < j)
abbrev tLe:TE->TE->TE:=tCmp fun i j=>decide (i<=j)
abbrev tGt:TE->TE->TE:=tCmp fun i j=>decide (j < i)
abbrev tGe:TE->TE->TE:=tCmp fun i j=>decide (j<=i)
abbrev tEqI:TE->TE->TE:=tCmp fun i j=>decide (i=j)
abbrev tNeI:TE->TE->TE:=tCmp fun i j => !decide (i=j)
def tIsN (ta:TE):TE:=fun σ H Q=>ta σ H fun x H1=>Q (.bl (decide (x = .non))) H1
def tNotN (ta:TE):TE:=fun σ H Q=>ta σ H fun x H1=>Q (.bl (!decide (x = .non))) H1
def tB (t:TE):TT:=fun σ H Q=>t σ H fun x H1=>∃ c,x = .bl c/\Q c H1
theorem pt_cmp {op:CmpOp}{t:TE}(h:PC X op a b t)(h1:behindInMarks op b=false:=by first | exact nobehind _ (by decide) (by decide) | rfl):PT X (.Compare a [op] [b] pos) (tB t):=by
 intro pins s σ H Q I hw
 refine wpAny_isTrue_Compare1 (thn (h pins s σ H _ I hw) fun v s1 h1=>thn h1 fun u s2 h2=>thn h2 fun c s3 ⟨x,H1,I1,r1,q1⟩ => ?_) h1
 obtain ⟨d,rfl,q⟩:=q1
 cases r1
 exact wpAny_truthy_bool ⟨H1,I1,q⟩
theorem eO {e:Expr}{t:TE}(h:PE X e t)(he : ∀ whole,isTrue e X.env whole=(do let v <- whole; standAt e.pos; holding [v] (truthy v)):=by intro _; rfl):PT X e (tB t):=by
 intro pins s σ H Q I hw
 refine isTrue_plain (thn (h pins s σ H _ I hw) fun v s1 ⟨x,H1,I1,r1,q1⟩ => ?_) (he _)
 obtain ⟨d,rfl,q⟩:=q1
 cases r1
 exact wpAny_truthy_bool ⟨H1,I1,q⟩
variable {tA tB':TT}{rest:List Expr}
def tAnd (t u:TT):TT:=fun σ H Q=>t σ H fun c H1=>if c=true then u σ H1 Q else Q false H1
def tOr (t u:TT):TT:=fun σ H Q=>t σ H fun c H1=>if c=true then Q true H1 else u σ H1 Q
def tNot (t:TT):TT:=fun σ H Q=>t σ H fun c H1=>Q (!c) H1
theorem gW (ha:PT X a tA):PW X (.BoolOp .And [a] pos) tA:=by
 intro wh pins s σ H Q I h
 refine isTrue_and (thn (ha pins s σ H Q I h) fun c s1 e => ?_)
 cases c with
 | true=>exact isTrue_and_nil e
 | false=>exact e
theorem eU (ha:PT X a tA):PW X (.BoolOp .Or [a] pos) tA:=by
 intro wh pins s σ H Q I h
 refine isTrue_or (thn (ha pins s σ H Q I h) fun c s1 e => ?_)
 cases c with
 | false=>exact isTrue_or_nil e
 | true=>exact e
theorem jT (ha:PT X a tA)(hb:PW X (.BoolOp .And (b :: rest) pos) tB'):PW X (.BoolOp .And (a :: b :: rest) pos) (tAnd tA tB'):=by
 intro wh pins s σ H Q I h
 refine isTrue_and (thn (ha pins s σ H _ I h) fun c s1 ⟨H1,I1,q1⟩ => ?_)
 cases c with
 | true=>exact hb wh pins s1 σ H1 Q I1 q1
 | false=>exact ⟨H1,I1,q1⟩
theorem fW (ha:PT X a tA)(hb:PW X (.BoolOp .Or (b :: rest) pos) tB'):PW X (.BoolOp .Or (a :: b :: rest) pos) (tOr tA tB'):=by
 intro wh pins s σ H Q I h
 refine isTrue_or (thn (ha pins s σ H _ I h) fun c s1 ⟨H1,I1,q1⟩ => ?_)
 cases c with
 | true=>exact ⟨H1,I1,q1⟩
 | false=>exact hb wh pins s1 σ H1 Q I1 q1
theorem fS (ha:PT X a tA):PT X (.UnaryOp .Not a pos) (tNot tA):=by
 intro pins s σ H Q I h
 exact isTrue_not (ha pins s σ H (fun c H1=>Q (!c) H1) I h)
def aF3 (ta tb:TE):TE:=fun σ H Q=>ta σ H fun x H1=>∃ c,x = .bl c/\if c=true then tb σ H1 Q else Q (.bl false) H1
def tOrV (ta tb:TE):TE:=fun σ H Q=>ta σ H fun x H1=>∃ c,x = .bl c/\if c=true then Q (.bl true) H1 else tb σ H1 Q
def aFz (ta:TE):TE:=fun σ H Q=>ta σ H fun x H1=>∃ c,x = .bl c/\Q (.bl (!c)) H1
theorem mW {op}{t:TE}(h:PE X a t):PE X (.BoolOp op [a] pos) t:=fun pins s σ H Q I hw=>BoolOp_one (h pins s σ H Q I hw)
theorem uK (ha:PE X a ta)(hb:PE X (.BoolOp .And (b :: rest) pos) tb):PE X (.BoolOp .And (a :: b :: rest) pos) (aF3 ta tb):=by
 intro pins s σ H Q I h
 refine BoolOp_and (thn (ha pins s σ H _ I h) fun v s1 ⟨x,H1,I1,r1,q1⟩ => ?_)
 obtain ⟨c,rfl,q1⟩:=q1
 cases r1
 refine wpAny_truthy_bool ?_
 cases c with
 | true=>exact hb pins s1 σ H1 Q I1 q1
 | false=>exact ⟨.bl false,H1,I1,rfl,q1⟩
theorem aGc (ha:PE X a ta)(hb:PE X (.BoolOp .Or (b :: rest) pos) tb):PE X (.BoolOp .Or (a :: b :: rest) pos) (tOrV ta tb):=by
 intro pins s σ H Q I h
 refine BoolOp_or (thn (ha pins s σ H _ I h) fun v s1 ⟨x,H1,I1,r1,q1⟩ => ?_)
 obtain ⟨c,rfl,q1⟩:=q1
 cases r1
 refine wpAny_truthy_bool ?_
 cases c with
 | false=>exact hb pins s1 σ H1 Q I1 q1
 | true=>exact ⟨.bl true,H1,I1,rfl,q1⟩
theorem aEq (ha:PE X a ta):PE X (.UnaryOp .Not a pos) (aFz ta):=by
 intro pins s σ H Q I h
 refine UnaryOp_ (thn (ha pins s σ H _ I h) fun v s1 ⟨x,H1,I1,r1,q1⟩ => ?_)
 obtain ⟨c,rfl,q1⟩:=q1
 cases r1
 exact not_of (wpAny_truthy_bool ⟨.bl (!c),H1,I1,rfl,q1⟩)
def tIf (t:TT)(ta tb:TE):TE:=fun σ H Q=>t σ H fun c H1=>if c=true then ta σ H1 Q else tb σ H1 Q
theorem xL {c:Expr}(hc:PT X c tA)(ha:PE X a ta)(hb:PE X b tb):PE X (.IfExp c a b pos) (tIf tA ta tb):=by
 intro pins s σ H Q I h
 refine wpAny_IfExp (thn (hc pins s σ H _ I h) fun d s1 ⟨H1,I1,q1⟩ => ?_)
 cases d with
 | true=>exact ha pins s1 σ H1 Q I1 q1
 | false=>exact hb pins s1 σ H1 Q I1 q1
end
def SqL (K:PySem.W.Frag)(H:Hp)(a:Addr)(xs:List V):Prop :=
 Rd H a (.lst xs) \/
  ∃ (o:Obj) (its:Array Value) (n:Nat),K.lookup a=some o/\o.cls = .type "list" /\ o.dict=none/\o.data = .seq its n/\its.size<=sizeLine/\Vals xs its.toList
def SqT (K:PySem.W.Frag)(H:Hp)(a:Addr)(xs:List V):Prop :=
 Rd H a (.tup xs) \/
  ∃ (o:Obj) (its:Array Value) (n:Nat),K.lookup a=some o/\o.cls = .type "tuple" /\ o.data = .seq its n/\its.size<=sizeLine/\Vals xs its.toList
def absV:Value->Option V
 | .none=>some .non
 | .bool b=>some (.bl b)
 | .int i _=>some (.int i)
 | .str x _=>some (.str x)
 | .bytes b _=>some (.byt b)
 | .float b _=>some (.flt b)
 | .ref a=>some (.ref a)
 | .type n=>some (.ty n)
 | _=>none
theorem RelV.abs {x:V}{u:Value}(r:RelV x u):absV u=some x:=by
 cases x with
 | non=>cases r; rfl
 | bl _=>cases r; rfl
 | int _=>obtain ⟨t,rfl⟩:=r; rfl
 | str _=>obtain ⟨t,rfl⟩:=r; rfl
 | byt _=>obtain ⟨t,rfl⟩:=r; rfl
 | flt _=>obtain ⟨t,rfl⟩:=r; rfl
 | ref _=>cases r; rfl
 | ty _=>cases r; rfl
theorem RelV.inj {x y:V}{u:Value}(r:RelV x u)(q:RelV y u):x=y:=Option.some.inj (r.abs.symm.trans q.abs)
theorem Vals.inj : ∀ {xs ys:List V} {us:List Value},Vals xs us->Vals ys us->xs=ys
 | _,_,_,.nil,.nil=>rfl
 | _,_,_,.cons r t,.cons r' t'=>by rw [r.inj r',Vals.inj t t']
section
variable {X:Cx}{pins:List (Addr × Obj)}{σ:St}{H:Hp}{s:Shared}{a:Addr}{xs ys:List V}
theorem SqL.of {K:PySem.W.Frag}(h:H a=some (.lst xs)):SqL K H a xs:=.inl (.inl h)
theorem SqT.of {K:PySem.W.Frag}(h:H a=some (.tup xs)):SqT K H a xs:=.inl (.inl h)
theorem Inv.list (I:Inv X pins σ H s)(h:SqL X.K H a xs) : ∃ its:List Value,Vals xs its/\PlainL s.heap a its.toArray/\xs.length<=sizeLine:=by
 rcases h with h | ⟨o,its,n,hk,hc,hd,hs,hz,r⟩
 ·obtain ⟨z,its,n,r,e⟩:=h.ok I.hok
  exact ⟨its,r,⟨_,n,e,rfl,rfl,rfl⟩,z⟩
 ·refine ⟨its.toList,r,⟨o,n,I.kIn a o hk,hc,hd,by simpa using hs⟩,?_⟩
  have e:=r.length
  simp only [Array.length_toList] at e
  omega
theorem Inv.tuple (I:Inv X pins σ H s)(h:SqT X.K H a xs) : ∃ its:List Value,Vals xs its/\IsTup s.heap a its.toArray/\xs.length<=sizeLine:=by
 rcases h with h | ⟨o,its,n,hk,hc,hs,hz,r⟩
 ·obtain ⟨z,its,r,p⟩:=h.ok I.hok
  exact ⟨its,r,p,z⟩
 ·refine ⟨its.toList,r,⟨o,I.kIn a o hk,hc,n,by simpa using hs⟩,?_⟩
  have e:=r.length
  simp only [Array.length_toList] at e
  omega
theorem Inv.list_inj (I:Inv X pins σ H s)(h:SqL X.K H a xs)(h':SqL X.K H a ys):xs=ys:=by
 obtain ⟨its,r,⟨o,n,e,_,_,d⟩,_⟩:=I.list h
 obtain ⟨its',r',⟨o',n',e',_,_,d'⟩,_⟩:=I.list h'
 rw [e] at e'; cases e'
 rw [d] at d'
 injection d' with d1 _
 have:its=its':=by simpa using congrArg Array.toList d1
 subst this
 exact r.inj r'
theorem Inv.tuple_inj (I:Inv X pins σ H s)(h:SqT X.K H a xs)(h':SqT X.K H a ys):xs=ys:=by
 obtain ⟨its,r,⟨o,e,_,n,d⟩,_⟩:=I.tuple h
 obtain ⟨its',r',⟨o',e',_,n',d'⟩,_⟩:=I.tuple h'
 rw [e] at e'; cases e'
 rw [d] at d'
 injection d' with d1 _
 have:its=its':=by simpa using congrArg Array.toList d1
 subst this
 exact r.inj r'
end
abbrev Cx.wish (X:Cx)(E:Value->Shared->Prop):Cx:={ X with xe:=E }
abbrev Cx.nox (X:Cx):Cx:=X.wish fun _ _=>False
theorem Cx.Ok.wish {X:Cx}(ok:X.Ok)(E:Value->Shared->Prop):(X.wish E).Ok :=
 ⟨ok.mod,ok.kind,ok.glob,ok.blt,ok.above,ok.inj,ok.has,ok.cab,ok.hd,ok.frames,ok.stk,ok.exf,ok.bs,ok.bsz,ok.noex,ok.exfs,ok.funs,ok.frf⟩
theorem Cx.Ok.unwish {X:Cx}{E:Value->Shared->Prop}(ok:(X.wish E).Ok):X.Ok :=
 ⟨ok.mod,ok.kind,ok.glob,ok.blt,ok.above,ok.inj,ok.has,ok.cab,ok.hd,ok.frames,ok.stk,ok.exf,ok.bs,ok.bsz,ok.noex,ok.exfs,ok.funs,ok.frf⟩
section
variable {X:Cx}{pins:List (Addr × Obj)}{σ:St}{H:Hp}{s:Shared}{E:Value->Shared->Prop}
theorem Inv.wish (I:Inv X pins σ H s)(E:Value->Shared->Prop):Inv (X.wish E) pins σ H s:=⟨I.ok.wish E,I.os,I.bare,I.base,I.loc,I.cell,I.free,I.freeC,I.pin,I.hok,I.len⟩
theorem Inv.unwish (I:Inv (X.wish E) pins σ H s):Inv X pins σ H s:=⟨I.ok.unwish,I.os,I.bare,I.base,I.loc,I.cell,I.free,I.freeC,I.pin,I.hok,I.len⟩
theorem SP.unwish {D:Ends}{f:Flow}{s':Shared}(h:SP (X.wish E) pins D f s'):SP X pins D f s':=by
 cases f with
 | next=>obtain ⟨σ',H',I,q⟩:=h; exact ⟨σ',H',I.unwish,q⟩
 | brk=>obtain ⟨σ',H',I,q⟩:=h; exact ⟨σ',H',I.unwish,q⟩
 | cont=>obtain ⟨σ',H',I,q⟩:=h; exact ⟨σ',H',I.unwish,q⟩
 | ret u=>obtain ⟨v,σ',H',I,r,q⟩:=h; exact ⟨v,σ',H',I.unwish,r,q⟩
theorem PSs.nox {st:List Stmt}{t:TS}(h:PSs X.nox st t):PSs X st t:=fun pins s σ H D I hw =>
 wpAny_mono (h pins s σ H D (I.wish _) hw) (fun _ _ q=>q.unwish) fun _ _ z=>False.elim z
end
section
variable {X:Cx}{st:Stmt}{rest:List Stmt}{t u:TS}{e:Expr}{te:TE}{pos:Pos}
def aF0:TS:=fun D σ H=>D.nx σ H
def tSeq (t u:TS):TS:=fun D σ H=>t { D with nx:=u D } σ H
theorem aU:PSs X [] aF0:=fun _ _ σ H _ I h=>wpAny_execs_nil ⟨σ,H,I,h⟩
theorem aD (h1:PS X st t)(h2:PSs X rest u):PSs X (st :: rest) (tSeq t u):=by
 intro pins s σ H D I h
 refine wpAny_execs_cons (thn (h1 pins s σ H { D with nx:=u D } I h) fun f s1 q => ?_)
 cases f with
 | next =>
  obtain ⟨σ',H',I',q⟩:=q
  exact h2 pins s1 σ' H' D I' q
 | ret v=>exact q
 | brk=>exact q
 | cont=>exact q
theorem aE (h1:PS X st t):PSs X [st] t:=by
 intro pins s σ H D I h
 refine wpAny_execs_cons (thn (h1 pins s σ H D I h) fun f s1 q => ?_)
 cases f with
 | next=>exact wpAny_execs_nil q
 | ret v=>exact q
 | brk=>exact q
 | cont=>exact q
def aDp:TS:=fun D σ H=>D.bk σ H
def tCont:TS:=fun D σ H=>D.ct σ H
theorem xI:PS X (.Break pos) aDp:=fun _ _ σ H _ I h=>wpAny_Break ⟨σ,H,I,h⟩
theorem Inv.quiet {pins:List (Addr × Obj)}{σ:St}{H:Hp}{s:Shared}(I:Inv X pins σ H s):interactive X.env=false:=by simp [interactive,I.ok.kind]
def aF1 (te:TE):TS:=fun D σ H=>te σ H fun _ H1=>D.nx σ H1
theorem bZ (he:PE X e te)(hs:swapsWith e none pos.line X.env=pure false:=by rfl):PS X (.Expr e pos) (aF1 te):=by
 intro pins s σ H D I h
 exact wpAny_Expr_any (thn (he pins s σ H _ I h) fun v s1 ⟨x,H1,I1,r1,q1⟩=>⟨σ,H1,I1,q1⟩) I.quiet hs
def tRet (te:TE):TS:=fun D σ H=>te σ H D.rt
theorem aO (he:PE X e te):PS X (.Return (some e) pos) (tRet te):=by
 intro pins s σ H D I h
 exact wpAny_Return_some (thn (he pins s σ H _ I h) fun v s1 ⟨x,H1,I1,r1,q1⟩=>⟨x,σ,H1,I1,r1,q1⟩)
def tRetN:TS:=fun D _ H=>D.rt .non H
def tIfS (c:TT)(t u:TS):TS:=fun D σ H=>c σ H fun b H1=>if b=true then t D σ H1 else u D σ H1
theorem bF {c:Expr}{a b:List Stmt}{tc:TT}(hc:PT X c tc)(ha:PSs X a t)(hb:PSs X b u):PS X (.If c a b pos) (tIfS tc t u):=by
 intro pins s σ H D I h
 refine wpAny_If (thn (hc pins s σ H _ I h) fun d s1 ⟨H1,I1,q1⟩ => ?_)
 cases d with
 | true=>exact ha pins s1 σ H1 D I1 q1
 | false=>exact hb pins s1 σ H1 D I1 q1
def aDl:TS:=fun _ _ _=>False
theorem qE:PS X st aDl:=fun _ _ _ _ _ _ h=>h.elim
end
abbrev TG:=V->St->Hp->(St->Hp->Prop)->Prop
abbrev TGs:=List V->St->Hp->(St->Hp->Prop)->Prop
def PG (X:Cx)(target:Expr)(t:TG):Prop :=
 ∀ (pins:List (Addr × Obj)) (s:Shared) (σ:St) (H:Hp) (v:V) (u:Value) (Q:St->Hp->Prop),Inv X pins σ H s->RelV v u->t v σ H Q ->
  wpAny (model X.prog X.w) X.A (assign target X.env u) (fun _ s'=>∃ σ' H',Inv X pins σ' H' s'/\Q σ' H') X.xe s
def PGs (X:Cx)(ts:List Expr)(t:TGs):Prop :=
 ∀ (pins:List (Addr × Obj)) (s:Shared) (σ:St) (H:Hp) (vs:List V) (us:List Value) (Q:St->Hp->Prop),Inv X pins σ H s->Vals vs us->t vs σ H Q ->
  wpAny (model X.prog X.w) X.A (assignInOrder ((assignEach ts X.env).map (·.2)) us) (fun _ s'=>∃ σ' H',Inv X pins σ' H' s'/\Q σ' H') X.xe s
abbrev TSet:=V->V->V->Hp->(Hp->Prop)->Prop
def PSet (X:Cx)(t:TSet):Prop :=
 ∀ (pins:List (Addr × Obj)) (s:Shared) (σ:St) (H:Hp) (o i v:V) (ov iv u:Value) (Q:Hp->Prop),Inv X pins σ H s->RelV o ov->RelV i iv->RelV v u->t o i v H Q ->
  wpAny (model X.prog X.w) X.A (setItem ov iv u) (fun _ s'=>∃ H',Inv X pins σ H' s'/\Q H') X.xe s
abbrev TIp:=V->V->Hp->VK->Prop
def PIp (X:Cx)(op:Operator)(t:TIp):Prop :=
 ∀ (pins:List (Addr × Obj)) (s:Shared) (σ:St) (H:Hp) (x y:V) (v u:Value) (Q:VK),Inv X pins σ H s->RelV x v->RelV y u->t x y H Q ->
  wpAny (model X.prog X.w) X.A (inplaceOp op v u) (EP X pins σ Q) X.xe s
section
variable {X:Cx}{pos:Pos}
def dA (i:Nat):TG:=fun v σ H Q=>Q (σ.set i (some v)) H
theorem aJ {i:Nat}{x:Str}(hN:X.N.Nodup)(hi:X.N[i]?=some x)(hx:Loc X.env.scope x)(hf:X.fn x=true\/X.env.scope.names.lookup x=some .local:=by first | exact .inl rfl | exact .inr rfl | assumption):PG X (.Name x pos) (dA i):=by
 intro pins s σ H v u Q I r h
 exact wpAny_assign_Name (iB I hN hi hx r (fun s' I'=>⟨_,H,I',h⟩) hf)
def gNil:TGs:=fun vs σ H Q=>vs=[]/\Q σ H
def dZ (t:TG)(u:TGs):TGs:=fun vs σ H Q=>∃ v r,vs=v :: r/\t v σ H fun σ' H'=>u r σ' H' Q
theorem bW:PGs X [] gNil:=by
 intro pins s σ H vs us Q I r h
 obtain ⟨e,h⟩:=h
 subst e
 cases r
 exact assignInOrder_nil ⟨σ,H,I,h⟩
theorem aP {e:Expr}{es:List Expr}{t:TG}{u:TGs}(h1:PG X e t)(h2:PGs X es u)
  (hs:(assignEach (e :: es) X.env).map (·.2)=assign e X.env :: (assignEach es X.env).map (·.2):=by rfl):PGs X (e :: es) (dZ t u):=by
 intro pins s σ H vs us Q I r h
 obtain ⟨v,vr,e1,h⟩:=h
 subst e1
 cases r with
 | cons r rr =>
  rw [hs]
  refine assignInOrder_cons (thn (h1 pins s σ H _ _ _ I r h) fun _ s1 ⟨σ1,H1,I1,q1⟩ => ?_)
  exact h2 pins s1 σ1 H1 _ _ Q I1 rr q1
def gTup (K:PySem.W.Frag)(n:Nat)(t:TGs):TG:=fun v σ H Q=>∃ a xs,v = .ref a/\SqT K H a xs/\xs.length=n/\t xs σ H Q
theorem dH {es:List Expr}{k:Nat}{t:TGs}{n:Nat}(hc:X.calm=true)(h:PGs X es t)
  (hn:(assignEach es X.env).length=n:=by rfl) (hst:(assignEach es X.env).findIdx? (·.1)=none:=by rfl):PG X (.Tuple es k pos) (gTup X.K n t):=by
 intro pins s σ H v u Q I r hw
 obtain ⟨a,xs,e1,hq,hl,hw⟩:=hw
 subst e1
 cases r
 obtain ⟨its,rv,ht,hz⟩:=I.tuple hq
 refine assign_Tuple_tuple (I.ok.hd hc) ht (by simp [hn,<- hl,rv.length]) hst fun h' hx => ?_
 have I1:Inv X pins σ H { s with heap:=h' }:=I.kept (t':=s.toks) fun b o e=>hx b o (Nat.ne_of_lt (Heap.lt_size e)) e
 exact h pins _ σ H xs _ Q I1 (by simpa using rv) hw
def gSub (to ti:TE)(t:TSet):TG:=fun v σ H Q=>to σ H fun o H1=>ti σ H1 fun i H2=>t o i v H2 fun H3=>Q σ H3
theorem aAe {o i:Expr}{to ti:TE}{t:TSet}(ho:PE X o to)(hi:PE X i ti)(hs:PSet X t)
  (ha : ∀ v,assign (.Subscript o i pos) X.env v=(do
   let ov <- holding [v] (eval o X.env)
   let iv <- holding [v,ov] (eval i X.env)
   standAt pos
   holding [v,ov,iv] (setItem ov iv v)
   release [v,ov,iv] []):=by intro _; rfl):PG X (.Subscript o i pos) (gSub to ti t):=by
 intro pins s σ H v u Q I r h
 rw [ha]
 refine wpAny_bind (wpAny_holding (thn (ho pins s σ H _ I h) fun ov s1 ⟨x,H1,I1,r1,q1⟩ => ?_))
 refine wpAny_bind (wpAny_holding (thn (hi pins s1 σ H1 _ I1 q1) fun iv s2 ⟨y,H2,I2,r2,q2⟩ => ?_))
 refine wpAny_bind (wpAny_standAt (wpAny_bind (wpAny_holding (thn (hs pins s2 σ H2 x y v ov iv u _ I2 r1 r2 r q2) fun _ s3 ⟨H3,I3,q3⟩ => ?_))))
 exact wpAny_release ⟨σ,H3,I3,q3⟩
def tAsg (te:TE)(g:TG):TS:=fun D σ H=>te σ H fun x H1=>g x σ H1 D.nx
theorem uH {tg e:Expr}{te:TE}{g:TG}(he:PE X e te)(hg:PG X tg g)(hs:swapsWithSole [tg] e pos.line X.env=pure false:=by rfl)(hw:swappedStores [tg] e X.env=pure none:=by rfl)
  (h1:(assignEach [tg] X.env).map (·.2)=[assign tg X.env]:=by rfl):PS X (.Assign [tg] e pos) (tAsg te g):=by
 intro pins s σ H D I h
 refine wpAny_Assign_stores (thn (he pins s σ H _ I h) fun v s1 ⟨x,H1,I1,r1,q1⟩ => ?_) hs hw
 rw [h1]
 exact thn (hg pins s1 σ H1 x v _ I1 r1 q1) fun _ s2 q=>q
theorem aI {i:Nat}{x:Str}{e:Expr}{te:TE}{pos':Pos}(hN:X.N.Nodup)(hi:X.N[i]?=some x)(hx:Loc X.env.scope x)(he:PE X e te)(hs:swapsWith e (some (.Name x pos')) pos.line X.env=pure false:=by rfl)(hf:X.fn x=true\/X.env.scope.names.lookup x=some .local:=by first | exact .inl rfl | exact .inr rfl | assumption) :
  PS X (.Assign [.Name x pos'] e pos) (tAsg te (dA i)):=by
 intro pins s σ H D I h
 refine wpAny_Assign_Name (thn (he pins s σ H _ I h) fun v s1 ⟨y,H1,I1,r1,q1⟩ => ?_) hs
 exact iB I1 hN hi hx r1 (fun s2 I2=>⟨_,H1,I2,q1⟩) hf
def tPar (i j:Nat)(ta:TA):TS:=fun D σ H=>ta σ H fun vs H1=>∃ v w,vs=[v,w]/\D.nx ((σ.set i (some v)).set j (some w)) H1
theorem aEj {i j:Nat}{x y:Str}{a b:Expr}{ta:TA}{px py pt:Pos}{kt k2 pt2}(hc:X.calm=true)(hN:X.N.Nodup)(hi:X.N[i]?=some x)(hj:X.N[j]?=some y)(hij:i ≠ j)
  (hx:X.env.scope.names.lookup x=some .local) (hy:X.env.scope.names.lookup y=some .local) (ha:PA X [a,b] ta)
  (hw:swappedStores [.Tuple [.Name x px,.Name y py] kt pt] (.Tuple [a,b] k2 pt2) X.env=pure (some [x,y]))
  (hs:swapsWithSole [.Tuple [.Name x px,.Name y py] kt pt] (.Tuple [a,b] k2 pt2) pos.line X.env=pure false:=by rfl) :
  PS X (.Assign [.Tuple [.Name x px,.Name y py] kt pt] (.Tuple [a,b] k2 pt2) pos) (tPar i j ta):=by
 intro pins s σ H D I h
 rw [exec_Assign_arm]
 refine wpAny_bind (wpAny_standAt ?_)
 rw [hs]
 refine wpAny_bind (wpAny_pure ?_)
 rw [if_neg (by decide)]
 refine wpAny_bind (Tuple_ (thn (ha _ pins s σ H _ I h) fun us s1 ⟨vs,H1,I1,r1,q1⟩ => ?_))
 obtain ⟨v,w,e1,q1⟩:=q1
 subst e1
 obtain ⟨u1,u2,rfl,rv,rw'⟩ : ∃ u1 u2,us=[u1,u2]/\RelV v u1/\RelV w u2:=by
  cases r1 with
  | cons p q =>
   cases q with
   | cons p' q' =>
    cases q'
    exact ⟨_,_,rfl,p,p'⟩
 refine wpAny_newObj_type ?_ (by show 2<=sizeLine; decide)
 have I2:Inv X pins σ H1 { s1 with heap:=s1.heap.push { cls:=.type "tuple",data:=.seq [u1,u2].toArray } }:=I1.kept (t':=s1.toks) fun b o e=>Heap.get?_push_of_some _ e
 rw [hw]
 refine wpAny_bind (wpAny_pure ?_)
 show wpAny (model X.prog X.w) X.A (do rule "assign.swapped-stores"; let items <- unpackItems (.ref s1.heap.objs.size) 2 none; assignInOrder [fun v=>bindName X.env y v,fun v=>bindName X.env x v] items.reverse; pure Flow.next) _ _ _
 refine wpAny_bind (wpAny_rule (wpAny_bind (unpackItems_tuple (items := #[u1,u2]) (I.ok.hd hc) (IsTup.new s1.heap _) fun h' hx' => ?_)))
 have I3:=I2.kept (h':=h') (t':=s1.toks) fun b o e=>hx' b o (Nat.ne_of_lt (Heap.lt_size e)) e
 show wpAny _ _ (assignInOrder [fun v=>bindName X.env y v,fun v=>bindName X.env x v] [u2,u1] >>= fun _=>pure Flow.next) _ _ _
 refine wpAny_bind (assignInOrder_cons (wpAny_bindName (iB I3 hN hj (.inl hy) rw' (fun s2 I4 => ?_) (.inr hy))))
 refine assignInOrder_cons (wpAny_bindName (iB I4 hN hi (.inl hx) rv (fun s3 I5=>assignInOrder_nil (wpAny_pure ?_)) (.inr hx)))
 rw [List.set_comm _ _ (Ne.symm hij)] at I5
 exact ⟨_,H1,I5,q1⟩
def tAug (i:Nat)(te:TE)(ti:TIp):TS:=fun D σ H=>∃ x,σ[i]?=some (some x)/\te σ H fun y H1=>ti x y H1 fun z H2=>D.nx (σ.set i (some z)) H2
def tAugS (to ti te:TE)(tget:V->V->Hp->VK->Prop)(tip:TIp)(tset:TSet):TS:=fun D σ H=>to σ H fun o H1=>ti σ H1 fun i H2=>tget o i H2 fun x H3=>te σ H3 fun y H4=>tip x y H4 fun z H5=>tset o i z H5 fun H6=>D.nx σ H6
def PGet (X:Cx)(t:V->V->Hp->VK->Prop):Prop :=
 ∀ (pins:List (Addr × Obj)) (s:Shared) (σ:St) (H:Hp) (o i:V) (ov iv:Value) (Q:VK),Inv X pins σ H s->RelV o ov->RelV i iv->t o i H Q ->
  wpAny (model X.prog X.w) X.A (getItem ov iv) (EP X pins σ Q) X.xe s
def ipI (f:Int->Int->Int):TIp:=fun x y H Q=>∃ i j,x = .int i/\y = .int j/\Q (.int (f i j)) H
end
section
variable {X:Cx}{pos:Pos}
def zU (c:TT)(tb:TS):TS:=fun D σ H=>∃ W:Nat->St->Hp->Prop,(∃ m,W m σ H)/\∀ m σ H,W m σ H ->
 c σ H fun b H1=>if b=true then ∃ N:St->Hp->Prop,(∀ σ' H',N σ' H'->∃ m',m' < m/\W m' σ' H')/\tb { D with nx:=N,ct:=N,bk:=D.nx } σ H1 else D.nx σ H1
theorem jH {c:Expr}{body:List Stmt}{tc:TT}{tb:TS}(hp:PassesOwn (model X.prog X.w) X.A X.env X.xe)(hc:PT X c tc)(hb:PSs X body tb):PS X (.While c body [] pos) (zU tc tb):=by
 intro pins s σ H D I h
 obtain ⟨W,⟨m0,w0⟩,turn⟩:=h
 refine wpAny_While (codeAny_whileLoop (fun n s'=>∃ σ' H',Inv X pins σ' H' s'/\W n σ' H') ?_ m0 ⟨σ,H,I,w0⟩)
 rintro n s1 ⟨σ1,H1,I1,w1⟩
 refine wpAny_passesOwn hp (thn (hc pins s1 σ1 H1 _ I1 (turn n σ1 H1 w1)) fun b s2 ⟨H2,I2,q2⟩ => ?_)
 cases b with
 | true =>
  obtain ⟨N,hN,q2⟩:=q2
  rw [if_pos rfl]
  refine wpAny_passesOwn hp (thn (hb pins s2 σ1 H2 _ I2 q2) fun f s3 q3 => ?_)
  cases f with
  | next =>
   obtain ⟨σ3,H3,I3,n3⟩:=q3
   obtain ⟨m',hm,w3⟩:=hN σ3 H3 n3
   exact ⟨m',hm,σ3,H3,I3,w3⟩
  | cont =>
   obtain ⟨σ3,H3,I3,n3⟩:=q3
   obtain ⟨m',hm,w3⟩:=hN σ3 H3 n3
   exact ⟨m',hm,σ3,H3,I3,w3⟩
  | brk=>exact q3
  | ret v=>exact q3
 | false =>
  rw [if_neg Bool.false_ne_true]
  exact wpAny_execs_nil ⟨σ1,H2,I2,q2⟩
end
structure It where
 go:Nat->Hp->Prop
 yld:Nat->Hp->V->Hp->Prop
 stop:Nat->Hp->Prop
def FpOk (X:Cx)(pins:List (Addr × Obj))(H:Hp)(b:Addr):Prop :=
 H b=none/\b ≠ X.env.locals/\b ∉ X.fs/\(b ∈ X.ex\/X.s₀.heap.objs.size<=b)/\(∀ x c,X.env.cells.lookup x=some c->c ≠ b)/\∀ p ∈ X.pn ++ pins,p.1 ≠ b
theorem Inv.fpOk {X:Cx}{pins:List (Addr × Obj)}{σ:St}{H H':Hp}{s:Shared}{b:Addr}(I:Inv X pins σ H s)(hb:s.heap.objs.size<=b)(hn:H' b=none):FpOk X pins H' b:=by
 refine ⟨hn,Nat.ne_of_gt (Nat.lt_of_lt_of_le I.lt hb),I.nofs hb,.inr (Nat.le_trans I.sz hb),fun x c e z => ?_,fun p hp z => ?_⟩
 ·obtain ⟨v,q⟩:=I.cell x c e
  exact absurd (Nat.lt_of_lt_of_le q.lt (by rw [z]; exact hb)) (Nat.lt_irrefl _)
 ·exact absurd (Nat.lt_of_lt_of_le (Heap.lt_size (I.pin p hp).1) (by rw [z]; exact hb)) (Nat.lt_irrefl _)
structure Turn (P:Program)(w:World)(K:PySem.W.Frag)(tg:Expr)(J:It)(fp:List Addr)(it:Addr)(tn:Nat->Heap->Prop):Prop where
 mem:it ∈ fp
 obj : ∀ i h,tn i h->∀ b ∈ fp,∃ o,h.get? b=some o/\∀ v,o.data ≠ .cell v
 keep : ∀ i h h',tn i h->(∀ b ∈ fp,∀ o,h.get? b=some o->h'.get? b=some o)->tn i h'
 item : ∀ (X:Cx),X.prog=P->X.w=w->X.K=K->X.calm=true->∀ (i:Nat) (pins:List (Addr × Obj)) (s:Shared) (σ:St) (H:Hp) (E:Value->Shared->Prop),Inv X pins σ H s->(∀ b ∈ fp,FpOk X pins H b)->tn i s.heap->J.go i H ->
  wpAny (model P w) X.A (pyNext (.ref it)) (fun r s1=>∃ u,r=some u /\
   wpAny (model P w) X.A (letOwnedTupleGo tg (.ref it) u) (fun _ s2=>∃ x H',Inv X pins σ H' s2/\RelV x u/\J.yld i H x H'/\tn (i+1) s2.heap/\∀ b ∈ fp,H' b=none) E s1) E s
 done : ∀ (X:Cx),X.prog=P->X.w=w->X.K=K->X.calm=true->∀ (i:Nat) (pins:List (Addr × Obj)) (s:Shared) (σ:St) (H:Hp) (E:Value->Shared->Prop),Inv X pins σ H s->(∀ b ∈ fp,FpOk X pins H b)->tn i s.heap->J.stop i H ->
  wpAny (model P w) X.A (pyNext (.ref it)) (fun r s1=>r=none/\Inv X pins σ H s1) E s
 self : ∀ (A:Around) (i:Nat) (s:Shared) (Q:Value->Shared->Prop) (E:Value->Shared->Prop),tn i s.heap->Q (.ref it) s->wpAny (model P w) A (pyIter (.ref it)) Q E s
abbrev TI:=St->Hp->(It->Hp->Prop)->Prop
def PIE (X:Cx)(pins:List (Addr × Obj))(σ:St)(tg:Expr)(R:It->Hp->Prop)(itv:Value)(s2:Shared):Prop :=
 ∃ (it:Addr) (fp:List Addr) (tn:Nat->Heap->Prop) (J:It) (H':Hp),itv = .ref it/\Inv X pins σ H' s2/\Turn X.prog X.w X.K tg J fp it tn/\tn 0 s2.heap/\(∀ b ∈ fp,FpOk X pins H' b)/\R J H'
def PI (X:Cx)(tg iter:Expr)(wi:TI):Prop :=
 ∀ (pins:List (Addr × Obj)) (s:Shared) (σ:St) (H:Hp) (R:It->Hp->Prop),Inv X pins σ H s->wi σ H R ->
  wpAny (model X.prog X.w) X.A (eval iter X.env) (fun v s1=>wpAny (model X.prog X.w) X.A (pyIter v) (PIE X pins σ tg R) X.xe s1) X.xe s
theorem yY {M:Model}{A:Around}{E:Value->Shared->Prop}{s:Shared}{tg:Expr}{it:Addr}{u:Value}{o:Obj}{n:String}{vs:Array Value}{Q:Unit->Shared->Prop}(ho:s.heap.get? it=some o)(hc:o.cls = .type n)(hd:o.data = .fields vs)
    (hn:["enumerate","zip","dict_itemiterator","dict_reverseitemiterator","odict_iterator","itertools.zip_longest","itertools.pairwise"].contains n=false) (hQ:Q () s):wpAny M A (letOwnedTupleGo tg (.ref it) u) Q E s:=by
  unfold letOwnedTupleGo
  cases tg <;> first
    | exact wpAny_pure hQ
    | (cases u <;> first
        | exact wpAny_pure hQ
        | (refine wpAny_bind (wpAny_load ho ?_)
           rw [hc,hd]
           show wpAny M A (if (["enumerate","zip","dict_itemiterator","dict_reverseitemiterator","odict_iterator","itertools.zip_longest","itertools.pairwise"].contains n && vs[0]? == some (rawInt _))=true then _ else _) Q E s
           rw [if_neg (by intro h; rw [hn,Bool.false_and] at h; cases h)]
           exact wpAny_pure hQ))
def Itl (K:PySem.W.Frag)(a:Addr):It :=
 ⟨fun i H=>∃ xs x,SqL K H a xs/\xs[i]?=some x,fun i H x H'=>H'=H/\∀ xs,SqL K H a xs->xs[i]?=some x,fun i H=>∃ xs,SqL K H a xs/\xs.length<=i⟩
def Itt (K:PySem.W.Frag)(a:Addr):It :=
 ⟨fun i H=>∃ xs x,SqT K H a xs/\xs[i]?=some x,fun i H x H'=>H'=H/\∀ xs,SqT K H a xs->xs[i]?=some x,fun i H=>∃ xs,SqT K H a xs/\xs.length<=i⟩
def Itr (lo:Int)(n:Nat):It:=⟨fun i _=>i < n,fun i H x H'=>H'=H/\x = .int (lo+i),fun i _=>n<=i⟩
theorem sY {P:Program}{w:World}{K:PySem.W.Frag}{tg:Expr}(a it:Addr):Turn P w K tg (Itl K a) [it] it (fun i h=>h.IsListIter it a i) where
 mem:=by simp
 obj:=fun i h st b hb=>by
  have e:b=it:=by simpa using hb
  subst e
  obtain ⟨o,e,c,d⟩:=st
  exact ⟨o,e,fun v z=>by rw [d] at z; cases z⟩
 keep:=fun i h h' st k=>st.at fun o e=>k it (by simp) o e
 item:=by
  intro X hP hw hK hc i pins s σ H E I hf st hg
  subst hP hw hK
  obtain ⟨xs,x,hq,hx⟩:=hg
  obtain ⟨its,rv,p,hz⟩:=I.list hq
  obtain ⟨u,hu,ru⟩:=rv.get hx
  obtain ⟨f0,f1,f2,f3,f4,f5⟩:=hf it (by simp)
  refine wpAny_pyNext_list_item st p.isList (x:=u) (by simpa using hu) fun h' st' sb => ?_
  have I1:Inv X pins σ H { s with heap:=h' }:=I.turned (t':=s.toks) (fun b o hb e=>(sb.2 b hb).trans e) f0 f1 f3 f4 f5
  obtain ⟨o,e,c,d⟩:=id st'
  exact ⟨u,rfl,yY (s:={ s with heap:=h' }) e c d (by decide) ⟨x,H,I1,ru,⟨rfl,fun ys hy=>by rw [I.list_inj hy hq]; exact hx⟩,st',fun b hb=>(hf b hb).1⟩⟩
 done:=by
  intro X hP hw hK hc i pins s σ H E I hf st hg
  subst hP hw hK
  obtain ⟨xs,hq,hx⟩:=hg
  obtain ⟨its,rv,p,hz⟩:=I.list hq
  obtain ⟨f0,f1,f2,f3,f4,f5⟩:=hf it (by simp)
  have hl:=rv.length
  exact wpAny_pyNext_list_end (I.ok.hd hc) st p.isList (by simp; omega) fun h' eb=>⟨rfl,I.turned (t':=s.toks) (fun b o hb e=>eb b o hb e) f0 f1 f3 f4 f5⟩
 self:=fun _ _ _ _ _ st h=>wpAny_pyIter_listiter st h
theorem qZ {P:Program}{w:World}{K:PySem.W.Frag}{tg:Expr}(a it:Addr):Turn P w K tg (Itt K a) [it] it (fun i h=>h.IsTupleIter it a i) where
 mem:=by simp
 obj:=fun i h st b hb=>by
  have e:b=it:=by simpa using hb
  subst e
  obtain ⟨o,e,c,d⟩:=st
  exact ⟨o,e,fun v z=>by rw [d] at z; cases z⟩
 keep:=fun i h h' st k=>st.at fun o e=>k it (by simp) o e
 item:=by
  intro X hP hw hK hc i pins s σ H E I hf st hg
  subst hP hw hK
  obtain ⟨xs,x,hq,hx⟩:=hg
  obtain ⟨its,rv,p,hz⟩:=I.tuple hq
  obtain ⟨u,hu,ru⟩:=rv.get hx
  obtain ⟨f0,f1,f2,f3,f4,f5⟩:=hf it (by simp)
  refine wpAny_pyNext_tuple_item st (show s.heap.IsTuple a its.toArray from p) (x:=u) (by simpa using hu) fun h' st' sb => ?_
  have I1:Inv X pins σ H { s with heap:=h' }:=I.turned (t':=s.toks) (fun b o hb e=>(sb.2 b hb).trans e) f0 f1 f3 f4 f5
  obtain ⟨o,e,c,d⟩:=id st'
  exact ⟨u,rfl,yY (s:={ s with heap:=h' }) e c d (by decide) ⟨x,H,I1,ru,⟨rfl,fun ys hy=>by rw [I.tuple_inj hy hq]; exact hx⟩,st',fun b hb=>(hf b hb).1⟩⟩
 done:=by
  intro X hP hw hK hc i pins s σ H E I hf st hg
  subst hP hw hK
  obtain ⟨xs,hq,hx⟩:=hg
  obtain ⟨its,rv,p,hz⟩:=I.tuple hq
  obtain ⟨f0,f1,f2,f3,f4,f5⟩:=hf it (by simp)
  have hl:=rv.length
  exact wpAny_pyNext_tuple_end (I.ok.hd hc) st (show s.heap.IsTuple a its.toArray from p) (by simp; omega) fun h' eb=>⟨rfl,I.turned (t':=s.toks) (fun b o hb e=>eb b o hb e) f0 f1 f3 f4 f5⟩
 self:=fun _ _ _ _ _ st h=>wpAny_pyIter_tupleiter st h
theorem rD {P:Program}{w:World}{K:PySem.W.Frag}{tg:Expr}(it:Addr)(lo:Int)(n:Nat):Turn P w K tg (Itr lo n) [it] it (fun i h=>IsRangeIter h it (lo+(i:Nat)*1) ((n:Int) - (i:Nat)) 1) where
 mem:=by simp
 obj:=fun i h st b hb=>by
  have e:b=it:=by simpa using hb
  subst e
  exact ⟨_,st,fun v z=>by
   have z':Data.fields _=Data.cell v:=z
   cases z'⟩
 keep:=fun i h h' st k=>k it (by simp) _ st
 item:=by
  intro X hP hw hK hc i pins s σ H E I hf st hg
  subst hP hw hK
  obtain ⟨f0,f1,f2,f3,f4,f5⟩:=hf it (by simp)
  have W:=Walks.range (prog:=X.prog) (w:=X.w) (I.ok.hd hc) it lo 1 n
  refine W.item i s _ _ hg st fun v h' tk hv st' kk => ?_
  obtain ⟨t,rfl⟩:=hv
  have I1:Inv X pins σ H { s with heap:=h',toks:=tk }:=I.turned (fun b o hb e=>kk b o (by simpa using hb) e) f0 f1 f3 f4 f5
  refine ⟨_,rfl,yY (s:={ s with heap:=h',toks:=tk }) (n := "range_iterator") st' rfl rfl (by decide) ⟨.int (lo+i),H,I1,⟨t,?_⟩,⟨rfl,rfl⟩,st',fun b hb=>(hf b hb).1⟩⟩
  rw [Int.mul_one]
 done:=by
  intro X hP hw hK hc i pins s σ H E I hf st hg
  subst hP hw hK
  obtain ⟨f0,f1,f2,f3,f4,f5⟩:=hf it (by simp)
  exact wpAny_pyNext_range_end (I.ok.hd hc) st (by have:n<=i:=hg; omega) fun h' eb=>⟨rfl,I.turned (t':=s.toks) (fun b o hb e=>eb b o hb e) f0 f1 f3 f4 f5⟩
 self:=fun _ _ _ _ _ st h=>wpAny_pyIter_rangeiter st h
section
variable {X:Cx}{tg:Expr}
def aGm (K:PySem.W.Frag)(tl:TE):TI:=fun σ H R=>tl σ H fun x H1=>∃ a,x = .ref a/\(∃ xs,SqL K H1 a xs)/\R (Itl K a) H1
def iTup (K:PySem.W.Frag)(tl:TE):TI:=fun σ H R=>tl σ H fun x H1=>∃ a,x = .ref a/\(∃ xs,SqT K H1 a xs)/\R (Itt K a) H1
theorem cJ {l:Expr}{tl:TE}(hl:PE X l tl):PI X tg l (aGm X.K tl):=by
 intro pins s σ H R I h
 refine thn (hl pins s σ H _ I h) fun v s1 ⟨x,H1,I1,r1,q1⟩ => ?_
 obtain ⟨a,e,⟨xs,hq⟩,q⟩:=q1
 subst e
 cases r1
 obtain ⟨its,rv,p,hz⟩:=I1.list hq
 refine wpAny_pyIter_list p.isList ?_
 refine ⟨s1.heap.objs.size,[s1.heap.objs.size],_,_,H1,rfl,I1.kept (t':=s1.toks) fun b o e=>Heap.get?_push_of_some _ e,sY a _,⟨_,Heap.get?_push_size _ rfl,rfl,rfl⟩,fun b hb => ?_,q⟩
 have e:b=s1.heap.objs.size:=by simpa using hb
 subst e
 exact I1.fpOk (Nat.le_refl _) (I1.hok.fresh (Nat.le_refl _))
theorem eJ {l:Expr}{tl:TE}(hl:PE X l tl):PI X tg l (iTup X.K tl):=by
 intro pins s σ H R I h
 refine thn (hl pins s σ H _ I h) fun v s1 ⟨x,H1,I1,r1,q1⟩ => ?_
 obtain ⟨a,e,⟨xs,hq⟩,q⟩:=q1
 subst e
 cases r1
 obtain ⟨its,rv,p,hz⟩:=I1.tuple hq
 refine wpAny_pyIter_tuple (show s1.heap.IsTuple a its.toArray from p) ?_
 refine ⟨s1.heap.objs.size,[s1.heap.objs.size],_,_,H1,rfl,I1.kept (t':=s1.toks) fun b o e=>Heap.get?_push_of_some _ e,qZ a _,⟨_,Heap.get?_push_size _ rfl,rfl,rfl⟩,fun b hb => ?_,q⟩
 have e:b=s1.heap.objs.size:=by simpa using hb
 subst e
 exact I1.fpOk (Nat.le_refl _) (I1.hok.fresh (Nat.le_refl _))
theorem qD {pins:List (Addr × Obj)}{σ:St}{H:Hp}{s:Shared}{R:It->Hp->Prop}{E:Value->Shared->Prop}{lo hi:Int}{t u v:Tok}{tk:Nat}(I:Inv X pins σ H s)(h1 : -(2 ^ 62)<=lo)(h2:lo < 2 ^ 62)(h3 : -(2 ^ 62)<=hi)(h4:hi < 2 ^ 62)
  (q:R (Itr lo (hi - lo).toNat) H):wpAny (model X.prog X.w) X.A (pyIter (.ref s.heap.objs.size)) (PIE X pins σ tg R) E { s with heap:=s.heap.push { cls:=.type "range",data:=.fields #[.int lo t,.int hi u,.int 1 v] },toks:=tk }:=by
 refine wpAny_pyIter_range (IsRange.new ..) (small_one h1 h2 h3 h4) ?_
 have I1:Inv X pins σ H { s with heap:=s.heap.push { cls:=.type "range",data:=.fields #[.int lo t,.int hi u,.int 1 v] },toks:=tk }:=I.kept fun b o e=>Heap.get?_push_of_some _ e
 refine ⟨(s.heap.push { cls:=.type "range",data:=.fields #[.int lo t,.int hi u,.int 1 v] }).objs.size,[(s.heap.push { cls:=.type "range",data:=.fields #[.int lo t,.int hi u,.int 1 v] }).objs.size],_,_,H,rfl,
  I1.kept (t':=tk) fun b o e=>Heap.get?_push_of_some _ e,rD _ lo (hi - lo).toNat,?_,fun b hb => ?_,q⟩
 ·have e1:lo+((0:Nat):Int)*1=lo:=by simp
  have e2:(((hi - lo).toNat:Nat):Int) - ((0:Nat):Int)=Builtin.Range.rangeSize lo hi 1:=by rw [rangeSize_one]; split <;> omega
  show IsRangeIter _ _ (lo+((0:Nat):Int)*1) ((((hi - lo).toNat:Nat):Int) - ((0:Nat):Int)) 1
  rw [e1,e2]
  exact Heap.get?_push_size _ rfl
 ·have e:b=(s.heap.push { cls:=.type "range",data:=.fields #[.int lo t,.int hi u,.int 1 v] }).objs.size:=by simpa using hb
  subst e
  exact I1.fpOk (Nat.le_refl _) (I1.hok.fresh (Nat.le_refl _))
def aGl (ta:TA):TI:=fun σ H R=>ta σ H fun vs H1=>∃ j:Int,vs=[.int j] /\ -(2 ^ 62)<=j/\j < 2 ^ 62/\R (Itr 0 j.toNat) H1
def aGk (ta:TA):TI:=fun σ H R=>ta σ H fun vs H1=>∃ i j:Int,vs=[.int i,.int j]/\(-(2 ^ 62)<=i/\i < 2 ^ 62 /\ -(2 ^ 62)<=j/\j < 2 ^ 62)/\R (Itr i (j - i).toNat) H1
theorem eF {a:Expr}{ta:TA}{p pos:Pos}(hg:Gl X "range")(hm:X.mg "range" = none)(ha:PA X [a] ta)(hs:starEach [a] X.env=[(false,eval a X.env)]:=by rfl):PI X tg (.Call (.Name "range" p) [a] [] pos) (aGl ta):=by
 intro pins s σ H R I h
 refine Call_ (iU I hg hm boot_range (PyProof.Rows.callWith_type1 (thn (ha pos pins s σ H _ I h) fun us s1 ⟨vs,H1,I1,r1,q1⟩ => ?_) hs rfl))
 obtain ⟨j,e,q1,q2,q⟩:=q1
 subst e
 cases r1 with
 | cons r rr =>
  cases rr
  obtain ⟨t,rfl⟩:=r
  exact call_range_1 (qD I1 (by omega) (by omega) q1 q2 (by simpa using q))
theorem mV {a b:Expr}{ta:TA}{p pos:Pos}(hg:Gl X "range")(hm:X.mg "range" = none)(ha:PA X [a,b] ta)(hs:starEach [a,b] X.env=[(false,eval a X.env),(false,eval b X.env)]:=by rfl)(hs2:starEach [b] X.env=[(false,eval b X.env)]:=by rfl) :
  PI X tg (.Call (.Name "range" p) [a,b] [] pos) (aGk ta):=by
 intro pins s σ H R I h
 refine Call_ (iU I hg hm boot_range (PyProof.Rows.callWith_type1 (thn (ha pos pins s σ H _ I h) fun us s1 ⟨vs,H1,I1,r1,q1⟩ => ?_) (by rw [hs,hs2]) (by rw [hs2]; rfl)))
 obtain ⟨i,j,e,⟨q1,q2,q3,q4⟩,q⟩:=q1
 subst e
 cases r1 with
 | cons r rr =>
  cases rr with
  | cons r' rr =>
   cases rr
   obtain ⟨t,rfl⟩:=r
   obtain ⟨t',rfl⟩:=r'
   exact call_range_2 (qD I1 q1 q2 q3 q4 q)
def tFor (wi:TI)(g:TG)(tb:TS):TS:=fun D σ H=>wi σ H fun J H1=>∃ W:Nat->Nat->St->Hp->Prop,(∃ m,W 0 m σ H1)/\∀ i m σ H,W i m σ H ->
 (J.stop i H/\D.nx σ H)\/(J.go i H/\∃ N:St->Hp->Prop,(∀ σ' H',N σ' H'->∃ m',m' < m/\W (i+1) m' σ' H')/\∀ x H',J.yld i H x H'->g x σ H' fun σ2 H2=>tb { D with nx:=N,ct:=N,bk:=D.nx } σ2 H2)
def kQ (fp:List Addr)(h:Heap):List (Addr × Obj):=fp.filterMap fun b=>(h.get? b).map fun o=>(b,o)
theorem dY {fp:List Addr}{h:Heap}{b:Addr}{o:Obj}(hb:b ∈ fp)(e:h.get? b=some o):(b,o) ∈ kQ fp h:=List.mem_filterMap.mpr ⟨b,hb,by rw [e]; rfl⟩
theorem uU {fp:List Addr}{h:Heap}{p:Addr × Obj}(hp:p ∈ kQ fp h):p.1 ∈ fp/\h.get? p.1=some p.2:=by
 obtain ⟨b,hb,e⟩:=List.mem_filterMap.mp hp
 cases q:h.get? b with
 | none=>rw [q] at e; cases e
 | some o =>
  rw [q] at e
  have e':(b,o)=p:=Option.some.inj e
  subst e'
  exact ⟨hb,q⟩
theorem Inv.pinned {pins:List (Addr × Obj)}{σ:St}{H:Hp}{s:Shared}{fp:List Addr}(I:Inv X pins σ H s)(hf : ∀ b ∈ fp,FpOk X pins H b)(ho : ∀ b ∈ fp,∃ o,s.heap.get? b=some o/\∀ v,o.data ≠ .cell v):Inv X (pins ++ kQ fp s.heap) σ H s :=
 I.pins_of fun p hp=>(List.mem_append.mp hp).elim (fun z=>I.pin p (List.mem_append_right _ z)) fun z=>by
  obtain ⟨hb,e⟩:=uU z
  obtain ⟨f0,f1,f2,_⟩:=hf p.1 hb
  obtain ⟨o,e',d⟩:=ho p.1 hb
  rw [e] at e'; cases e'
  exact ⟨e,f0,f1,f2,d⟩
theorem Inv.unpinned {pins pl:List (Addr × Obj)}{σ:St}{H:Hp}{s:Shared}(I:Inv X (pins ++ pl) σ H s):Inv X pins σ H s:=I.pins_of fun p hp=>I.pin p (List.mem_append_right _ (List.mem_append_left _ hp))
theorem bL {iter:Expr}{body:List Stmt}{wi:TI}{g:TG}{tb:TS}{pos:Pos}(hp:PassesOwn (model X.prog X.w) X.A X.env X.xe)(hc:X.calm=true)(hi:PI X tg iter wi)(hg:PG X tg g)(hb:PSs X body tb)
  (hs : ∀ x,foldedSetIterable iter X.env x=pure x:=by intro _; rfl):PS X (.For tg iter body [] pos) (tFor wi g tb):=by
 intro pins s σ H D I h
 refine wpAny_For (thn (hi pins s σ H _ I h) fun v s1 h1=>thn h1 fun itv s2 h2 => ?_) hs
 obtain ⟨it,fp,tn,J,H2,e,I2,T,st2,f2,W,⟨m0,w0⟩,turn⟩:=h2
 subst e
 have stat : ∀ {H':Hp},(∀ b ∈ fp,H' b=none)->∀ b ∈ fp,FpOk X pins H' b:=fun hn b hb=>⟨hn b hb,(f2 b hb).2⟩
 refine codeAny_forLoop_any (fun n s'=>∃ i σ' H',Inv X pins σ' H' s'/\tn i s'.heap/\(∀ b ∈ fp,H' b=none)/\W i n σ' H') ?_ m0 ⟨0,σ,H2,I2,st2,fun b hb=>(f2 b hb).1,w0⟩
 rintro n s3 ⟨i,σ3,H3,I3,st3,fr3,w3⟩
 rcases turn i n σ3 H3 w3 with ⟨stop,qn⟩ | ⟨go,N,hN,step⟩
 ·refine wpAny_passesOwn hp (thn (T.done X rfl rfl rfl hc i pins s3 σ3 H3 X.xe I3 (stat fr3) st3 stop) fun r s4 ⟨hr,I4⟩ => ?_)
  subst hr
  exact wpAny_execs_nil ⟨σ3,H3,I4,qn⟩
 ·refine wpAny_passesOwn hp (thn (T.item X rfl rfl rfl hc i pins s3 σ3 H3 X.xe I3 (stat fr3) st3 go) fun r s4 ⟨u,hr,h4⟩ => ?_)
  subst hr
  refine wpAny_passesOwn hp (thn h4 fun _ s5 ⟨x,H5,I5,r5,y5,st5,fr5⟩ => ?_)
  have I5':=I5.pinned (stat fr5) (T.obj _ _ st5)
  refine wpAny_passesOwn hp (thn (hg _ s5 σ3 H5 x u _ I5' r5 (step x H5 y5)) fun _ s6 ⟨σ6,H6,I6,q6⟩ => ?_)
  refine wpAny_passesOwn hp (thn (hb _ s6 σ6 H6 _ I6 q6) fun f s7 q7 => ?_)
  have again : ∀ {σ7:St} {H7:Hp},Inv X (pins ++ kQ fp s5.heap) σ7 H7 s7->N σ7 H7->∃ m,m < n/\∃ i σ' H',Inv X pins σ' H' s7/\tn i s7.heap/\(∀ b ∈ fp,H' b=none)/\W i m σ' H':=fun {σ7 H7} I7 n7=>by
   obtain ⟨m',hm,w7⟩:=hN σ7 H7 n7
   refine ⟨m',hm,i+1,σ7,H7,I7.unpinned,T.keep _ _ _ st5 fun b hb o e=>(I7.pin (b,o) (List.mem_append_right _ (List.mem_append_right _ (dY hb e)))).1,fun b hb => ?_,w7⟩
   obtain ⟨o,e,d⟩:=T.obj _ _ st5 b hb
   exact (I7.pin (b,o) (List.mem_append_right _ (List.mem_append_right _ (dY hb e)))).2.1
  cases f with
  | next=>obtain ⟨σ7,H7,I7,n7⟩:=q7; exact again I7 n7
  | cont=>obtain ⟨σ7,H7,I7,n7⟩:=q7; exact again I7 n7
  | brk=>obtain ⟨σ7,H7,I7,q7⟩:=q7; exact ⟨σ7,H7,I7.unpinned,q7⟩
  | ret v=>obtain ⟨x7,σ7,H7,I7,r7,q7⟩:=q7; exact ⟨x7,σ7,H7,I7.unpinned,r7,q7⟩
end
theorem eP {K:PySem.W.Frag}{a:Addr}{xs:List V}{g:TG}{tb:TS}{D:Ends}{σ:St}{H:Hp}(Pv:Nat->St->Hp->Prop)(h0:Pv 0 σ H)(hl : ∀ i σ H,i<=xs.length->Pv i σ H->SqL K H a xs)
  (hs : ∀ i x σ H,xs[i]?=some x->Pv i σ H->g x σ H fun σ2 H2=>tb { D with nx:=Pv (i+1),ct:=Pv (i+1),bk:=D.nx } σ2 H2) (hd : ∀ σ H,Pv xs.length σ H->D.nx σ H) :
  ∃ W:Nat->Nat->St->Hp->Prop,(∃ m,W 0 m σ H)/\∀ i m σ H,W i m σ H ->
   ((Itl K a).stop i H/\D.nx σ H)\/((Itl K a).go i H/\∃ N:St->Hp->Prop,(∀ σ' H',N σ' H'->∃ m',m' < m/\W (i+1) m' σ' H')/\∀ x H',(Itl K a).yld i H x H'->g x σ H' fun σ2 H2=>tb { D with nx:=N,ct:=N,bk:=D.nx } σ2 H2):=by
 refine ⟨fun i m σ H=>m=xs.length - i/\i<=xs.length/\Pv i σ H,⟨xs.length,by simp,Nat.zero_le _,h0⟩,?_⟩
 rintro i m σ H ⟨rfl,hi,p⟩
 have q:=hl i σ H hi p
 by_cases hlt:i < xs.length
 ·refine .inr ⟨⟨xs,xs[i],q,by simp [hlt]⟩,Pv (i+1),fun σ' H' p'=>⟨xs.length - (i+1),by omega,rfl,hlt,p'⟩,fun x H' y => ?_⟩
  obtain ⟨e,y⟩:=y
  subst e
  exact hs i x σ _ (y xs q) p
 ·have e:i=xs.length:=by omega
  subst e
  exact .inl ⟨⟨xs,q,Nat.le_refl _⟩,hd σ H p⟩
theorem fP {K:PySem.W.Frag}{a:Addr}{xs:List V}{g:TG}{tb:TS}{D:Ends}{σ:St}{H:Hp}(Pv:Nat->St->Hp->Prop)(h0:Pv 0 σ H)(hl : ∀ i σ H,i<=xs.length->Pv i σ H->SqT K H a xs)
  (hs : ∀ i x σ H,xs[i]?=some x->Pv i σ H->g x σ H fun σ2 H2=>tb { D with nx:=Pv (i+1),ct:=Pv (i+1),bk:=D.nx } σ2 H2) (hd : ∀ σ H,Pv xs.length σ H->D.nx σ H) :
  ∃ W:Nat->Nat->St->Hp->Prop,(∃ m,W 0 m σ H)/\∀ i m σ H,W i m σ H ->
   ((Itt K a).stop i H/\D.nx σ H)\/((Itt K a).go i H/\∃ N:St->Hp->Prop,(∀ σ' H',N σ' H'->∃ m',m' < m/\W (i+1) m' σ' H')/\∀ x H',(Itt K a).yld i H x H'->g x σ H' fun σ2 H2=>tb { D with nx:=N,ct:=N,bk:=D.nx } σ2 H2):=by
 refine ⟨fun i m σ H=>m=xs.length - i/\i<=xs.length/\Pv i σ H,⟨xs.length,by simp,Nat.zero_le _,h0⟩,?_⟩
 rintro i m σ H ⟨rfl,hi,p⟩
 have q:=hl i σ H hi p
 by_cases hlt:i < xs.length
 ·refine .inr ⟨⟨xs,xs[i],q,by simp [hlt]⟩,Pv (i+1),fun σ' H' p'=>⟨xs.length - (i+1),by omega,rfl,hlt,p'⟩,fun x H' y => ?_⟩
  obtain ⟨e,y⟩:=y
  subst e
  exact hs i x σ _ (y xs q) p
 ·have e:i=xs.length:=by omega
  subst e
  exact .inl ⟨⟨xs,q,Nat.le_refl _⟩,hd σ H p⟩
theorem dU {lo:Int}{n:Nat}{g:TG}{tb:TS}{D:Ends}{σ:St}{H:Hp}(Pv:Nat->St->Hp->Prop)(h0:Pv 0 σ H)
  (hs : ∀ i σ H,i < n->Pv i σ H->g (.int (lo+i)) σ H fun σ2 H2=>tb { D with nx:=Pv (i+1),ct:=Pv (i+1),bk:=D.nx } σ2 H2) (hd : ∀ σ H,Pv n σ H->D.nx σ H) :
  ∃ W:Nat->Nat->St->Hp->Prop,(∃ m,W 0 m σ H)/\∀ i m σ H,W i m σ H ->
   ((Itr lo n).stop i H/\D.nx σ H)\/((Itr lo n).go i H/\∃ N:St->Hp->Prop,(∀ σ' H',N σ' H'->∃ m',m' < m/\W (i+1) m' σ' H')/\∀ x H',(Itr lo n).yld i H x H'->g x σ H' fun σ2 H2=>tb { D with nx:=N,ct:=N,bk:=D.nx } σ2 H2):=by
 refine ⟨fun i m σ H=>m=n - i/\i<=n/\Pv i σ H,⟨n,by simp,Nat.zero_le _,h0⟩,?_⟩
 rintro i m σ H ⟨rfl,hi,p⟩
 by_cases hlt:i < n
 ·refine .inr ⟨hlt,Pv (i+1),fun σ' H' p'=>⟨n - (i+1),by omega,rfl,hlt,p'⟩,fun x H' y => ?_⟩
  obtain ⟨e,y⟩:=y
  subst e y
  exact hs i σ _ hlt p
 ·have e:i=n:=by omega
  subst e
  exact .inl ⟨Nat.le_refl _,hd σ H p⟩
theorem pT {c:TT}{tb:TS}{D:Ends}{σ:St}{H:Hp}(Pv:St->Hp->Prop)(μ:St->Hp->Nat)(h0:Pv σ H)
  (hs : ∀ σ H,Pv σ H->c σ H fun b H1=>if b=true then tb { D with nx:=fun σ' H'=>Pv σ' H'/\μ σ' H' < μ σ H,ct:=fun σ' H'=>Pv σ' H'/\μ σ' H' < μ σ H,bk:=D.nx } σ H1 else D.nx σ H1)
  (mono : ∀ σ H Q Q',(∀ b H1,Q b H1->Q' b H1)->c σ H Q->c σ H Q'):zU c tb D σ H:=by
 refine ⟨fun m σ H=>m=μ σ H/\Pv σ H,⟨_,rfl,h0⟩,?_⟩
 rintro m σ H ⟨rfl,p⟩
 refine mono σ H _ _ (fun b H1 q => ?_) (hs σ H p)
 cases b with
 | true=>exact ⟨_,fun σ' H' ⟨p',l⟩=>⟨_,l,rfl,p'⟩,q⟩
 | false=>exact q
abbrev R2:=V->V->Hp->VK->Prop
def OpR (X:Cx)(f:Value->Value->Sem Value)(r:R2):Prop :=
 ∀ (pins:List (Addr × Obj)) (s:Shared) (σ:St) (H:Hp) (x y:V) (v u:Value) (Q:VK),Inv X pins σ H s->RelV x v->RelV y u->r x y H Q ->
  wpAny (model X.prog X.w) X.A (f v u) (EP X pins σ Q) X.xe s
def UnR (X:Cx)(f:Value->Sem Value)(r:V->Hp->VK->Prop):Prop :=
 ∀ (pins:List (Addr × Obj)) (s:Shared) (σ:St) (H:Hp) (x:V) (v:Value) (Q:VK),Inv X pins σ H s->RelV x v->r x H Q ->
  wpAny (model X.prog X.w) X.A (f v) (EP X pins σ Q) X.xe s
def hZ (X:Cx)(f:Value)(r:List V->Hp->VK->Prop):Prop :=
 ∀ (pins:List (Addr × Obj)) (s:Shared) (σ:St) (H:Hp) (xs:List V) (us:List Value) (Q:VK),Inv X pins σ H s->Vals xs us->r xs H Q ->
  wpAny (model X.prog X.w) X.A (call f us) (EP X pins σ Q) X.xe s
def TruR (X:Cx)(r:V->Hp->(Bool->Hp->Prop)->Prop):Prop :=
 ∀ (pins:List (Addr × Obj)) (s:Shared) (σ:St) (H:Hp) (x:V) (v:Value) (Q:Bool->Hp->Prop),Inv X pins σ H s->RelV x v->r x H Q ->
  wpAny (model X.prog X.w) X.A (truthy v) (TP X pins σ Q) X.xe s
def tOp (r:R2)(ta tb:TE):TE:=fun σ H Q=>ta σ H fun x H1=>tb σ H1 fun y H2=>r x y H2 Q
def tUn (r:V->Hp->VK->Prop)(ta:TE):TE:=fun σ H Q=>ta σ H fun x H1=>r x H1 Q
def rI (C:Int->Int->Prop)(g:Int->Int->V):R2:=fun x y H Q=>∃ i j,x = .int i/\y = .int j/\C i j/\Q (g i j) H
def rI0 (g:Int->Int->V):R2:=fun x y H Q=>∃ i j,x = .int i/\y = .int j/\Q (g i j) H
def rU (g:Int->V):V->Hp->VK->Prop:=fun x H Q=>∃ i,x = .int i/\Q (g i) H
section
variable {X:Cx}{a b c:Expr}{ta tb tc:TE}{pos:Pos}
theorem binT (ha:PE X a ta)(hb:PE X b tb){pins:List (Addr × Obj)}{s:Shared}{σ:St}{H:Hp}{R:V->V->Hp->Prop}(I:Inv X pins σ H s)
  (h:ta σ H fun x H1=>tb σ H1 fun y H2=>R x y H2) {Q:Value->Shared->Prop} {f:Value->Value->Sem Value}
  (hf : ∀ v u s2 x y H2,Inv X pins σ H2 s2->RelV x v->RelV y u->R x y H2->wpAny (model X.prog X.w) X.A (f v u) Q X.xe s2) :
  wpAny (model X.prog X.w) X.A (eval a X.env) (fun v s₁=>wpAny (model X.prog X.w) X.A (eval b X.env) (fun u s₂=>wpAny (model X.prog X.w) X.A (f v u) Q X.xe s₂) X.xe s₁) X.xe s:=by
 refine thn (ha pins s σ H _ I h) fun v s1 ⟨x,H1,I1,r1,q1⟩ => ?_
 refine thn (hb pins s1 σ H1 _ I1 q1) fun u s2 ⟨y,H2,I2,r2,q2⟩ => ?_
 exact hf v u s2 x y H2 I2 r1 r2 q2
theorem aV {op:Operator}{r:R2}(ho:OpR X (binaryOp op) r)(ha:PE X a ta)(hb:PE X b tb):PE X (.BinOp a op b pos) (tOp r ta tb):=by
 intro pins s σ H Q I h
 exact wpAny_BinOp (binT ha hb I h fun v u s2 x y H2 I2 rx ry q=>ho pins s2 σ H2 x y v u Q I2 rx ry q)
theorem aBy {op:UnaryOp}{r:V->Hp->VK->Prop}(ho:UnR X (unaryOp op) r)(ha:PE X a ta):PE X (.UnaryOp op a pos) (tUn r ta):=by
 intro pins s σ H Q I h
 exact UnaryOp_ (thn (ha pins s σ H _ I h) fun v s1 ⟨x,H1,I1,r1,q1⟩=>ho pins s1 σ H1 x v Q I1 r1 q1)
theorem opI {f:Value->Value->Sem Value}{C:Int->Int->Prop}{g:Int->Int->Int}
  (rule : ∀ (i j:Int) (t u:Tok) (s:Shared) (Q:Value->Shared->Prop) (E:Value->Shared->Prop),C i j->Q (.int (g i j) s.toks) { s with toks:=s.toks+1 }->wpAny (model X.prog X.w) X.A (f (.int i t) (.int j u)) Q E s) :
  OpR X f (rI C fun i j=>.int (g i j)):=by
 intro pins s σ H x y v u Q I rx ry h
 obtain ⟨i,j,rfl,rfl,hc,q⟩:=h
 obtain ⟨t,rfl⟩:=rx
 obtain ⟨t',rfl⟩:=ry
 exact rule i j t t' s _ _ hc ⟨.int (g i j),H,I.tok _,⟨_,rfl⟩,q⟩
theorem opI0 {f:Value->Value->Sem Value}{g:Int->Int->Int}
  (rule : ∀ (i j:Int) (t u:Tok) (s:Shared) (Q:Value->Shared->Prop) (E:Value->Shared->Prop),Q (.int (g i j) s.toks) { s with toks:=s.toks+1 }->wpAny (model X.prog X.w) X.A (f (.int i t) (.int j u)) Q E s) :
  OpR X f (rI0 fun i j=>.int (g i j)):=by
 intro pins s σ H x y v u Q I rx ry h
 obtain ⟨i,j,rfl,rfl,q⟩:=h
 obtain ⟨t,rfl⟩:=rx
 obtain ⟨t',rfl⟩:=ry
 exact rule i j t t' s _ _ ⟨.int (g i j),H,I.tok _,⟨_,rfl⟩,q⟩
theorem opB0 {f:Value->Value->Sem Value}{g:Int->Int->Bool}
  (rule : ∀ (i j:Int) (t u:Tok) (s:Shared) (Q:Value->Shared->Prop) (E:Value->Shared->Prop),Q (.bool (g i j)) s->wpAny (model X.prog X.w) X.A (f (.int i t) (.int j u)) Q E s) :
  OpR X f (rI0 fun i j=>.bl (g i j)):=by
 intro pins s σ H x y v u Q I rx ry h
 obtain ⟨i,j,rfl,rfl,q⟩:=h
 obtain ⟨t,rfl⟩:=rx
 obtain ⟨t',rfl⟩:=ry
 exact rule i j t t' s _ _ ⟨.bl (g i j),H,I,rfl,q⟩
def CDiv (i j:Int):Prop:=0 < j/\j < 1073741824
def CDivN (i j:Int):Prop:=j ≠ 0/\j.natAbs < 1073741824
def CPow (i j:Int):Prop:=0<=j/\j<=1000000/\i.natAbs < 2 ^ 64
def CMul (i j:Int):Prop:=(-(2 ^ 64) < i/\i < 2 ^ 64)\/(-(2 ^ 64) < j/\j < 2 ^ 64)
theorem CMul.ok {i j:Int}(h:CMul i j):IntMulOk i j:=by
 rcases h with ⟨h1,h2⟩ | ⟨h1,h2⟩
 ·exact .of_left (intBits_le_64 h1 h2)
 ·exact .of_right (intBits_le_64 h1 h2)
theorem cX:OpR X (binaryOp .Add) (rI0 fun i j=>.int (i+j)):=opI0 fun _ _ _ _ _ _ _ q=>add_int q
theorem mX:OpR X (binaryOp .Sub) (rI0 fun i j=>.int (i - j)):=opI0 fun _ _ _ _ _ _ _ q=>sub_int q
theorem aAh:OpR X (binaryOp .Mult) (rI CMul fun i j=>.int (i*j)):=opI fun _ _ _ _ _ _ _ hc q=>mul_int q hc.ok
theorem eV:OpR X (binaryOp .Mod) (rI (fun _ j=>0 < j) fun i j=>.int (i % j)):=opI fun i j _ _ _ _ _ hc q=>by
 have h1:(0:Int) < j:=hc
 exact mod_int' (by omega) (by rw [Int.fmod_eq_emod_of_nonneg i (by omega)]; exact q)
theorem unI {f:Value->Sem Value}{g:Int->Int}
  (rule : ∀ (i:Int) (t:Tok) (s:Shared) (Q:Value->Shared->Prop) (E:Value->Shared->Prop),Q (.int (g i) s.toks) { s with toks:=s.toks+1 }->wpAny (model X.prog X.w) X.A (f (.int i t)) Q E s) :
  UnR X f (rU fun i=>.int (g i)):=by
 intro pins s σ H x v Q I rx h
 obtain ⟨i,rfl,q⟩:=h
 obtain ⟨t,rfl⟩:=rx
 exact rule i t s _ _ ⟨.int (g i),H,I.tok _,⟨_,rfl⟩,q⟩
theorem sW:UnR X (unaryOp .USub) (rU fun i=>.int (-i)):=unI fun _ _ _ _ _ q=>neg_int q
end
def scal:V->V->Bool
 | .non,.non=>true | .non,.int _=>true | .int _,.non=>true | .non,.bl _=>true | .bl _,.non=>true | .non,.str _=>true | .str _,.non=>true
 | .int _,.int _=>true | .bl _,.bl _=>true | .str _,.str _=>true | .byt _,.byt _=>true
 | .int _,.str _=>true | .str _,.int _=>true | .bl _,.str _=>true | .str _,.bl _=>true
 | _,_=>false
def rEq:R2:=fun x y H Q=>scal x y=true/\Q (.bl (decide (x=y))) H
def rNe:R2:=fun x y H Q=>scal x y=true/\Q (.bl (!decide (x=y))) H
theorem vW {i j:Int}:decide (V.int i=V.int j)=(i == j):=by
 rw [Bool.eq_iff_iff]
 simp
theorem aAq {i j:Bool}:decide (V.bl i=V.bl j)=(i == j):=by
 rw [Bool.eq_iff_iff]
 simp
theorem vV {i j:Str}:decide (V.str i=V.str j)=(i == j):=by
 rw [Bool.eq_iff_iff]
 simp
theorem vX {i j:Array UInt8}:decide (V.byt i=V.byt j)=(i.toList == j.toList):=by
 rw [Bool.eq_iff_iff]
 cases i
 cases j
 simp
section
variable {X:Cx}{a b c:Expr}{ta tb tc:TE}{pos:Pos}
theorem bO {pins:List (Addr × Obj)}{σ:St}{H:Hp}{s:Shared}{Q:VK}{k k':Bool}(I:Inv X pins σ H s)(q:Q (.bl k) H)(e:k=k'):EP X pins σ Q (.bool k') s:=by
 subst e
 exact ⟨.bl k,H,I,rfl,q⟩
theorem eG:OpR X (compareOp .Eq) rEq:=by
 intro pins s σ H x y v u Q I rx ry h
 obtain ⟨hs,q⟩:=h
 cases x with
 | non =>
  cases rx
  cases y with
  | non=>cases ry; exact PySem.EqNone.eq_none_none (bO I q (by simp))
  | bl j=>cases ry; exact PySem.EqNone.eq_none_bool (bO I q (by simp))
  | int j=>obtain ⟨t',rfl⟩:=ry; exact PySem.EqNone.eq_none_int (bO I q (by simp))
  | str j=>obtain ⟨t',rfl⟩:=ry; exact PySem.EqNone.eq_none_str (bO I q (by simp))
  | _=>exact absurd (show false=true from hs) Bool.false_ne_true
 | bl i =>
  cases rx
  cases y with
  | non=>cases ry; exact PySem.EqNone.eq_bool_none (bO I q (by simp))
  | bl j=>cases ry; exact eq_bool (bO I q aAq)
  | str j=>obtain ⟨t',rfl⟩:=ry; exact PySem.EqMixed.eq_bool_str (bO I q (by simp))
  | _=>exact absurd (show false=true from hs) Bool.false_ne_true
 | int i =>
  obtain ⟨t,rfl⟩:=rx
  cases y with
  | non=>cases ry; exact PySem.EqNone.eq_int_none (bO I q (by simp))
  | int j=>obtain ⟨t',rfl⟩:=ry; exact eq_int (bO I q vW)
  | str j=>obtain ⟨t',rfl⟩:=ry; exact PySem.EqMixed.eq_int_str (bO I q (by simp))
  | _=>exact absurd (show false=true from hs) Bool.false_ne_true
 | str i =>
  obtain ⟨t,rfl⟩:=rx
  cases y with
  | non=>cases ry; exact PySem.EqNone.eq_str_none (bO I q (by simp))
  | bl j=>cases ry; exact PySem.EqMixed.eq_str_bool (bO I q (by simp))
  | int j=>obtain ⟨t',rfl⟩:=ry; exact PySem.EqMixed.eq_str_int (bO I q (by simp))
  | str j=>obtain ⟨t',rfl⟩:=ry; exact eq_str (bO I q vV)
  | _=>exact absurd (show false=true from hs) Bool.false_ne_true
 | byt i =>
  obtain ⟨t,rfl⟩:=rx
  cases y with
  | byt j=>obtain ⟨t',rfl⟩:=ry; exact PySem.W.eq_bytes (bO I q vX)
  | _=>exact absurd (show false=true from hs) Bool.false_ne_true
 | _=>cases y <;> exact absurd (show false=true from hs) Bool.false_ne_true
theorem gD:OpR X (compareOp .NotEq) rNe:=by
 intro pins s σ H x y v u Q I rx ry h
 obtain ⟨hs,q⟩:=h
 cases x with
 | non =>
  cases rx
  cases y with
  | non=>cases ry; exact PySem.EqNone.ne_none_none (bO I q (by simp))
  | bl j=>cases ry; exact PySem.EqNone.ne_none_bool (bO I q (by simp))
  | int j=>obtain ⟨t',rfl⟩:=ry; exact PySem.EqNone.ne_none_int (bO I q (by simp))
  | str j=>obtain ⟨t',rfl⟩:=ry; exact PySem.EqNone.ne_none_str (bO I q (by simp))
  | _=>exact absurd (show false=true from hs) Bool.false_ne_true
 | bl i =>
  cases rx
  cases y with
  | non=>cases ry; exact PySem.EqNone.ne_bool_none (bO I q (by simp))
  | bl j=>cases ry; exact ne_bool (bO I q (congrArg not aAq))
  | str j=>obtain ⟨t',rfl⟩:=ry; exact PySem.EqMixed.ne_bool_str (bO I q (by simp))
  | _=>exact absurd (show false=true from hs) Bool.false_ne_true
 | int i =>
  obtain ⟨t,rfl⟩:=rx
  cases y with
  | non=>cases ry; exact PySem.EqNone.ne_int_none (bO I q (by simp))
  | int j=>obtain ⟨t',rfl⟩:=ry; exact ne_int (bO I q (congrArg not vW))
  | str j=>obtain ⟨t',rfl⟩:=ry; exact PySem.EqMixed.ne_int_str (bO I q (by simp))
  | _=>exact absurd (show false=true from hs) Bool.false_ne_true
 | str i =>
  obtain ⟨t,rfl⟩:=rx
  cases y with
  | non=>cases ry; exact PySem.EqNone.ne_str_none (bO I q (by simp))
  | bl j=>cases ry; exact PySem.EqMixed.ne_str_bool (bO I q (by simp))
  | int j=>obtain ⟨t',rfl⟩:=ry; exact PySem.EqMixed.ne_str_int (bO I q (by simp))
  | str j=>obtain ⟨t',rfl⟩:=ry; exact ne_str (bO I q (congrArg not vV))
  | _=>exact absurd (show false=true from hs) Bool.false_ne_true
 | byt i =>
  obtain ⟨t,rfl⟩:=rx
  cases y with
  | byt j=>obtain ⟨t',rfl⟩:=ry; exact PySem.W.ne_bytes (bO I q (congrArg not vX))
  | _=>exact absurd (show false=true from hs) Bool.false_ne_true
 | _=>cases y <;> exact absurd (show false=true from hs) Bool.false_ne_true
theorem jX:OpR X (compareOp .Lt) (rI0 fun i j=>.bl (decide (i < j))):=opB0 fun _ _ _ _ _ _ _ q=>lt_int q
theorem pH:OpR X (compareOp .Gt) (rI0 fun i j=>.bl (decide (j < i))):=opB0 fun _ _ _ _ _ _ _ q=>gt_int q
theorem mZ:OpR X (compareOp .Is) (fun x y H Q=>y = .non/\Q (.bl (decide (x = .non))) H):=by
 intro pins s σ H x y v u Q I rx ry h
 obtain ⟨rfl,q⟩:=h
 cases ry
 refine is_none_gen (bO I q ?_)
 cases x <;> first
  | (cases rx; rfl)
  | (obtain ⟨t,rfl⟩:=rx; rfl)
theorem pG:OpR X (compareOp .IsNot) (fun x y H Q=>y = .non/\Q (.bl (!decide (x = .non))) H):=by
 intro pins s σ H x y v u Q I rx ry h
 obtain ⟨rfl,q⟩:=h
 cases ry
 refine isnot_none_gen (bO I q ?_)
 cases x <;> first
  | (cases rx; rfl)
  | (obtain ⟨t,rfl⟩:=rx; rfl)
def isObj:HO->Bool
 | .lst _=>true
 | .ins _ _ _=>true
 | _=>false
theorem aT (b:Expr){op:CmpOp}(h:op ≠ .In:=by decide)(h2:op ≠ .NotIn:=by decide):behindInMarks op b=false:=by
 have e1:(op == CmpOp.In)=false:=by cases op <;> first | rfl | exact absurd rfl h
 have e2:(op == CmpOp.NotIn)=false:=by cases op <;> first | rfl | exact absurd rfl h2
 cases b <;> simp [behindInMarks,e1,e2]
theorem fK {op:CmpOp}{r:R2}(ho:OpR X (compareOp op) r)(ha:PE X a ta)(hb:PE X b tb)(hm:behindInMarks op b=false):PE X (.Compare a [op] [b] pos) (tOp r ta tb):=by
 intro pins s σ H Q I h
 exact wpAny_Compare1 (binT ha hb I h fun v u s2 x y H2 I2 rx ry q=>ho pins s2 σ H2 x y v u Q I2 rx ry q) hm
def aDk (t:TE):TT:=fun σ H Q=>t σ H fun x H'=>∃ k,x = .bl k/\Q k H'
theorem aK {op:CmpOp}{r:R2}(ho:OpR X (compareOp op) r)(ha:PE X a ta)(hb:PE X b tb)(hm:behindInMarks op b=false):PT X (.Compare a [op] [b] pos) (aDk (tOp r ta tb)):=by
 intro pins s σ H Q I h
 refine wpAny_isTrue_Compare1 (thn (ha pins s σ H _ I h) fun v s1 ⟨x,H1,I1,r1,q1⟩=>thn (hb pins s1 σ H1 _ I1 q1) fun u s2 ⟨y,H2,I2,r2,q2⟩ =>
  thn (ho pins s2 σ H2 x y v u _ I2 r1 r2 q2) fun c s3 ⟨z,H3,I3,r3,k,e,q3⟩ => ?_) hm
 subst e
 cases r3
 exact wpAny_truthy_bool ⟨H3,I3,q3⟩
def aDo (r r':R2)(ta tb tc:TE):TE:=fun σ H Q=>ta σ H fun x H1=>tb σ H1 fun y H2=>r x y H2 fun z H3=>∃ k,z = .bl k /\
 (if k=true then tc σ H3 fun w' H4=>r' y w' H4 Q else Q (.bl false) H3)
theorem xG {op op':CmpOp}{r r':R2}(ho:OpR X (compareOp op) r)(ho':OpR X (compareOp op') r')(ha:PE X a ta)(hb:PE X b tb)(hc:PE X c tc)
  (hm:lastMarks [op,op'] [b,c]=false:=by with_unfolding_all rfl):PT X (.Compare a [op,op'] [b,c] pos) (aDk (aDo r r' ta tb tc)):=by
 intro pins s σ H Q I h
 refine isTrue_chain (thn (ha pins s σ H _ I h) fun v s1 ⟨x,H1,I1,r1,q1⟩=>test_link (thn (hb pins s1 σ H1 _ I1 q1) fun u s2 ⟨y,H2,I2,r2,q2⟩ =>
  thn (ho pins s2 σ H2 x y v u _ I2 r1 r2 q2) fun d s3 ⟨z,H3,I3,r3,k,e,q3⟩ => ?_)) hm
 subst e
 cases r3
 refine wpAny_truthy_bool ?_
 cases k with
 | false =>
  obtain ⟨k',e',q'⟩:=q3
  cases e'
  exact ite_ff ⟨H3,I3,q'⟩
 | true =>
  refine ite_tt (test_last (thn (hc pins s3 σ H3 _ I3 q3) fun w' s4 ⟨z',H4,I4,r4,q4⟩=>thn (ho' pins s4 σ H4 y z' u w' _ I4 r2 r4 q4) fun d' s5 ⟨z2,H5,I5,r5,k2,e2,q5⟩ => ?_))
  subst e2
  cases r5
  exact wpAny_truthy_bool ⟨H5,I5,q5⟩
def TruV (K:PySem.W.Frag)(x:V)(H:Hp)(k:Bool):Prop :=
 match x with
 | .non=>k=false
 | .bl b=>k=b
 | .int i=>k=(i != 0)
 | .str y=>y.length<=sizeLine/\k=((y.length:Int) != 0)
 | .byt y=>y.size<=sizeLine/\k=((y.size:Int) != 0)
 | .ref p=>(∃ xs,SqL K H p xs/\k = !xs.isEmpty)\/(∃ xs,SqT K H p xs/\k = !xs.isEmpty)\/∃ kvs,H p=some (.dK kvs)/\k = !kvs.isEmpty
 | _=>False
theorem rW {κ:Type}{kvs:List (κ × V)}{vs:List (κ × Value)}(r:KV kvs vs):(!vs.isEmpty) = !kvs.isEmpty:=by
 cases r <;> rfl
theorem kU {xs:List V}{its:List Value}(r:Vals xs its):(!its.toArray.isEmpty) = !xs.isEmpty:=by
 cases r <;> simp
theorem kT:(sizeLine:Nat) < 2 ^ 63:=by rw [sizeLine_eq]; decide
theorem aDh:TruR X (fun x H Q=>∃ k,TruV X.K x H k/\Q k H):=by
 intro pins s σ H x v Q I rx h
 obtain ⟨k,e,q⟩:=h
 have hl:=kT
 have hs:sizeLine=16777216:=sizeLine_eq
 cases x with
 | non =>
  cases rx
  have e':k=false:=e
  subst e'
  exact truthy_none ⟨H,I,q⟩
 | bl b =>
  cases rx
  have e':k=b:=e
  subst e'
  exact wpAny_truthy_bool ⟨H,I,q⟩
 | int i =>
  obtain ⟨t,rfl⟩:=rx
  have e':k=(i != 0):=e
  subst e'
  exact PySem.P.truthy_int ⟨H,I,q⟩
 | str y =>
  obtain ⟨t,rfl⟩:=rx
  obtain ⟨hy,e'⟩:y.length<=sizeLine/\k=((y.length:Int) != 0):=e
  subst e'
  exact PySem.P.truthy_str (by omega) ⟨H,I.tok _,q⟩
 | byt y =>
  obtain ⟨t,rfl⟩:=rx
  obtain ⟨hy,e'⟩:y.size<=sizeLine/\k=((y.size:Int) != 0):=e
  subst e'
  exact PySem.W.truthy_bytes (by omega) ⟨H,I.tok _,q⟩
 | ref p =>
  cases rx
  have e':(∃ xs,SqL X.K H p xs/\k = !xs.isEmpty)\/(∃ xs,SqT X.K H p xs/\k = !xs.isEmpty)\/∃ kvs,H p=some (.dK kvs)/\k = !kvs.isEmpty:=e
  rcases e' with ⟨xs,hx,e'⟩ | ⟨xs,hx,e'⟩ | ⟨kvs,hx,e'⟩
  ·subst e'
   obtain ⟨its,r,pl,hz⟩:=I.list hx
   have hlen:=r.length
   exact wpAny_truthy_list pl.isList (by simp only [List.size_toArray]; omega) ⟨H,I.tok _,by rw [kU r]; exact q⟩
  ·subst e'
   obtain ⟨its,r,pl,hz⟩:=I.tuple hx
   have hlen:=r.length
   exact truthy_tuple pl (by simp only [List.size_toArray]; omega) ⟨H,I.tok _,by rw [kU r]; exact q⟩
  ·subst e'
   obtain ⟨hz,hS,vs,r,m⟩:kvs.length<=sizeLine/\(p == sysModules)=false/\∃ vs,KV kvs vs/\s.heap.DictOf (bR X.prog X.w) p vs:=I.hok p _ hx
   have hlen:kvs.length=vs.length:=Paired.length r
   exact wpAny_truthy_dict hS m (by omega) ⟨H,I.tok _,by rw [rW r]; exact q⟩
 | _=>exact (show False from e).elim
theorem kS:OpR X (binaryOp .Add) (fun x y H Q=>∃ i j,x = .str i/\y = .str j/\i.length+j.length<=sizeLine/\Q (.str (i ++ j)) H):=by
 intro pins s σ H x y v u Q I rx ry h
 obtain ⟨i,j,rfl,rfl,hz,q⟩:=h
 obtain ⟨t,rfl⟩:=rx
 obtain ⟨t',rfl⟩:=ry
 exact add_str (fun t' tk=>⟨.str (i ++ j),H,I.tok _,⟨_,rfl⟩,q⟩) hz
def PlainIxT (b:Expr):Prop:=∀ o i,subscripted b false o i=operate [o,i] (getItem o i)
theorem jL {x:V}{us:List Value}(r:Vals [x] us) : ∃ u,us=[u]/\RelV x u:=by
 cases r with
 | cons r1 r2=>cases r2; exact ⟨_,rfl,r1⟩
theorem wS {x y:V}{us:List Value}(r:Vals [x,y] us) : ∃ u w',us=[u,w']/\RelV x u/\RelV y w':=by
 cases r with
 | cons r1 r2 =>
  cases r2 with
  | cons r3 r4=>cases r4; exact ⟨_,_,rfl,r1,r3⟩
theorem zR:hZ X (.builtin "abs") (fun xs H Q=>∃ i,xs=[.int i]/\Q (.int (if i < 0 then -i else i)) H):=by
 intro pins s σ H xs us Q I r h
 obtain ⟨i,rfl,q⟩:=h
 obtain ⟨u,rfl,t,rfl⟩:=jL r
 exact call_abs_int fun u tk=>⟨.int (if i < 0 then -i else i),H,I.tok _,⟨_,rfl⟩,q⟩
theorem nY (hc:X.calm=true):hZ X (.builtin "min") (fun xs H Q=>∃ i j,xs=[.int i,.int j]/\Q (.int (if j < i then j else i)) H):=by
 intro pins s σ H xs us Q I r h
 obtain ⟨i,j,rfl,q⟩:=h
 obtain ⟨u,w',rfl,⟨t,rfl⟩,⟨t',rfl⟩⟩:=wS r
 refine min_two_ints (I.ok.hd hc) fun h' tk k=>⟨_,H,I.kept k,?_,q⟩
 by_cases hj:j < i
 ·rw [if_pos hj,if_pos hj]; exact ⟨_,rfl⟩
 ·rw [if_neg hj,if_neg hj]; exact ⟨_,rfl⟩
theorem nZ:hZ X (.type "int") (fun xs H Q=>(∃ i,xs=[.int i]/\Q (.int i) H)\/∃ k,xs=[.bl k]/\Q (.int (if k then 1 else 0)) H):=by
 intro pins s σ H xs us Q I r h
 rcases h with ⟨i,rfl,q⟩ | ⟨k,rfl,q⟩
 ·obtain ⟨u,rfl,t,rfl⟩:=jL r
  exact call_int_int ⟨.int i,H,I,⟨_,rfl⟩,q⟩
 ·obtain ⟨u,rfl,r1⟩:=jL r
  cases r1
  exact call_int_bool ⟨.int (if k then 1 else 0),H,I.tok _,⟨_,rfl⟩,q⟩
def LenV (K:PySem.W.Frag)(x:V)(H:Hp)(n:Nat):Prop :=
 match x with
 | .str y=>y.length<=sizeLine/\n=y.length
 | .byt y=>y.size<=sizeLine/\n=y.size
 | .ref p=>(∃ xs,SqL K H p xs/\n=xs.length)\/∃ xs,SqT K H p xs/\n=xs.length
 | _=>False
end
structure ObjM (h:Heap)(x dx C:Addr)(mA:Str->Option Value):Prop where
 obj:h.get? x=some (PySem.W.instObj C dx)
 ns:h.Ns1 dx mA
 ne:dx ≠ x
section
variable {prog:Program}{w:World}{A:Around}{E:Value->Shared->Prop}{s:Shared}{K:PySem.W.Frag}{x dx C f:Addr}{mA:Str->Option Value}{name:Str}{v:Value}
end
def putF (f:Str)(v:V):List (Str × V)->List (Str × V)
  | []=>[(f,v)]
  | (g,x) :: r=>if g=f then (g,v) :: r else (g,x) :: putF f v r
theorem RelO.some_of {v:V}{o:Option Value}(r:RelO (some v) o) : ∃ u,o=some u/\RelV v u:=by
 cases o with
 | none=>exact (show False from r).elim
 | some u=>exact ⟨u,rfl,r⟩
theorem vM {v:V}{u:Value}(r:RelV v u):PySem.W.handedIn u=true:=by
 cases v with
 | non=>cases (show u=Value.none from r); rfl
 | bl b=>cases (show u=Value.bool b from r); rfl
 | int i=>obtain ⟨t,e⟩:=(show ∃ t,u=Value.int i t from r); cases e; rfl
 | str x=>obtain ⟨t,e⟩:=(show ∃ t,u=Value.str x t from r); cases e; rfl
 | byt b=>obtain ⟨t,e⟩:=(show ∃ t,u=Value.bytes b t from r); cases e; rfl
 | flt b=>obtain ⟨t,e⟩:=(show ∃ t,u=Value.float b t from r); cases e; rfl
 | ref a=>cases (show u=Value.ref a from r); rfl
 | ty n=>cases (show u=Value.type n from r); rfl
section
variable {P:Program}{w:World}{H H':Hp}{h h':Heap}{a C dx:Addr}{fs fs':List (Str × V)}
end
structure Cls (K:PySem.W.Frag)(C:Addr):Prop where
 pg:PySem.W.plainGet K C Str.empty=true
 hd:PySem.W.hasDictIn K C=true
 po:PySem.W.plainOver K C=true
 sa:PySem.W.findIn K (.ref C) "__setattr__" = some (some (.builtin "object.__setattr__"))
def wP (K:PySem.W.Frag)(C:Addr)(f:Str):Prop:=PySem.W.findIn K (.ref C) f=some none
structure Con (K:PySem.W.Frag)(C:Addr)(f:Str)(v:V)(u:Value):Prop where
 at_:PySem.W.findIn K (.ref C) f=some (some u)
 rel:RelV v u
 get:PySem.W.specialIn K u "__get__" = some none
 cp:PySem.W.copiedNames.contains f=false
structure Meth (K:PySem.W.Frag)(C:Addr)(m:Str)(f:Addr):Prop where
 at_:PySem.W.findIn K (.ref C) m=some (some (.ref f))
 fn:PySem.W.isFn K (.ref f)=true
 kp:PySem.W.keepIn K (.ref f)=true
section
variable {X:Cx}{pins:List (Addr × Obj)}{σ:St}{H:Hp}{s:Shared}{a C dx:Addr}{fs:List (Str × V)}{f:Str}{v:V}{A:Around}{E:Value->Shared->Prop}
theorem aC2 {prog:Program}{w:World}{env:Env}{e:Expr}{f:Str}{pos:Pos}{s:Shared}{Q:Value->Shared->Prop}(hb:attributeBase e f env (eval e env)=eval e env)
  (h:wpAny (model prog w) A (eval e env) (fun o s₁=>wpAny (model prog w) A (getAttr o f true) Q E s₁) E s):wpAny (model prog w) A (eval (.Attribute e f pos) env) Q E s :=
 Attribute_any_ h (by rw [arm_eval_Attribute,hb])
end
def tFld (K:PySem.W.Frag)(ta:TE)(f:Str):TE:=fun σ H Q=>ta σ H fun x H1=>∃ a C dx fs v,x = .ref a/\H1 a=some (.ins C dx fs)/\Cls K C/\wP K C f/\fs.lookup f=some v/\Q v H1
def tCon (K:PySem.W.Frag)(ta:TE)(f:Str):TE:=fun σ H Q=>ta σ H fun x H1=>∃ a C dx fs v u,x = .ref a/\H1 a=some (.ins C dx fs)/\Cls K C/\Con K C f v u/\fs.lookup f=none/\Q v H1
def sFld (K:PySem.W.Frag)(ta tv:TE)(f:Str):TS:=fun D σ H=>tv σ H fun y H1=>ta σ H1 fun x H2=>∃ a C dx fs,x = .ref a/\H2 a=some (.ins C dx fs)/\Cls K C/\wP K C f/\fs.length < 1000 /\
 D.nx σ (upd H2 a (.ins C dx (putF f y fs)))
def InOp (X:Cx)(op:Operator)(rd:V->V->Hp->VK->Prop):Prop :=
 ∀ (pins:List (Addr × Obj)) (s:Shared) (σ:St) (H:Hp) (x y:V) (u v:Value) (Q:VK),Inv X pins σ H s->RelV x u->RelV y v->rd x y H Q->wpAny (model X.prog X.w) X.A (inplaceOp op u v) (EP X pins σ Q) X.xe s
def sFldAug (K:PySem.W.Frag)(ta tv:TE)(rd:V->V->Hp->VK->Prop)(f:Str):TS:=fun D σ H=>ta σ H fun x H1=>∃ a C dx fs v,x = .ref a/\H1 a=some (.ins C dx fs)/\Cls K C/\wP K C f/\fs.lookup f=some v /\
 tv σ H1 fun y H2=>rd v y H2 fun z H3=>∃ dx' fs',H3 a=some (.ins C dx' fs')/\fs'.length < 1000/\D.nx σ (upd H3 a (.ins C dx' (putF f z fs')))
section
variable {X:Cx}{o e value:Expr}{f:Str}{pos pos' tpos:Pos}{ta tv:TE}
def rAdd:V->V->Hp->VK->Prop:=fun x y H Q=>∃ i j,x = .int i/\y = .int j/\Q (.int (i+j)) H
def rSub:V->V->Hp->VK->Prop:=fun x y H Q=>∃ i j,x = .int i/\y = .int j/\Q (.int (i - j)) H
end
section
variable {X:Cx}{pins:List (Addr × Obj)}{σ:St}{H:Hp}{s:Shared}{A:Around}{E:Value->Shared->Prop}{Q:Value->Shared->Prop}{c:Value}{b:Bool}
inductive TyOf (K:PySem.W.Frag)(H:Hp):V->Value->Prop where
 | non:TyOf K H .non (.type "NoneType")
 | bl (x:Bool):TyOf K H (.bl x) (.type "bool")
 | int (i:Int):TyOf K H (.int i) (.type "int")
 | str (x:Str):TyOf K H (.str x) (.type "str")
 | flt (x:UInt64):TyOf K H (.flt x) (.type "float")
 | lst {a:Addr} {xs:List V} (e:H a=some (.lst xs)):TyOf K H (.ref a) (.type "list")
 | frz {a:Addr} {o:Obj} {xs:List V} (e:H a=some (.frz o (.lst xs))):TyOf K H (.ref a) (.type "list")
 | tup {a:Addr} {xs:List V} (e:H a=some (.tup xs)):TyOf K H (.ref a) (.type "tuple")
 | dK {a:Addr} {kvs:List (Key × V)} (e:H a=some (.dK kvs)):TyOf K H (.ref a) (.type "dict")
 | dT {a:Addr} {kvs:List (List Key × V)} (e:H a=some (.dT kvs)):TyOf K H (.ref a) (.type "dict")
 | ins {a C dx:Addr} {fs:List (Str × V)} (e:H a=some (.ins C dx fs)) (cl:Cls K C) (ha:PySem.W.findIn K (.ref C) "__class__" = some (some (.builtin "object.__class__")))
   (hn:PySem.W.specialIn K (.builtin "object.__class__") "__get__" = some (some (.builtin "getset_descriptor.__get__"))) (htk:PySem.W.takesIn K (.builtin "object.__class__")=some true)
   (hm:PySem.W.mroIn K C (.type "object")=some true):TyOf K H (.ref a) (.ref C)
end
structure Room (k:Nat)(A:Around):Prop where
 hd:A.handled=none
 dp:A.depth+3*k+5 < recursionLimit
 un:A.units+16*k+200 < cLine
theorem Room.mono {j k:Nat}{A:Around}(r:Room k A)(h:j<=k):Room j A:=⟨r.hd,by have:=r.dp; omega,by have:=r.un; omega⟩
theorem Room.deeper {k:Nat}{A:Around}(r:Room (k+1) A)(env:Env):Room k (A.deeper env) :=
 ⟨r.hd,by have:=r.dp; show A.depth+1+3*k+5 < _; omega,by have:=r.un; show A.units+3+16*k+200 < _; omega⟩
theorem rT {A:Around}{C:Addr}{us:List Value}{kw:List (Str × Value)}:(A.under (.builtin "type.__call__" ⟨.ref C :: us,kw⟩)).depth=A.depth+1:=by
 first | rfl | simp [Around.under,Code.weight,Code.isCreation,Code.isGuard,Code.isCaller,Code.frames,Code.isFrame,guardIds]
theorem rS {A:Around}{C:Addr}{us:List Value}{kw:List (Str × Value)}:(A.under (.builtin "type.__call__" ⟨.ref C :: us,kw⟩)).units=A.units+1:=by
 first | rfl | simp [Around.under,Code.cUnits,Code.frames,Code.isFrame]
theorem Room.make {k:Nat}{A:Around}(r:Room (k+1) A)(C:Addr)(us:List Value)(kw:List (Str × Value)):Room k (A.under (.builtin "type.__call__" ⟨.ref C :: us,kw⟩)) :=
 ⟨r.hd,by have:=r.dp; rw [rT]; omega,by have:=r.un; rw [rS]; omega⟩
theorem Room.depth {k:Nat}{A:Around}(r:Room k A):A.depth < recursionLimit:=by have:=r.dp; omega
theorem Room.units {k:Nat}{A:Around}(r:Room k A):A.units+64 < cLine:=by have:=r.un; omega
def tNil:TA:=fun _ H Q=>Q [] H
def aA9 (ta:TE)(tr:TA):TA:=fun σ H Q=>ta σ H fun x H1=>tr σ H1 fun xs H2=>Q (x :: xs) H2
section
variable {X:Cx}{e:Expr}{es:List Expr}{te:TE}{t:TA}{pos:Pos}
theorem aC:PA X [] tNil:=fun _ _ _ _ H Q I h=>Calls.spliced_nil ⟨[],H,I,.nil,h⟩
theorem aA (ha:PE X e te)(hr:PA X es t)(hs:starEach (e :: es) X.env=(false,eval e X.env) :: starEach es X.env:=by rfl):PA X (e :: es) (aA9 te t):=by
 intro pos pins s σ H Q I h
 rw [hs]
 show wpAny _ _ (spliced ((false,eval e X.env) :: backTo pos (starEach es X.env))) _ _ s
 refine Calls.spliced_cons (thn (ha pins s σ H _ I h) fun u s1 ⟨x,H1,I1,r1,q1⟩ => ?_)
 exact thn (hr pos pins s1 σ H1 _ I1 q1) fun us s2 ⟨xs,H2,I2,r2,q2⟩=>⟨x :: xs,H2,I2,.cons r1 r2,q2⟩
def tTup (t:TA):TE:=fun σ H Q=>t σ H fun xs H1=>xs.length<=sizeLine/\∀ p,H1 p=none->Q (.ref p) (upd H1 p (.tup xs))
def tLst (t:TA):TE:=fun σ H Q=>t σ H fun xs H1=>xs.length<=sizeLine/\∀ p,H1 p=none->Q (.ref p) (upd H1 p (.lst xs))
theorem aY {x1}(h:PA X es t):PE X (.Tuple es x1 pos) (tTup t):=by
 intro pins s σ H Q I hq
 refine wpAny_Tuple_spliced (thn (h pos pins s σ H _ I hq) fun us s1 ⟨xs,H1,I1,r,z,q⟩=>⟨by rw [<- r.length]; exact z,?_⟩)
 have hf:H1 s1.heap.objs.size=none:=I1.hok.fresh (Nat.le_refl _)
 refine ⟨.ref s1.heap.objs.size,upd H1 s1.heap.objs.size (.tup xs),I1.laid (t':=s1.toks) (fun b u e=>Heap.get?_push_of_some _ e) (Nat.le_refl _) ?_,rfl,q _ hf⟩
 exact ⟨z,us,r,⟨_,Heap.get?_push_size _ rfl,rfl,_,rfl⟩⟩
theorem bC (h:PA X es t):PE X (.List es pos) (tLst t):=by
 intro pins s σ H Q I hq
 refine wpAny_List_spliced (thn (h pos pins s σ H _ I hq) fun us s1 ⟨xs,H1,I1,r,z,q⟩=>⟨by rw [<- r.length]; exact z,?_⟩)
 have hf:H1 s1.heap.objs.size=none:=I1.hok.fresh (Nat.le_refl _)
 refine ⟨.ref s1.heap.objs.size,upd H1 s1.heap.objs.size (.lst xs),I1.laid (t':=s1.toks) (fun b u e=>Heap.get?_push_of_some _ e) (Nat.le_refl _) ?_,rfl,q _ hf⟩
 exact ⟨z,us,0,r,Heap.get?_push_size _ rfl⟩
end
abbrev Sp:=List V->Hp->VK->XK->Prop
abbrev CXT:=List Env->Hp->Shared->XK->Value->Shared->Prop
structure Env0 (P:Program)(w:World)(K:PySem.W.Frag)(mg:Str->Option Value)(base:Heap)(A:Around)(outer:List Env)(s:Shared)(H:Hp):Prop where
 frames:A.frames=some outer
 mod:Mod K mg base
 bs : ∀ b o,base.get? b=some o->s.heap.get? b=some o/\H b=none
 bsz:base.objs.size<=s.heap.objs.size
 funs:s.heap.FunFrames base outer
 frf : ∀ b ∈ frs outer,H b=none
 hok:HOk P w H s.heap
 bare:AllBare s.gens
def CE (outer:List Env)(P:Program)(w:World)(H:Hp)(s:Shared)(Q:VK)(u:Value)(s':Shared):Prop :=
 ∃ v H',s'.os=s.os/\AllBare s'.gens/\Un (frs outer) [] H H' s.heap s'.heap/\HOk P w H' s'.heap/\RelV v u/\Q v H'
def CR (CX:CXT)(outer:List Env)(P:Program)(w:World)(H:Hp)(s:Shared)(Q:VK)(E:XK)(r:Result)(s':Shared):Prop :=
 match r with
 | .ok (.ret u)=>CE outer P w H s Q u s'
 | .ok _=>False
 | .error e=>CX outer H s E e s'
structure FnOk (P:Program)(w:World)(K:PySem.W.Frag)(mg:Str->Option Value)(base:Heap)(CX:CXT)(k:Nat)(f:Addr)(fd:FuncData)(ps:List Str)(sp:Sp):Prop where
 len : ∀ vs H Q E,sp vs H Q E->vs.length=ps.length
 run : ∀ (A:Around) (outer:List Env) (s:Shared) (H:Hp) (args:Args) (us:List Value) (vs:List V) (Q:VK) (E:XK),Room k A->Env0 P w K mg base A outer s H->BindsTo s fd args (ps.zip us)->Vals vs us->sp vs H Q E ->
  codeAny (model P w) A (.call (.ref f) args) (CR CX outer P w H s Q E) s
theorem FnOk.mono {P:Program}{w:World}{K:PySem.W.Frag}{mg:Str->Option Value}{base:Heap}{CX:CXT}{j k:Nat}{f:Addr}{fd:FuncData}{ps:List Str}{sp:Sp}(F:FnOk P w K mg base CX j f fd ps sp)(h:j<=k) :
  FnOk P w K mg base CX k f fd ps sp:=⟨F.len,fun A outer s H args us vs Q E hr=>F.run A outer s H args us vs Q E (hr.mono h)⟩
theorem Env0.make {P:Program}{w:World}{K:PySem.W.Frag}{mg:Str->Option Value}{base:Heap}{A:Around}{outer:List Env}{s:Shared}{H:Hp}(e:Env0 P w K mg base A outer s H)(C:Addr)(us:List Value)(kw:List (Str × Value)) :
    Env0 P w K mg base (A.under (.builtin "type.__call__" ⟨.ref C :: us,kw⟩)) outer s H:=⟨by first | exact e.frames | (simpa [Around.under,Code.envs,Code.isFrame,pushEnvs] using e.frames),e.mod,e.bs,e.bsz,e.funs,e.frf,e.hok,e.bare⟩
section
variable {X:Cx}{pins:List (Addr × Obj)}{σ:St}{H:Hp}{s s':Shared}
theorem Inv.env0 (I:Inv X pins σ H s):Env0 X.prog X.w X.K X.mg X.base X.A X.stack s H :=
 ⟨I.ok.frames,I.ok.mod,I.bs,Nat.le_trans I.ok.bsz I.sz,I.stack,I.stkFree,I.hok,I.bare⟩
theorem Inv.after {Q:VK}{u:Value}(I:Inv X pins σ H s)(h:CE X.stack X.prog X.w H s Q u s'):EP X pins σ Q u s':=by
 obtain ⟨v,H',os,bare,un,hok,r,q⟩:=h
 obtain ⟨hh,g,d,t,os'⟩:=s'
 obtain rfl:os'=s.os:=os
 exact ⟨v,H',I.call (h':=hh) (g':=g) (d':=d) (t':=t) (ch:=[]) un hok bare (fun b z=>absurd z (by simp)),r,q⟩
end
def oJ (sp:Sp)(dvs:List V)(E:XK)(t:TA):TE:=fun σ H Q=>t σ H fun vs H1=>sp (vs ++ dvs) H1 Q E
def tMeth (C:Addr)(m:Str)(sp:Sp)(dvs:List V)(E:XK)(ta:TE)(t:TA):TE:=fun σ H Q=>ta σ H fun x H1=>∃ a dx fs,x = .ref a/\H1 a=some (.ins C dx fs)/\fs.lookup m=none /\
 t σ H1 fun vs H2=>sp (x :: (vs ++ dvs)) H2 Q E
def tMake (C:Addr)(sp:Sp)(dvs:List V)(E:XK)(t:TA):TE:=fun σ H Q=>t σ H fun vs H1=>∀ x dx,H1 x=none->H1 dx=none->dx ≠ x ->
 sp (.ref x :: (vs ++ dvs)) (upd (upd H1 dx (.own x)) x (.ins C dx [])) (fun v H2=>v = .non/\Q (.ref x) H2) E
def Binds (K:PySem.W.Frag)(fd:FuncData)(ps:List Str)(ds:List Value):Prop :=
 ∀ (s:Shared) (us:List Value),K.In s.heap->(us ++ ds).length=ps.length->BindsTo s fd ⟨us,[]⟩ (ps.zip (us ++ ds))
theorem Binds.all {K:PySem.W.Frag}{fd:FuncData}{ps:List Str}(h : ∀ us:List Value,us.length=ps.length->bindArgs fd ⟨us,[]⟩=pure (ps.zip us)):Binds K fd ps []:=fun s us _ hl=>by
 rw [List.append_nil] at hl ⊢
 exact .of_eq (h us hl)
def gG (CX:CXT)(X:Cx)(E:XK):Prop:=∀ (pins:List (Addr × Obj)) (σ:St) (H:Hp) (s:Shared) (e:Value) (s':Shared),Inv X pins σ H s->CX X.stack H s E e s'->X.xe e s'
section
variable {X:Cx}{CX:CXT}{k:Nat}{f C:Addr}{fd:FuncData}{ps:List Str}{sp:Sp}{dvs:List V}{ds:List Value}{E:XK}{x m:Str}{p pos apos:Pos}{e o:Expr}{es:List Expr}{ta:TE}{t:TA}
theorem aAb {pins:List (Addr × Obj)}{σ:St}{H:Hp}{s:Shared}{Q:VK}{us:List Value}{vs:List V}(F:FnOk X.prog X.w X.K X.mg X.base CX k f fd ps sp)(hr:Room k X.A)(hb:Binds X.K fd ps ds)(hd:Vals dvs ds)(hx:gG CX X E)
  (I:Inv X pins σ H s) (r:Vals vs us) (h:sp (vs ++ dvs) H Q E):wpAny (model X.prog X.w) X.A (call (.ref f) us) (EP X pins σ Q) X.xe s:=by
 have r2:Vals (vs ++ dvs) (us ++ ds):=r.append hd
 have hl:(us ++ ds).length=ps.length:=by rw [<- r2.length]; exact F.len _ _ _ _ h
 refine wpAny_call (codeAny_mono (F.run X.A X.stack s H ⟨us,[]⟩ (us ++ ds) (vs ++ dvs) Q E hr I.env0 (hb s us I.kIn hl) r2 h) fun r s' hq => ?_)
 cases r with
 | error e=>exact hx pins σ H s e s' I hq
 | ok fl =>
  cases fl with
  | ret u=>exact I.after hq
  | next=>exact False.elim hq
  | brk=>exact False.elim hq
  | cont=>exact False.elim hq
theorem uJ (F:FnOk X.prog X.w X.K X.mg X.base CX k f fd ps sp)(hr:Room k X.A)(hg:Gl X x)(hm:X.mg x=some (.ref f))(hk:PySem.W.keepIn X.K (.ref f)=true)(hb:Binds X.K fd ps ds)(hd:Vals dvs ds)(hx:gG CX X E)
  (ha:PA X (e :: es) t) (hdb:(x == ("__debug__" : Str))=false:=by decide) (he:starEach (e :: es) X.env=(false,eval e X.env) :: starEach es X.env:=by rfl) (hpl:(backTo pos (starEach es X.env)).any (·.1)=false:=by rfl) :
  PE X (.Call (.Name x p) (e :: es) [] pos) (oJ sp dvs E t):=by
 intro pins s σ H Q I h
 refine wpAny_Call_Name_kw (fN I hg hm ?_ hdb)
 refine PySem.W.callWith_K (h₀:=X.base) I.ok.mod.kin hk (thn (ha pos pins s σ H _ I h) fun us s1 ⟨vs,H1,I1,r,q⟩=>⟨I1.kIn,?_⟩) he hpl
 exact aAb F hr hb hd hx I1 r q
theorem xN (F:FnOk X.prog X.w X.K X.mg X.base CX k f fd ps sp)(hr:Room k X.A)(hg:Gl X x)(hm:X.mg x=some (.ref f))(hk:PySem.W.keepIn X.K (.ref f)=true)(hb:Binds X.K fd ps ds)(hd:Vals dvs ds)(hx:gG CX X E)
  (hdb:(x == ("__debug__" : Str))=false:=by decide):PE X (.Call (.Name x p) [] [] pos) (oJ sp dvs E tNil):=by
 intro pins s σ H Q I h
 refine wpAny_Call_Name_kw (fN I hg hm ?_ hdb)
 exact PySem.W.callWith_K0 I.kIn hk (aAb (us:=[]) F hr hb hd hx I .nil h)
structure Mk (K:PySem.W.Frag)(C f:Addr):Prop where
 makes:PySem.W.makesIn K C=true
 init:PySem.W.findIn K (.ref C) "__init__" = some (some (.ref f))
 fn:PySem.W.isFn K (.ref f)=true
 kp:PySem.W.keepIn K (.ref C)=true
end
def PK (X:Cx)(kws:List Keyword)(t:TA):Prop :=
 ∀ (pos:Pos) (pins:List (Addr × Obj)) (s:Shared) (σ:St) (H:Hp) (Q:List V->Hp->Prop),Inv X pins σ H s->t σ H Q->wpAny (model X.prog X.w) X.A (evalAll ((backToKw pos (keywordEach kws X.env)).map (·.2))) (AP X pins σ Q) X.xe s
section
variable {X:Cx}{CX:CXT}{k:Nat}{f C:Addr}{fd:FuncData}{ps ks:List Str}{sp:Sp}{E:XK}{x m:Str}{p pos apos kpos:Pos}{e o:Expr}{es:List Expr}{kws:List Keyword}{te ta:TE}{t tk:TA}{nm:Option Str}
theorem aEl:PK X [] tNil:=fun _ _ _ _ H Q I h=>wpAny_evalAll_nil ⟨[],H,I,.nil,h⟩
theorem aBu (ha:PE X e te)(hr:PK X kws t):PK X (⟨nm,e,kpos⟩ :: kws) (aA9 te t):=by
 intro pos pins s σ H Q I h
 show wpAny _ _ (evalAll ((do let v <- eval e X.env; standAt pos; pure v) :: (backToKw pos (keywordEach kws X.env)).map (·.2))) _ _ s
 refine wpAny_evalAll_cons (wpAny_bind (thn (ha pins s σ H _ I h) fun u s1 ⟨x,H1,I1,r1,q1⟩=>wpAny_bind (wpAny_standAt (wpAny_pure ?_))))
 exact thn (hr pos pins s1 σ H1 _ I1 q1) fun us s2 ⟨xs,H2,I2,r2,q2⟩=>⟨x :: xs,H2,I2,.cons r1 r2,q2⟩
structure KBinds (K:PySem.W.Frag)(fd:FuncData)(ps ks:List Str)(g:List Value->List Value->List Value)(gV:List V->List V->List V):Prop where
 to : ∀ (s:Shared) (us ws:List Value),K.In s.heap->(g us ws).length=ps.length->BindsTo s fd ⟨us,ks.zip ws⟩ (ps.zip (g us ws))
 rel : ∀ {vs:List V} {us:List Value} {zs:List V} {ws:List Value},Vals vs us->Vals zs ws->Vals (gV vs zs) (g us ws)
def zV (sp:Sp)(gV:List V->List V->List V)(E:XK)(t tk:TA):TE:=fun σ H Q=>t σ H fun vs H1=>tk σ H1 fun zs H2=>sp (gV vs zs) H2 Q E
variable {g:List Value->List Value->List Value}{gV:List V->List V->List V}
theorem aBk {pins:List (Addr × Obj)}{σ:St}{H:Hp}{s:Shared}{Q:VK}{us ws:List Value}{vs zs:List V}(F:FnOk X.prog X.w X.K X.mg X.base CX k f fd ps sp)(hr:Room k X.A)(hb:KBinds X.K fd ps ks g gV)(hx:gG CX X E)
  (I:Inv X pins σ H s) (r:Vals vs us) (rz:Vals zs ws) (h:sp (gV vs zs) H Q E):wpAny (model X.prog X.w) X.A (call (.ref f) us (ks.zip ws)) (EP X pins σ Q) X.xe s:=by
 have r2:=hb.rel r rz
 have hl:(g us ws).length=ps.length:=by rw [<- r2.length]; exact F.len _ _ _ _ h
 refine wpAny_call (codeAny_mono (F.run X.A X.stack s H ⟨us,ks.zip ws⟩ (g us ws) (gV vs zs) Q E hr I.env0 (hb.to s us ws I.kIn hl) r2 h) fun r s' hq => ?_)
 cases r with
 | error e=>exact hx pins σ H s e s' I hq
 | ok fl =>
  cases fl with
  | ret u=>exact I.after hq
  | next=>exact False.elim hq
  | brk=>exact False.elim hq
  | cont=>exact False.elim hq
theorem xM (F:FnOk X.prog X.w X.K X.mg X.base CX k f fd ps sp)(hr:Room k X.A)(hg:Gl X x)(hm:X.mg x=some (.ref f))(hk:PySem.W.keepIn X.K (.ref f)=true)(hb:KBinds X.K fd ps ks g gV)(hx:gG CX X E)
    (ha:PA X (e :: es) t) (hkw:PK X kws tk) (hall:(backToKw pos (keywordEach kws X.env)).all (·.1.isSome)=true:=by rfl) (hks:(backToKw pos (keywordEach kws X.env)).filterMap (·.1)=ks:=by rfl)
    (hdb:(x == ("__debug__" : Str))=false:=by decide) (he:starEach (e :: es) X.env=(false,eval e X.env) :: starEach es X.env:=by rfl)
    (hpl:((backTo pos (starEach (e :: es) X.env)).any (·.1) || (backToKw pos (keywordEach kws X.env)).any (·.1.isNone))=false:=by rfl) :
    PE X (.Call (.Name x p) (e :: es) kws pos) (zV sp gV E t tk):=by
  intro pins s σ H Q I h
  refine wpAny_Call_Name_kw (fN I hg hm ?_ hdb)
  refine PySem.W.callWith_KW (h₀:=X.base) I.ok.mod.kin hk hall (thn (ha pos pins s σ H _ I h) fun us s1 ⟨vs,H1,I1,r,q⟩ => ?_) hpl he
  refine thn (hkw pos pins s1 σ H1 _ I1 q) fun ws s2 ⟨zs,H2,I2,rz,q2⟩=>⟨I2.kIn,?_⟩
  rw [hks]
  exact aBk F hr hb hx I2 r rz q2
end
structure FnScope (N P:List Str)(sc:Scope):Prop where
 kind:sc.kind = .function
 co:sc.isCoroutine=false
 gen:sc.isGenerator=false
 nd:N.Nodup
 pre:N.take P.length=P
 par : ∀ x ∈ P,sc.names.lookup x=some .local\/sc.names.lookup x=some .cell
 nofree : ∀ y ∈ sc.names,y.2 ≠ .free
theorem oE {kindOf:Str->Option NameKind}{x:Str} : ∀ {binds:List (Str × Value)} {m:Str->Option Value},(∀ v,(x,v) ∉ binds)->bindL kindOf binds m x=m x
  | [],_,_=>rfl
  | (n,v) :: r,m,h=>by
    unfold bindL
    rw [oE fun w hw=>h w (List.mem_cons_of_mem _ hw)]
    split
    · have:x ≠ n:=by rintro rfl; exact h v List.mem_cons_self
      simp [this]
    · rfl
theorem oG {kindOf:Str->Option NameKind}{x:Str} : ∀ {binds:List (Str × Value)} {m:Str->Option Value},(∀ v,(x,v) ∉ binds)->bindC kindOf binds m x=m x
  | [],_,_=>rfl
  | (n,v) :: r,m,h=>by
    unfold bindC
    rw [oG fun w hw=>h w (List.mem_cons_of_mem _ hw)]
    split
    · rfl
    · have:x ≠ n:=by rintro rfl; exact h v List.mem_cons_self
      simp [this]
theorem oF {kindOf:Str->Option NameKind}{x:Str}{v:Value} : ∀ {P:List Str} {vs:List Value} {i:Nat} {m:Str->Option Value},P.Nodup->P[i]?=some x->vs[i]?=some v->kindOf x=some .local ->
  bindL kindOf (P.zip vs) m x=some v
 | [],_,_,_,_,h,_,_=>by simp at h
 | _ :: _,[],_,_,_,_,h,_=>by simp at h
 | p :: P,w :: vs,0,m,nd,h1,h2,hk=>by
  simp at h1 h2; subst h1; subst h2
  show bindL kindOf ((p,w) :: P.zip vs) m p=_
  unfold bindL
  rw [oE fun v hv=>(List.nodup_cons.mp nd).1 (List.of_mem_zip hv).1,if_pos hk]
  simp
 | p :: P,w :: vs,i+1,m,nd,h1,h2,hk=>by
  show bindL kindOf ((p,w) :: P.zip vs) m x=_
  unfold bindL
  exact oF (i:=i) (List.nodup_cons.mp nd).2 (by simpa using h1) (by simpa using h2) hk
theorem oH {kindOf:Str->Option NameKind}{x:Str}{v:Value} : ∀ {P:List Str} {vs:List Value} {i:Nat} {m:Str->Option Value},P.Nodup->P[i]?=some x->vs[i]?=some v->kindOf x ≠ some .local ->
  bindC kindOf (P.zip vs) m x=some v
 | [],_,_,_,_,h,_,_=>by simp at h
 | _ :: _,[],_,_,_,_,h,_=>by simp at h
 | p :: P,w :: vs,0,m,nd,h1,h2,hk=>by
  simp at h1 h2; subst h1; subst h2
  show bindC kindOf ((p,w) :: P.zip vs) m p=_
  unfold bindC
  rw [oG fun v hv=>(List.nodup_cons.mp nd).1 (List.of_mem_zip hv).1,if_neg hk]
  simp
 | p :: P,w :: vs,i+1,m,nd,h1,h2,hk=>by
  show bindC kindOf ((p,w) :: P.zip vs) m x=_
  unfold bindC
  exact oH (i:=i) (List.nodup_cons.mp nd).2 (by simpa using h1) (by simpa using h2) hk
def mK (N:List Str)(vs:List V):St:=vs.map some ++ List.replicate (N.length - vs.length) none
def cxOf (CX:CXT)(P:Program)(w:World)(K:PySem.W.Frag)(mg:Str->Option Value)(base:Heap)(N:List Str)(qual:Str)(scope:Scope)(f:Addr)(cd:Value)(A:Around)(outer:List Env)(s:Shared)(H:Hp)(E:XK):Cx where
 prog:=P
 w:=w
 K:=K
 mg:=mg
 base:=base
 A:=A.deeper (envOfC qual scope s.heap.objs.size f cd)
 N:=N
 s₀:=s
 H₀:=H
 env:=envOfC qual scope s.heap.objs.size f cd
 outer:=outer
 stack:=envOfC qual scope s.heap.objs.size f cd :: outer
 ex:=[]
 calm:=true
 fn:=fun _=>true
 pn:=[]
 xe:=fun e s'=>wpAny (model P w) (A.deeper (envOfC qual scope s.heap.objs.size f cd)) (leaving (envOfC qual scope s.heap.objs.size f cd) e) (fun _ s''=>CX outer H s E e s'') (fun e' s''=>CX outer H s E e' s'') s'
theorem qV {sc:Scope}{n:Nat}{x:Str}(h:sc.names.lookup x=some .cell) : ∃ c,(cellsFrom n sc.names []).lookup x=some c:=by
 have q:=PySem.W.cellsFrom_some sc.names n [] (.inl h)
 exact Option.isSome_iff_exists.mp q
theorem vH {CX:CXT}{P:Program}{w:World}{K:PySem.W.Frag}{mg:Str->Option Value}{base:Heap}{N ps:List Str}{qual:Str}{scope:Scope}{f:Addr}{cd:Value}{A:Around}{outer:List Env}{s s1:Shared}{H:Hp}{E:XK}{us:List Value}{vs:List V}
  (S:FnScope N ps scope) (hd:A.handled=none) (e0:Env0 P w K mg base A outer s H) (hl:vs.length=ps.length) (r:Vals vs us)
  (x:InCallC s s.heap.objs.size (bindL (envOfC qual scope s.heap.objs.size f cd).kindOf (ps.zip us) fun _=>none) (cellsFrom (s.heap.objs.size+1) scope.names []) (bindC (envOfC qual scope s.heap.objs.size f cd).kindOf (ps.zip us) fun _=>none) s1) :
  Inv (cxOf CX P w K mg base N qual scope f cd A outer s H E) [] (mK N vs) H s1:=by
 have hpl:ps.length<=N.length:=by have:=congrArg List.length S.pre; rw [List.length_take] at this; omega
 obtain ⟨h1,tk,rfl,hk⟩:=x.done
 have noA : ∀ b:Addr,b ∉ (cxOf CX P w K mg base N qual scope f cd A outer s H E).ex:=fun b z=>absurd (show b ∈ ([]:List Addr) from z) (by simp)
 refine ⟨⟨e0.mod,S.kind,rfl,rfl,Nat.le_refl _,fun y z c h1 h2 => ?_,fun y hy => ?_,fun y c _ h => ?_,fun _=>hd,Around.frames_deeper e0.frames,.inr ⟨rfl,rfl⟩,fun b z=>absurd z (noA b),e0.bs,e0.bsz,fun b _ _=>noA b,fun b z=>absurd z (noA b),e0.funs,e0.frf⟩,
  rfl,e0.bare,Un.kept hk,⟨_,x.toInCall.ns,fun i y v h1 h2 h3 => ?_⟩,fun y c h=>⟨_,x.cell y c h⟩,e0.hok.fresh (Nat.le_refl _),fun y c h => ?_,fun p hp=>absurd (show p ∈ ([]:List (Addr × Obj)) from hp) (by simp),e0.hok.kept hk,?_⟩
 ·exact name_of_addr x.apart (PySem.mem_of_lookup h1) (PySem.mem_of_lookup h2)
 ·have hy:scope.names.lookup y=some .cell\/scope.names.lookup y=some .free:=hy
  rcases hy with hy | hy
  ·exact qV hy
  ·exact absurd rfl (S.nofree _ (PySem.mem_of_lookup hy))
 ·exact Nat.le_of_lt (x.above y c (PySem.mem_of_lookup h))
 ·have hi:i < vs.length:=by
   unfold mK at h2
   by_cases hi:i < vs.length
   ·exact hi
   ·rw [List.getElem?_append_right (by simpa using hi)] at h2
    rw [List.getElem?_replicate] at h2
    split at h2 <;> cases h2
  have ha:vs[i]?=some v:=by
   unfold mK at h2
   rw [List.getElem?_append_left (by simpa using hi),List.getElem?_map] at h2
   cases e:vs[i]? with
   | none=>rw [e] at h2; cases h2
   | some a=>rw [e] at h2; cases h2; rfl
  obtain ⟨u,hu,rv⟩:=r.get ha
  have hp:ps[i]?=some y:=by
   rw [<- S.pre,List.getElem?_take_of_lt (by omega)]; exact h1
  have ndP:ps.Nodup:=by rw [<- S.pre]; exact S.nd.sublist (List.take_sublist _ _)
  refine ⟨u,rv,?_⟩
  rcases S.par y (List.mem_of_getElem? hp) with k | k
  ·exact .inl ⟨k,oF ndP hp hu k⟩
  ·obtain ⟨c,e⟩:=qV (n:=s.heap.objs.size+1) k
   refine .inr ⟨.inl k,c,e,?_⟩
   have q:=x.cell y c e
   rw [oH ndP hp hu (by show scope.names.lookup y ≠ _; rw [k]; decide)] at q
   exact q
 ·exact e0.hok.fresh (Nat.le_of_lt (x.above y c (PySem.mem_of_lookup h)))
 ·unfold mK
  show _=N.length
  rw [List.length_append,List.length_map,List.length_replicate]
  omega
theorem aFi {CX:CXT}{P:Program}{w:World}{K:PySem.W.Frag}{mg:Str->Option Value}{base:Heap}{k:Nat}{f:Addr}{name qual:Str}{params:Arguments}{body:List Stmt}{scope:Scope}{dV kV doc pm cdv ct oc:Value}{an od:Option Addr}
  {osl:Array (Option Value)} {N ps:List Str} {sp:Sp} (lk:K.lookup f=some ⟨oc,od,.func (PySem.W.fnOf name qual params body scope dV kV doc pm an cdv ct),osl⟩) (hcd:PySem.W.codeIn K cdv qual=true) (S:FnScope N ps scope)
  (len : ∀ vs H Q E,sp vs H Q E->vs.length=ps.length)
  (hbody : ∀ (A:Around) (outer:List Env) (s:Shared) (H:Hp) (vs:List V) (Q:VK) (E:XK),Room k (A.deeper (envOfC qual scope s.heap.objs.size f cdv))->sp vs H Q E ->
   ∃ t,PSs (cxOf CX P w K mg base N qual scope f cdv A outer s H E) body t/\t { nx:=fun _ H'=>Q .non H',rt:=Q } (mK N vs) H) :
  FnOk P w K mg base CX (k+1) f (PySem.W.fnOf name qual params body scope dV kV doc pm an cdv ct) ps sp:=by
 refine ⟨len,fun A outer s H args us vs Q E hr e0 hb r hsp => ?_⟩
 have hl:=len _ _ _ _ hsp
 have KX:K.In s.heap:=e0.mod.kin.keeps fun b o e=>(e0.bs b o e).1
 have lim:s.heap.NoLimit:=e0.mod.nolimit.keeps fun b o e=>(e0.bs b o e).1
 have hkind : ∀ y ∈ ps.zip us,scope.names.lookup y.1=some .local\/(scope.names.lookup y.1=some .cell/\((cellsFrom (s.heap.objs.size+1) scope.names []).lookup y.1).isSome=true):=fun ⟨n,v⟩ hy=>by
  rcases S.par n (List.of_mem_zip hy).1 with q | q
  ·exact .inl q
  ·exact .inr ⟨q,PySem.W.cellsFrom_some _ _ _ (.inl q)⟩
 refine codeAny_call_function hr.depth (KX _ _ lk) rfl S.co S.gen rfl (PySem.W.codeRec_of KX hcd) (hb _ _ _ _ ?_)
 refine wpAny_newFunctionEnv_cells S.kind hkind fun env he s1 x => ?_
 subst he
 refine ⟨lim.keeps x.toInCall.keep,codeAny_func ?_⟩
 obtain ⟨t,ht,hq⟩:=hbody A outer s H vs Q E (hr.deeper _) hsp
 have I:Inv (cxOf CX P w K mg base N qual scope f cdv A outer s H E) [] (mK N vs) H s1:=vH S hr.hd e0 hl r x
 refine wpAny_mono (ht [] s1 (mK N vs) H _ I hq) (fun fl s' hs => ?_) fun e s' hs=>hs
 have fin : ∀ {σ':St} {H':Hp} {v:V} {u:Value},Inv (cxOf CX P w K mg base N qual scope f cdv A outer s H E) [] σ' H' s'->RelV v u->Q v H'->CE outer P w H s Q u s' :=
  fun {σ' H' v u} J rv q=>⟨v,H',J.os,J.bare,J.base,J.hok,rv,q⟩
 cases fl with
 | ret u =>
  obtain ⟨v,σ',H',J,rv,q⟩:=hs
  exact fin J rv q
 | next =>
  obtain ⟨σ',H',J,q⟩:=hs
  exact fin (v:=V.non) (u:=Value.none) J rfl q
 | brk =>
  obtain ⟨_,_,_,q⟩:=hs
  exact False.elim q
 | cont =>
  obtain ⟨_,_,_,q⟩:=hs
  exact False.elim q
section
variable {X:Cx}{x:Str}{p pos:Pos}{e:Expr}{es:List Expr}{t:TA}{id T:String}{r:List V->Hp->VK->Prop}
def tCB (r:List V->Hp->VK->Prop)(t:TA):TE:=fun σ H Q=>t σ H fun vs H1=>r vs H1 Q
theorem aS (hc:hZ X (.builtin id) r)(hg:Gl X x)(hm:X.mg x=none)(hv:bootBuiltins x=some (.builtin id))(ha:PA X (e :: es) t)(hn:x ≠ "__name__" := by decide)(hdb:(x == ("__debug__" : Str))=false:=by decide)
  (he:starEach (e :: es) X.env=(false,eval e X.env) :: starEach es X.env:=by rfl) (hpl:(backTo pos (starEach es X.env)).any (·.1)=false:=by rfl):PE X (.Call (.Name x p) (e :: es) [] pos) (tCB r t):=by
 intro pins s σ H Q I h
 refine wpAny_Call_Name_kw (iU I hg hm hv ?_ hn hdb)
 exact PyProof.Rows.callWith_builtin1 (thn (ha pos pins s σ H _ I h) fun us s1 ⟨vs,H1,I1,r1,q1⟩=>hc pins s1 σ H1 vs us Q I1 r1 q1) he hpl
theorem bJ (hc:hZ X (.type T) r)(hg:Gl X x)(hm:X.mg x=none)(hv:bootBuiltins x=some (.type T))(ha:PA X (e :: es) t)(hn:x ≠ "__name__" := by decide)(hdb:(x == ("__debug__" : Str))=false:=by decide)
  (he:starEach (e :: es) X.env=(false,eval e X.env) :: starEach es X.env:=by rfl) (hpl:(backTo pos (starEach es X.env)).any (·.1)=false:=by rfl):PE X (.Call (.Name x p) (e :: es) [] pos) (tCB r t):=by
 intro pins s σ H Q I h
 refine wpAny_Call_Name_kw (iU I hg hm hv ?_ hn hdb)
 exact PyProof.Rows.callWith_type1 (thn (ha pos pins s σ H _ I h) fun us s1 ⟨vs,H1,I1,r1,q1⟩=>hc pins s1 σ H1 vs us Q I1 r1 q1) he hpl
end
end L2
namespace HT
open PySem PyProof.Rows
def lexLt:List Int->List Int->Bool
 | [],[]=>false
 | [],_ :: _=>true
 | _ :: _,[]=>false
 | x :: xs,y :: ys=>if x=y then lexLt xs ys else decide (x < y)
section
open PySem.SeqAt
open PySem.AutoSeq1 (wpAny_loadPart')
open PySem.MeetsSeq PySem.MeetsSeq2 PySem.MeetsSeq3
end
section
variable {prog:Program}{w:World}{A:Around}{E:Value->Shared->Prop}{s:Shared}
theorem cat_tup {t b:Addr}{vs ws:List Value}{Q:Value->Shared->Prop}(ht:IsTup s.heap t vs.toArray)(hb:IsTup s.heap b ws.toArray)(hv:vs ≠ [])
  (h1:ws=[]->Q (.ref t) s) (h2:ws ≠ []->Q (.ref s.heap.objs.size) { s with heap:=s.heap.push { cls:=.type "tuple",data:=.seq (vs ++ ws).toArray } })
  (hsz:vs.length+ws.length<=sizeLine):wpAny (model prog w) A (binaryOp .Add (.ref t) (.ref b)) Q E s:=by
 obtain ⟨⟨cls,dd,data,sl⟩,ho,hc,n,hd⟩:=id ht
 obtain ⟨⟨cls2,dd2,data2,sl2⟩,ho2,hc2,n2,hd2⟩:=id hb
 simp only at hc hd hc2 hd2
 subst hc hd hc2 hd2
 have e:vs.toArray ++ ws.toArray=(vs ++ ws).toArray:=by simp
 by_cases hw:ws=[]
 ·exact concat_meets ⟨_,ho,rfl⟩ ⟨_,ho2,rfl⟩ noFill_tuple_add seq_tuple_add PySem.F.slot_tuple_add PySem.F.entry_tuple_add (PySem.F.args_tuple_add_2 _ _)
   (tuple_addW1 t b vs.toArray ws.toArray n n2 dd dd2 sl sl2 (by simpa using hv) (by simp [hw])) ⟨ho,ho2,h1 hw⟩
 ·refine concat_meets ⟨_,ho,rfl⟩ ⟨_,ho2,rfl⟩ noFill_tuple_add seq_tuple_add PySem.F.slot_tuple_add PySem.F.entry_tuple_add (PySem.F.args_tuple_add_2 _ _)
   (tuple_addW2 t b vs.toArray ws.toArray n n2 dd dd2 sl sl2 (by simpa using hv) (by simpa using hw) (by rw [List.size_toArray,List.size_toArray]; exact hsz)) ⟨ho,ho2,?_⟩
  rw [e]
  exact h2 hw
def sIx (n d:Nat):Option Int->Nat
 | none=>d
 | some v=>if v < 0 then (v+(n:Int)).toNat else min v.toNat n
theorem sIx_none (n d:Nat):sIx n d none=d:=rfl
theorem sIx_nat (n d k:Nat):sIx n d (some (k:Int))=min k n:=by
 show (if (k:Int) < 0 then ((k:Int)+(n:Int)).toNat else min (k:Int).toNat n)=min k n
 rw [if_neg (by omega),Int.toNat_natCast]
theorem aD7 (n d:Nat)(hd:d<=n)(o:Option Int):sIx n d o<=n:=by
 cases o with
 | none=>exact hd
 | some v =>
  show (if v < 0 then (v+(n:Int)).toNat else min v.toNat n)<=n
  by_cases hv:v < 0
  ·rw [if_pos hv]; omega
  ·rw [if_neg hv]; exact Nat.min_le_right _ _
theorem wG (v:Int)(n d:Nat):(if v < 0 then max (v+(n:Int)) 0 else min v (n:Int))=((sIx n d (some v):Nat):Int):=by
 show (if v < 0 then max (v+(n:Int)) 0 else min v (n:Int))=(((if v < 0 then (v+(n:Int)).toNat else min v.toNat n):Nat):Int)
 by_cases hv:v < 0
 ·simp only [if_pos hv]; omega
 ·simp only [if_neg hv]; omega
theorem sS (lo hi:Option Int)(n:Nat):Builtin.Slice.sliceAdjust lo hi 1 (n:Int)=(((sIx n 0 lo:Nat):Int),((sIx n n hi:Nat):Int)):=by
 have h1 : ¬ ((1:Int) < 0):=by omega
 unfold Builtin.Slice.sliceAdjust
 simp only [h1,if_false]
 refine Prod.ext ?_ ?_
 ·cases lo with
  | none=>rfl
  | some v=>exact wG v n 0
 ·cases hi with
  | none=>rfl
  | some v=>exact wG v n n
theorem rO (i j:Nat):Builtin.Slice.slicePlaces (i:Int) (j:Int) 1=j - i:=by
 unfold Builtin.Slice.slicePlaces
 have h1:(1:Int) > 0:=by omega
 simp only [h1,if_true,Int.ediv_one]
 split <;> omega
theorem kP {v:Value}{o:Option Int}{Q:Option Int->Shared->Prop}(p:IsPart v o)(h:Q o s):wpAny (model prog w) A (Builtin.Slice.slicePartIndex v) Q E s:=by
 cases p with
 | none=>exact slicePart_none h
 | int i t=>exact slicePart_int h
theorem iZ {sl:Addr}{vl vu:Value}{lo hi:Option Int}{n:Nat}{Q:Int × Int × Nat->Shared->Prop}(hs:s.heap.IsSliceOf sl vl vu .none)(pl:IsPart vl lo)(pu:IsPart vu hi)
    (h:Q (((sIx n 0 lo:Nat):Int),1,sIx n n hi - sIx n 0 lo) s):wpAny (model prog w) A (Builtin.Slice.sliceApplied (.ref sl) (pure (n:Int))) Q E s:=by
  obtain ⟨os,hos,hcs,hds⟩:=id hs
  unfold Builtin.Slice.sliceApplied Builtin.Slice.sliceFields
  refine wpAny_bind (wpAny_bind (wpAny_field hos hds (x:=vl) rfl (wpAny_bind (wpAny_field hos hds (x:=vu) rfl (wpAny_bind (wpAny_field hos hds (x:=.none) rfl (wpAny_pure ?_)))))))
  refine wpAny_bind (slicePart_none ?_)
  show wpAny _ _ (if ((1:Int) == 0)=true then _ else _) _ _ s
  rw [if_neg (by decide)]
  refine wpAny_bind (kP pl (wpAny_bind (kP pu (wpAny_bind (wpAny_pure ?_)))))
  show wpAny _ _ (match Builtin.Slice.sliceAdjust lo hi 1 (n:Int) with | (lo,hi)=>pure (lo,(1:Int),Builtin.Slice.slicePlaces lo hi 1)) _ _ s
  rw [sS lo hi n]
  show wpAny _ _ (pure (((sIx n 0 lo:Nat):Int),(1:Int),Builtin.Slice.slicePlaces ((sIx n 0 lo:Nat):Int) ((sIx n n hi:Nat):Int) 1)) _ _ s
  rw [rO]
  exact wpAny_pure h
theorem xJ (xs:Array Value)(i k:Nat):((List.range k).filterMap fun (m:Nat)=>xs[((i:Int)+(m:Int)*1).toNat]?).toArray=((xs.toList.drop i).take k).toArray:=by
 have e:(fun (m:Nat)=>xs[((i:Int)+(m:Int)*1).toNat]?)=fun m=>xs[i+m]?:=by
  funext m
  have:((i:Int)+(m:Int)*1).toNat=i+m:=by omega
  rw [this]
 rw [e]
 have:=pick_run xs i k
 rw [List.filterMap_map] at this
 have e2:((fun x=>xs[x]?) ∘ fun x=>i+x)=fun m=>xs[i+m]?:=rfl
 rw [e2] at this
 rw [this]
theorem getItem_tuple_cut {t sl:Addr}{items:Array Value}{vl vu:Value}{lo hi:Option Int}{Q:Value->Shared->Prop}(ht:IsTup s.heap t items)(hs:s.heap.IsSliceOf sl vl vu .none)(pl:IsPart vl lo)(pu:IsPart vu hi)
  (hw : ¬ (sIx items.size 0 lo=0/\sIx items.size items.size hi=items.size))
  (h:Q (.ref s.heap.objs.size) { s with heap:=s.heap.push { cls:=.type "tuple",data:=.seq ((items.toList.drop (sIx items.size 0 lo)).take (sIx items.size items.size hi - sIx items.size 0 lo)).toArray } })
  (hsz:items.size<=sizeLine):wpAny (model prog w) A (getItem (.ref t) (.ref sl)) Q E s:=by
 have htake:sizeOk (.seq ((items.toList.drop (sIx items.size 0 lo)).take (sIx items.size items.size hi - sIx items.size 0 lo)).toArray):=by
  show ((items.toList.drop (sIx items.size 0 lo)).take (sIx items.size items.size hi - sIx items.size 0 lo)).toArray.size<=sizeLine
  rw [List.size_toArray,List.length_take,List.length_drop,Array.length_toList]
  omega
 have hj:sIx items.size items.size hi<=items.size:=aD7 _ _ (Nat.le_refl _) hi
 obtain ⟨os,hos,hcs,hds⟩:=id hs
 have hTs:s.TypeIs (.ref sl) "slice" := ⟨os,hos,hcs⟩
 unfold getItem
 try with_reducible refine wpAny_holding ?_
 first | refine wpAny_bind (wpAny_pure ?_) | skip
 refine wpAny_bind (wpAny_sequenceKey ht.typeIs (by decide) ?_)
 refine wpAny_bind (wpAny_callSpecial?_slot (name:=Str.ofString "__getitem__") ht.typeIs PyProof.Rows.slot_tuple_getitem
  (wpAny_call_entry PyProof.Rows.slot_tuple_getitem ht.typeIs entry_tuple_getitem ?_ (args_tuple_getitem _ _)))
 show wpAny _ _ (Builtin.Tuple.tupleItemsOf (.ref t) >>= _) _ _ s
 refine wpAny_bind (tupleItemsOf_ ht ?_)
 refine wpAny_bind (wpAny_typeOf hTs ?_)
 rw [if_pos (by decide)]
 refine wpAny_bind (iZ hs pl pu ?_)
 have hno : ¬ ((((sIx items.size 0 lo:Nat):Int) == 0 && (1:Int) == 1 && (sIx items.size items.size hi - sIx items.size 0 lo) == items.size)=true):=by
  intro q
  rw [Bool.and_eq_true,Bool.and_eq_true] at q
  have q1:((sIx items.size 0 lo:Nat):Int)=0:=eq_of_beq q.1.1
  have q2:sIx items.size items.size hi - sIx items.size 0 lo=items.size:=eq_of_beq q.2
  exact hw ⟨by omega,by omega⟩
 show wpAny _ _ (if (((sIx items.size 0 lo:Nat):Int) == 0 && (1:Int) == 1 && (sIx items.size items.size hi - sIx items.size 0 lo) == items.size)=true then _ else _) _ _ s
 rw [if_neg hno,xJ]
 first
  | exact wpAny_bind (m:=Builtin.Tuple.tupleExact _) (wpAny_newObj_type (wpAny_pure ⟨_,rfl,wpAny_pure h⟩) htake)
  | exact wpAny_bind (m:=Builtin.Tuple.tupleExact _) (wpAny_newObj_type (wpAny_bind (wpAny_pure (wpAny_pure ⟨_,rfl,wpAny_pure h⟩))) htake)
  | exact wpAny_bind (wpAny_bind (m:=Builtin.Tuple.tupleExact _) (wpAny_newObj_type (wpAny_pure (wpAny_pure ⟨_,rfl,wpAny_pure h⟩)) htake))
  | exact wpAny_bind (wpAny_bind (m:=Builtin.Tuple.tupleExact _) (wpAny_newObj_type (wpAny_pure ⟨_,rfl,wpAny_pure h⟩) htake))
end
end HT
namespace L2
open PySem PySem.Spec PyProof.Rows
abbrev TO:=St->Hp->(Option Int->Hp->Prop)->Prop
def PO (X:Cx)(e:Option Expr)(t:TO):Prop :=
 ∀ (pins:List (Addr × Obj)) (s:Shared) (σ:St) (H:Hp) (Q:Option Int->Hp->Prop),Inv X pins σ H s->t σ H Q ->
  wpAny (model X.prog X.w) X.A (evalPart e X.env) (fun u s'=>∃ o H',Inv X pins σ H' s'/\IsPart u o/\Q o H') X.xe s
def aA7:TO:=fun _ H Q=>Q none H
def aFy (t:TE):TO:=fun σ H Q=>t σ H fun x H1=>∃ i,x = .int i/\Q (some i) H1
theorem rX {ns:List Int} : ∀ {us:List Value},Vals (ns.map V.int) us->IntsAre us ns:=by
 induction ns with
 | nil=>intro us r; rw [List.map_nil] at r; cases r; exact .nil
 | cons n ns ih =>
  intro us r
  rw [List.map_cons] at r
  cases r with
  | cons r1 r2 =>
   obtain ⟨t,e⟩:=r1
   subst e
   exact .cons n t (ih r2)
section
variable {X:Cx}{e:Expr}{te:TE}{lo hi:Option Expr}{tl th:TO}{pos p2:Pos}
theorem iN:PO X none aA7:=by
 intro pins s σ H Q I h
 rw [evalPart_none]
 exact wpAny_pure ⟨none,H,I,.none,h⟩
theorem gA (h:PE X e te):PO X (some e) (aFy te):=by
 intro pins s σ H Q I hw
 rw [evalPart_some]
 refine thn (h pins s σ H _ I hw) fun u s1 ⟨x,H1,I1,r1,q1⟩ => ?_
 obtain ⟨i,rfl,q⟩:=q1
 obtain ⟨t,rfl⟩:=r1
 exact ⟨some i,H1,I1,.int i t,q⟩
def SlR (X:Cx)(r:V->Option Int->Option Int->Hp->VK->Prop):Prop :=
 ∀ (pins:List (Addr × Obj)) (s:Shared) (σ:St) (H:Hp) (x:V) (v vl vu:Value) (lo hi:Option Int) (sl:Addr) (Q:VK),Inv X pins σ H s->RelV x v->s.heap.IsSliceOf sl vl vu .none->IsPart vl lo->IsPart vu hi->r x lo hi H Q ->
  ∃ T id,typeLookup (.type T) "__getitem__" = pure (some (.builtin id))/\s.TypeIs v T/\wpAny (model X.prog X.w) X.A (getItem v (.ref sl)) (EP X pins σ Q) X.xe s
def tSl (r:V->Option Int->Option Int->Hp->VK->Prop)(te:TE)(tl th:TO):TE:=fun σ H Q=>te σ H fun x H1=>tl σ H1 fun l H2=>th σ H2 fun u H3=>r x l u H3 Q
theorem fH {r:V->Option Int->Option Int->Hp->VK->Prop}(hr:SlR X r)(he:PE X e te)(hl:PO X lo tl)(hu:PO X hi th):PE X (.Subscript e (.Slice lo hi none p2) pos) (tSl r te tl th):=by
 intro pins s σ H Q I h
 refine Subscript_ (thn (he pins s σ H _ I h) fun v s1 ⟨x,H1,I1,r1,q1⟩ => ?_)
 refine wpAny_Slice (thn (hl pins s1 σ H1 _ I1 q1) fun vl s2 ⟨l,H2,I2,pl,q2⟩=>thn (hu pins s2 σ H2 _ I2 q2) fun vu s3 ⟨u,H3,I3,pu,q3⟩ => ?_)
 rw [evalPart_none]
 refine wpAny_pure ?_
 have I4:Inv X pins σ H3 { s3 with heap:=s3.heap.push { cls:=.type "slice",data:=.fields #[vl,vu,.none] } }:=I3.kept (t':=s3.toks) fun b ob q=>Heap.get?_push_of_some _ q
 obtain ⟨T,id,hT,ht,hg⟩:=hr pins { s3 with heap:=s3.heap.push { cls:=.type "slice",data:=.fields #[vl,vu,.none] } } σ H3 x v vl vu l u s3.heap.objs.size Q I4 r1 (Heap.IsSliceOf.new ..) pl pu q3
 show wpAny (model X.prog X.w) X.A (subscriptTail e (.Slice lo hi none p2) v (.ref s3.heap.objs.size)) (EP X pins σ Q) X.xe { s3 with heap:=s3.heap.push { cls:=.type "slice",data:=.fields #[vl,vu,.none] } }
 exact tail_any (ops:=[.ref s3.heap.objs.size,v]) ht hT hg (by with_unfolding_all rfl)
def cutV (xs:List V)(lo hi:Option Int):List V:=(xs.drop (HT.sIx xs.length 0 lo)).take (HT.sIx xs.length xs.length hi - HT.sIx xs.length 0 lo)
theorem kF (xs:List V)(lo hi:Option Int):(cutV xs lo hi).length<=xs.length:=by
 unfold cutV
 rw [List.length_take,List.length_drop]
 omega
def rSlT (K:PySem.W.Frag):V->Option Int->Option Int->Hp->VK->Prop:=fun x lo hi H Q=>∃ a xs,x = .ref a/\SqT K H a xs /\
 ¬ (HT.sIx xs.length 0 lo=0/\HT.sIx xs.length xs.length hi=xs.length)/\∀ p,H p=none->Q (.ref p) (upd H p (.tup (cutV xs lo hi)))
theorem zY:SlR X (rSlT X.K):=by
 intro pins s σ H x v vl vu lo hi sl Q I rx hs pl pu h
 obtain ⟨a,xs,rfl,hx,hw,q⟩:=h
 cases rx
 obtain ⟨its,r,ht,hz⟩:=I.tuple hx
 have hlen:its.toArray.size=xs.length:=by rw [List.size_toArray]; exact r.length.symm
 refine ⟨"tuple",_,PyProof.Rows.slot_tuple_getitem.lookup,ht.typeIs,?_⟩
 refine HT.getItem_tuple_cut ht hs pl pu (by rw [hlen]; exact hw) ?_ (by rw [hlen]; exact hz)
 rw [hlen]
 refine ⟨.ref s.heap.objs.size,_,I.laid (t':=s.toks) (o:=.tup (cutV xs lo hi)) (fun b ob q=>Heap.get?_push_of_some _ q) (Nat.le_refl _) ?_,rfl,q _ (I.hok.fresh (Nat.le_refl _))⟩
 exact ⟨Nat.le_trans (kF xs lo hi) hz,_,(r.drop (HT.sIx xs.length 0 lo)).take (HT.sIx xs.length xs.length hi - HT.sIx xs.length 0 lo),IsTup.new _ _⟩
def rLtT (K:PySem.W.Frag):R2:=fun x y H Q=>∃ a b ns ms,x = .ref a/\y = .ref b/\SqT K H a (ns.map V.int)/\SqT K H b (ms.map V.int)/\Q (.bl (HT.lexLt ns ms)) H
def aEi (K:PySem.W.Frag):R2:=fun x y H Q=>∃ a b xs ys,x = .ref a/\y = .ref b/\SqT K H a xs/\SqT K H b ys/\xs ≠ []/\xs.length+ys.length<=sizeLine /\
 (ys=[]->Q (.ref a) H)/\(ys ≠ []->∀ p,H p=none->Q (.ref p) (upd H p (.tup (xs ++ ys))))
theorem Vals.nil_iff {xs:List V}{us:List Value}(r:Vals xs us):us=[] ↔ xs=[]:=by
 cases r with
 | nil=>simp
 | cons _ _=>simp
theorem aB7:OpR X (binaryOp .Add) (aEi X.K):=by
 intro pins s σ H x y v u Q I rx ry h
 obtain ⟨a,b,xs,ys,rfl,rfl,ha,hb,hx,hz,q1,q2⟩:=h
 cases rx
 cases ry
 obtain ⟨its,r1,p1,_⟩:=I.tuple ha
 obtain ⟨its2,r2,p2,_⟩:=I.tuple hb
 refine HT.cat_tup p1 p2 (fun z=>hx (r1.nil_iff.mp z)) (fun z=>⟨.ref a,H,I,rfl,q1 (r2.nil_iff.mp z)⟩) (fun z => ?_) (by rw [<- r1.length,<- r2.length]; exact hz)
 refine ⟨.ref s.heap.objs.size,_,I.laid (t':=s.toks) (o:=.tup (xs ++ ys)) (fun b ob q=>Heap.get?_push_of_some _ q) (Nat.le_refl _) ?_,rfl,q2 (fun w=>z (r2.nil_iff.mpr w)) _ (I.hok.fresh (Nat.le_refl _))⟩
 exact ⟨by rw [List.length_append]; exact hz,_,r1.append r2,IsTup.new _ _⟩
end
def ixN (n:Nat)(i:Int):Option Nat:=if 0<=i then (if i < n then some i.toNat else none) else if -(n:Int)<=i then some (i+n).toNat else none
def atI {α:Type}(xs:List α)(i:Int):Option α:=(ixN xs.length i).bind fun j=>xs[j]?
theorem vG {n:Nat}{i:Int}{j:Nat}(h:ixN n i=some j):seqIndex? i n=some j/\j < n /\ -(n:Int)<=i/\i < n:=by
 unfold ixN at h
 by_cases h0:0<=i
 ·rw [if_pos h0] at h
  by_cases h1:i < n
  ·rw [if_pos h1] at h
   have e:i.toNat=j:=Option.some.inj h
   exact ⟨by rw [seqIndex_of h0 h1,e],by omega,by omega,h1⟩
  ·rw [if_neg h1] at h; cases h
 ·rw [if_neg h0] at h
  by_cases h1 : -(n:Int)<=i
  ·rw [if_pos h1] at h
   have e:(i+n).toNat=j:=Option.some.inj h
   exact ⟨by rw [seqIndex_neg (by omega) h1,e],by omega,h1,by omega⟩
  ·rw [if_neg h1] at h; cases h
theorem pP {α:Type}{xs:List α}{i:Int}{v:α}(h:atI xs i=some v) : ∃ j,seqIndex? i xs.length=some j/\xs[j]?=some v/\j < xs.length /\ -(xs.length:Int)<=i/\i < xs.length:=by
 unfold atI at h
 cases e:ixN xs.length i with
 | none=>rw [e] at h; cases h
 | some j =>
  rw [e] at h
  obtain ⟨h1,h2,h3,h4⟩:=vG e
  exact ⟨j,h1,h,h2,h3,h4⟩
theorem bG {α:Type}{xs:List α}{j:Nat}{v:α}(h:xs[j]?=some v):atI xs (j:Int)=some v:=by
 have hj:j < xs.length:=(List.getElem?_eq_some_iff.mp h).1
 have e:ixN xs.length (j:Int)=some j:=by
  unfold ixN
  rw [if_pos (by omega),if_pos (by omega)]; simp
 unfold atI; rw [e]; exact h
theorem zS {α:Type}(xs:List α)(v:α):atI (xs ++ [v]) (-1)=some v:=by
 have hl:(xs ++ [v]).length=xs.length+1:=by simp
 have e:ixN (xs ++ [v]).length (-1)=some xs.length:=by
  unfold ixN
  rw [hl,if_neg (by decide),if_pos (by omega)]
  congr 1
  omega
 unfold atI
 rw [e]
 show (xs ++ [v])[xs.length]?=some v
 simp
def aC4 (b:Expr):Prop:=∀ o i,subscripted b false o i=operate [o,i] (getItem o i)
def IxR (X:Cx)(r:R2):Prop :=
 ∀ (value slice:Expr) (pins:List (Addr × Obj)) (s:Shared) (σ:St) (H:Hp) (x y:V) (v u:Value) (Q:VK),Inv X pins σ H s->RelV x v->RelV y u->r x y H Q ->
  subscripted slice false v u=operate [v,u] (getItem v u)->wpAny (model X.prog X.w) X.A (subscriptTail value slice v u) (EP X pins σ Q) X.xe s
def MtR (X:Cx)(id:String)(r:V->List V->Hp->VK->Prop):Prop :=
 ∀ (pins:List (Addr × Obj)) (s:Shared) (σ:St) (H:Hp) (x:V) (xs:List V) (v:Value) (us:List Value) (Q:VK),Inv X pins σ H s->RelV x v->Vals xs us->r x xs H Q ->
  wpAny (model X.prog X.w) X.A (call (.builtin id) (v :: us)) (EP X pins σ Q) X.xe s
section
variable {X:Cx}{a b:Expr}{ta tb:TE}{pos:Pos}
theorem IxR.or {r r':R2}(h:IxR X r)(h':IxR X r'):IxR X (fun x y H Q=>r x y H Q\/r' x y H Q):=by
 intro value slice pins s σ H x y v u Q I rx ry q hs
 rcases q with q | q
 ·exact h value slice pins s σ H x y v u Q I rx ry q hs
 ·exact h' value slice pins s σ H x y v u Q I rx ry q hs
theorem dG {r:R2}(hr:IxR X r)(ha:PE X a ta)(hb:PE X b tb)(hs:aC4 b):PE X (.Subscript a b pos) (tOp r ta tb):=by
 intro pins s σ H Q I h
 exact Subscript_ (binT ha hb I h fun v u s2 x y H2 I2 rx ry q=>hr a b pins s2 σ H2 x y v u Q I2 rx ry q (hs _ _))
def rIxL (K:PySem.W.Frag):R2:=fun x y H Q=>∃ p xs i v,x = .ref p/\y = .int i/\SqL K H p xs/\atI xs i=some v/\Q v H
def rIxT (K:PySem.W.Frag):R2:=fun x y H Q=>∃ p xs i v,x = .ref p/\y = .int i/\SqT K H p xs/\atI xs i=some v/\Q v H
def rIxS:R2:=fun x y H Q=>∃ z i c,x = .str z/\y = .int i/\z.length<=sizeLine/\atI z.cps.toList i=some c/\Q (.str ⟨#[c]⟩) H
theorem cI:IxR X (rIxL X.K):=by
 intro value slice pins s σ H x y v u Q I rx ry h hs
 obtain ⟨p,xs,i,z,rfl,rfl,hq,he,q⟩:=h
 cases rx
 obtain ⟨t,rfl⟩:=ry
 obtain ⟨its,r,pl,hz⟩:=I.list hq
 obtain ⟨j,h1,h2,h3,h4,h5⟩:=pP he
 obtain ⟨w,ew,rw'⟩:=r.get h2
 have hl:=r.length
 have hn:=kT
 have fin:EP X pins σ Q w s:=⟨z,H,I,rw',q⟩
 by_cases h0:0<=i
 ·have hj:i.toNat=j:=by
   rw [seqIndex_of h0 h5] at h1
   exact Option.some.inj h1
  exact item_listR pl.isList h0 (by omega) (by rw [hj]; simpa using ew) fin hs
 ·have hj:(i+(its.toArray.size:Int)).toNat=j:=by
   rw [seqIndex_neg (by omega) h4] at h1
   rw [List.size_toArray,<- hl]
   exact Option.some.inj h1
  exact subscriptTail_builtinR (x:=w) pl.isList.typeIs slot_list_getitem.lookup
   (wpAny_getItem_list_neg (Q:=fun r s'=>r=w/\EP X pins σ Q r s') pl.isList (by omega) (by rw [List.size_toArray] <;> omega) (by omega) (by rw [hj]; simpa using ew) ⟨rfl,fin⟩) hs
theorem fU:IxR X (rIxT X.K):=by
 intro value slice pins s σ H x y v u Q I rx ry h hs
 obtain ⟨p,xs,i,z,rfl,rfl,hq,he,q⟩:=h
 cases rx
 obtain ⟨t,rfl⟩:=ry
 obtain ⟨its,r,pl,hz⟩:=I.tuple hq
 obtain ⟨j,h1,h2,h3,h4,h5⟩:=pP he
 obtain ⟨w,ew,rw'⟩:=r.get h2
 have hl:=r.length
 have hn:=kT
 have fin:EP X pins σ Q w s:=⟨z,H,I,rw',q⟩
 exact subscriptTail_builtinR (x:=w) pl.typeIs slot_tuple_getitem.lookup
  (getItem_tuple (j:=j) (Q:=fun r s'=>r=w/\EP X pins σ Q r s') pl (by omega) (by omega) (by rw [List.size_toArray,<- hl]; exact h1) (by simpa using ew) ⟨rfl,fin⟩) hs
theorem qP:IxR X rIxS:=by
 intro value slice pins s σ H x y v u Q I rx ry h hs
 obtain ⟨z,i,c,rfl,rfl,hz,he,q⟩:=h
 obtain ⟨t,rfl⟩:=rx
 obtain ⟨t',rfl⟩:=ry
 obtain ⟨j,h1,h2,h3,h4,h5⟩:=pP he
 have hl:z.cps.toList.length=z.length:=by simp [Str.length]
 rw [hl] at h1 h4 h5
 have hn:=kT
 exact tail_any (typeIs_str s z t) slot_str_getitem.lookup (getItem_str (c:=c) (by
  have e1:decide (i < -(2 ^ 63:Int))=false:=decide_eq_false (by omega)
  have e2:decide (i ≥ 2 ^ 63)=false:=decide_eq_false (by omega)
  rw [e1,e2,Bool.or_false]) (by rw [h1]; simpa using h2) ⟨.str ⟨#[c]⟩,H,I.tok _,⟨_,rfl⟩,q⟩) hs
def rIx (K:PySem.W.Frag):R2:=fun x y H Q=>rIxL K x y H Q\/rIxT K x y H Q\/rIxS x y H Q
theorem aFf:IxR X (rIx X.K):=cI.or (fU.or qP)
theorem rR (its:List Value)(n j:Nat)(u:Value):Obj.mapSeq (·.setIfInBounds j u) { cls:=.type "list",data:=.seq its.toArray n }={ cls:=.type "list",data:=.seq (its.set j u).toArray n }:=by
 simp [Obj.mapSeq]
theorem Inv.lst {pins:List (Addr × Obj)}{σ:St}{H:Hp}{s:Shared}{p:Addr}{xs:List V}(I:Inv X pins σ H s)(h:H p=some (.lst xs)) :
  ∃ (its:List Value) (n:Nat),Vals xs its/\s.heap.get? p=some { cls:=.type "list",data:=.seq its.toArray n }/\xs.length<=sizeLine:=by
 obtain ⟨z,its,n,r,e⟩:=I.hok p _ h
 exact ⟨its,n,r,e,z⟩
theorem Inv.lstUpd {pins:List (Addr × Obj)}{σ:St}{H:Hp}{s:Shared}{p:Addr}{xs ys:List V}{its its':List Value}{n n':Nat}{f:Obj->Obj}(I:Inv X pins σ H s)(h:H p=some (.lst xs))
  (ho:s.heap.get? p=some { cls:=.type "list",data:=.seq its.toArray n }) (hf:f { cls:=.type "list",data:=.seq its.toArray n }={ cls:=.type "list",data:=.seq its'.toArray n' }) (r:Vals ys its') (hz:ys.length<=sizeLine) (t:Nat) :
  Inv X pins σ (upd H p (.lst ys)) { s with heap:=s.heap.update p f,toks:=t }:=by
 have e:(s.heap.update p f).get? p=some { cls:=.type "list",data:=.seq its'.toArray n' }:=by
  rw [Heap.get?_update_self f ho (by rw [hf] <;> rfl),hf]
 refine I.write (x:=p) (e:=p) (by rw [h]; trivial) (.inl rfl) (fun b u hb q=>(Heap.get?_update_other _ _ (Ne.symm hb)).trans q) ⟨_,e⟩ ?_
 exact ⟨hz,its',n',r,e⟩
def aF8:V->V->V->Hp->(Hp->Prop)->Prop:=fun o i v H Q=>∃ p xs k j,o = .ref p/\i = .int k/\H p=some (.lst xs)/\ixN xs.length k=some j/\Q (upd H p (.lst (xs.set j v)))
theorem pX:PSet X aF8:=by
 intro pins s σ H o i v ov iv u Q I ro ri rv h
 obtain ⟨p,xs,k,j,rfl,rfl,hp,hj,q⟩:=h
 cases ro
 obtain ⟨t,rfl⟩:=ri
 obtain ⟨its,n,r,ho,hz⟩:=I.lst hp
 obtain ⟨h1,h2,h3,h4⟩:=vG hj
 have hl:=r.length
 have hn:=kT
 have I':Inv X pins σ (upd H p (.lst (xs.set j v))) { s with heap:=s.heap.update p (Obj.mapSeq (·.setIfInBounds j u)) } :=
  I.lstUpd hp ho (rR its n j u) (r.set rv j) (by rw [List.length_set]; exact hz) s.toks
 by_cases h0:0<=k
 ·have hk:k.toNat=j:=by
   rw [seqIndex_of h0 h4] at h1
   exact Option.some.inj h1
  exact PySem.W.ki_setAt ho h0 (by omega) (by rw [List.size_toArray,<- hl]; exact h4) (by rw [hk]; exact ⟨_,I',q⟩)
 ·have hk:(k+(its.toArray.size:Int)).toNat=j:=by
   rw [seqIndex_neg (by omega) h3] at h1
   rw [List.size_toArray,<- hl]
   exact Option.some.inj h1
  exact PySem.W.ki_setBack ho (by omega) (by rw [List.size_toArray,<- hl]; exact h3) (by omega) (by rw [hk]; exact ⟨_,I',q⟩)
theorem mO (lo hi:Option Int)(n:Nat):(sliceBounds lo hi none n).1=((HT.sIx n 0 lo:Nat):Int)/\(sliceBounds lo hi none n).2.1=((HT.sIx n n hi:Nat):Int)/\(sliceBounds lo hi none n).2.2=1:=by
 refine ⟨?_,?_,rfl⟩
 ·cases lo with
  | none=>simp [sliceBounds,HT.sIx]
  | some i =>
   simp only [sliceBounds,HT.sIx,Option.getD_none,show (1:Int) > 0 by decide,if_true]
   by_cases h:i < 0
   ·simp only [h,if_true] <;> omega
   ·simp only [h,if_false] <;> omega
 ·cases hi with
  | none=>simp [sliceBounds,HT.sIx]
  | some i =>
   simp only [sliceBounds,HT.sIx,Option.getD_none,show (1:Int) > 0 by decide,if_true]
   by_cases h:i < 0
   ·simp only [h,if_true] <;> omega
   ·simp only [h,if_false] <;> omega
theorem lE (its:List Value)(lo hi:Option Int):slicePick its.toArray lo hi none=((its.drop (HT.sIx its.length 0 lo)).take (HT.sIx its.length its.length hi - HT.sIx its.length 0 lo)).toArray:=by
 obtain ⟨h1,h2,h3⟩:=mO lo hi its.toArray.size
 unfold slicePick
 rw [h1,h2,h3]
 simp only [sliceRange_one,pick_run,List.size_toArray] <;> rfl
def rSlL (K:PySem.W.Frag):V->Option Int->Option Int->Hp->VK->Prop:=fun x lo hi H Q=>∃ a xs,x = .ref a/\SqL K H a xs/\∀ p,H p=none->Q (.ref p) (upd H p (.lst (cutV xs lo hi)))
theorem lF:SlR X (rSlL X.K):=by
 intro pins s σ H x v vl vu lo hi sl Q I rx hs pl pu h
 obtain ⟨a,xs,rfl,hx,q⟩:=h
 cases rx
 obtain ⟨its,r,ht,hz⟩:=I.list hx
 have hlen:=r.length
 refine ⟨"list",_,slot_list_getitem.lookup,ht.isList.typeIs,?_⟩
 refine wpAny_getItem_list_slice ht.isList hs pl pu .none (by simp) ?_ (by rw [List.size_toArray] <;> omega)
 rw [lE,<- hlen]
 refine ⟨.ref s.heap.objs.size,_,I.laid (t':=s.toks) (o:=.lst (cutV xs lo hi)) (fun b ob q=>Heap.get?_push_of_some _ q) (Nat.le_refl _) ?_,rfl,q _ (I.hok.fresh (Nat.le_refl _))⟩
 exact ⟨Nat.le_trans (kF xs lo hi) hz,_,0,(r.drop (HT.sIx xs.length 0 lo)).take (HT.sIx xs.length xs.length hi - HT.sIx xs.length 0 lo),Heap.get?_push_size _ rfl⟩
def eY:V->Bool
 | .non=>true
 | .bl _=>true
 | .int _=>true
 | .str _=>true
 | _=>false
def eqV:V->V->Bool
 | .non,.non=>true
 | .bl a,.bl b=>a == b
 | .bl a,.int b=>(if a then 1 else 0) == b
 | .int a,.bl b=>a == (if b then 1 else 0)
 | .int a,.int b=>a == b
 | .str a,.str b=>a == b
 | _,_=>false
theorem aAo {A:Around}{s:Shared}{y x:V}{u v:Value}(ry:RelV y u)(rx:RelV x v)(fy:eY y=true)(fx:eY x=true):SeqAt.EqAt A s u v (eqV y x):=by
 cases y with
 | non =>
  cases ry
  cases x with
  | non=>cases rx; exact SeqAt.EqAt.same _
  | bl b=>cases rx; exact SeqAt.EqAt.none_bool b
  | int b=>obtain ⟨t,rfl⟩:=rx; exact SeqAt.EqAt.none_int b t
  | str b=>obtain ⟨t,rfl⟩:=rx; exact SeqAt.EqAt.none_str b t
  | _=>exact absurd (show false=true from fx) Bool.false_ne_true
 | bl a =>
  cases ry
  cases x with
  | non=>cases rx; exact SeqAt.EqAt.bool_none a
  | bl b=>cases rx; exact SeqAt.EqAt.bool_bool a b
  | int b=>obtain ⟨t,rfl⟩:=rx; exact SeqAt.EqAt.bool_int a b t
  | str b=>obtain ⟨t,rfl⟩:=rx; exact SeqAt.EqAt.bool_str a b t
  | _=>exact absurd (show false=true from fx) Bool.false_ne_true
 | int a =>
  obtain ⟨t',rfl⟩:=ry
  cases x with
  | non=>cases rx; exact SeqAt.EqAt.int_none a t'
  | bl b=>cases rx; exact SeqAt.EqAt.int_bool a t' b
  | int b=>obtain ⟨t,rfl⟩:=rx; exact SeqAt.EqAt.int_int a t' b t
  | str b=>obtain ⟨t,rfl⟩:=rx; exact SeqAt.EqAt.int_str a t' b t
  | _=>exact absurd (show false=true from fx) Bool.false_ne_true
 | str a =>
  obtain ⟨t',rfl⟩:=ry
  cases x with
  | non=>cases rx; exact SeqAt.EqAt.str_none a t'
  | bl b=>cases rx; exact SeqAt.EqAt.str_bool a t' b
  | int b=>obtain ⟨t,rfl⟩:=rx; exact SeqAt.EqAt.str_int a t' b t
  | str b=>obtain ⟨t,rfl⟩:=rx; exact SeqAt.EqAt.str_str a t' b t
  | _=>exact absurd (show false=true from fx) Bool.false_ne_true
 | _=>exact absurd (show false=true from fy) Bool.false_ne_true
def eqU (x:V)(u:Value):Bool:=match u with
 | .none=>eqV .non x
 | .bool b=>eqV (.bl b) x
 | .int i _=>eqV (.int i) x
 | .str z _=>eqV (.str z) x
 | _=>false
theorem qT {x y:V}{u:Value}(r:RelV y u)(f:eY y=true):eqU x u=eqV y x:=by
 cases y with
 | non=>cases r; rfl
 | bl b=>cases r; rfl
 | int i=>obtain ⟨t,rfl⟩:=r; rfl
 | str z=>obtain ⟨t,rfl⟩:=r; rfl
 | _=>exact absurd (show false=true from f) Bool.false_ne_true
theorem kH {x:V} : ∀ {xs:List V} {us:List Value},Vals xs us->xs.all eY=true->us.any (eqU x)=xs.any fun y=>eqV y x
 | _,_,.nil,_=>rfl
 | y :: xs,u :: us,.cons r t,f=>by
  rw [List.all_cons,Bool.and_eq_true] at f
  rw [List.any_cons,List.any_cons,qT r f.1,kH t f.2]
theorem fM {A:Around}{s:Shared}{x:V}{v:Value}(rx:RelV x v)(fx:eY x=true) : ∀ {xs:List V} {us:List Value},Vals xs us->xs.all eY=true->∀ u ∈ us,SeqAt.EqAt A s u v (eqU x u)
 | _,_,.nil,_=>fun u hu=>by cases hu
 | y :: xs,u :: us,.cons r t,f=>fun u' hu=>by
  rw [List.all_cons,Bool.and_eq_true] at f
  rcases List.mem_cons.mp hu with rfl | hu
  ·rw [qT r f.1]; exact aAo r rx f.1 fx
  ·exact fM rx fx t f.2 u' hu
def inV (x:V)(xs:List V):Bool:=xs.any fun y=>eqV y x
def rIn (K:PySem.W.Frag)(neg:Bool):R2:=fun x y H Q=>∃ p xs,y = .ref p/\(SqL K H p xs\/SqT K H p xs)/\eY x=true/\xs.all eY=true/\Q (.bl (if neg then !inV x xs else inV x xs)) H
theorem eW:OpR X (compareOp .In) (rIn X.K false):=by
 intro pins s σ H x y v u Q I rx ry h
 obtain ⟨p,xs,rfl,hq,fx,fs,q⟩:=h
 cases ry
 rcases hq with hq | hq
 ·obtain ⟨its,r,pl,hz⟩:=I.list hq
  refine SeqAt.in_listAt (eqU x) pl.isList (fun w hw=>fM rx fx r fs w (by simpa using hw)) ⟨.bl _,H,I,rfl,?_⟩
  rw [show its.toArray.any (eqU x)=its.any (eqU x) by simp,kH r fs]
  exact q
 ·obtain ⟨its,r,pl,hz⟩:=I.tuple hq
  refine SeqAt.in_tupleAt (eqU x) pl (fun w hw=>fM rx fx r fs w (by simpa using hw)) ⟨.bl _,H,I,rfl,?_⟩
  rw [show its.toArray.any (eqU x)=its.any (eqU x) by simp,kH r fs]
  exact q
theorem gC:OpR X (compareOp .NotIn) (rIn X.K true):=by
 intro pins s σ H x y v u Q I rx ry h
 obtain ⟨p,xs,rfl,hq,fx,fs,q⟩:=h
 cases ry
 rcases hq with hq | hq
 ·obtain ⟨its,r,pl,hz⟩:=I.list hq
  refine SeqAt.notIn_listAt (eqU x) pl.isList (fun w hw=>fM rx fx r fs w (by simpa using hw)) ⟨.bl _,H,I,rfl,?_⟩
  rw [show its.toArray.any (eqU x)=its.any (eqU x) by simp,kH r fs]
  exact q
 ·obtain ⟨its,r,pl,hz⟩:=I.tuple hq
  refine SeqAt.notIn_tupleAt (eqU x) pl (fun w hw=>fM rx fx r fs w (by simpa using hw)) ⟨.bl _,H,I,rfl,?_⟩
  rw [show its.toArray.any (eqU x)=its.any (eqU x) by simp,kH r fs]
  exact q
theorem aW:hZ X (.builtin "len") (fun xs H Q=>∃ p ys,xs=[.ref p]/\(SqL X.K H p ys\/SqT X.K H p ys)/\Q (.int ys.length) H):=by
 intro pins s σ H xs us Q I r h
 obtain ⟨p,ys,rfl,hq,q⟩:=h
 obtain ⟨u,rfl,rx⟩:=jL r
 cases rx
 have hn:=kT
 rcases hq with hq | hq
 ·obtain ⟨its,r',pl,hz⟩:=I.list hq
  have hlen:=r'.length
  exact Calls.call_len_list pl.isList (by simp only [List.size_toArray] <;> omega) ⟨.int ys.length,H,I.tok _,⟨s.toks+1,by rw [List.size_toArray,hlen]⟩,q⟩
 ·obtain ⟨its,r',pl,hz⟩:=I.tuple hq
  have hlen:=r'.length
  exact len_tuple pl (by simp only [List.size_toArray] <;> omega) ⟨.int ys.length,H,I.tok _,⟨s.toks+1,by rw [List.size_toArray,hlen]⟩,q⟩
theorem eQ:hZ X (.type "list") (fun xs H Q=>∃ p ys,xs=[.ref p]/\(SqL X.K H p ys\/SqT X.K H p ys)/\∀ l,H l=none->Q (.ref l) (upd H l (.lst ys))):=by
 intro pins s σ H xs us Q I r h
 obtain ⟨p,ys,rfl,hq,q⟩:=h
 obtain ⟨u,rfl,rx⟩:=jL r
 cases rx
 have fin : ∀ (its:List Value),Vals ys its->ys.length<=sizeLine->∀ (h':Heap) (c':Nat),(∀ b o',s.heap.get? b=some o'->h'.get? b=some o') ->
   h'.get? s.heap.objs.size=some { cls:=.type "list",dict:=none,data:=.seq its.toArray c',slots := #[] }->EP X pins σ Q (.ref s.heap.objs.size) { s with heap:=h' }:=fun its r' hz h' c' kp e =>
  ⟨.ref s.heap.objs.size,_,I.laid (t':=s.toks) kp (Nat.le_refl _) (show ObjOk X.prog X.w _ h' _ (.lst ys) from ⟨hz,its,c',r',e⟩),rfl,q _ (I.hok.fresh (Nat.le_refl _))⟩
 rcases hq with hq | hq
 ·obtain ⟨its,r',pl,hz⟩:=I.list hq
  have hlen:=r'.length
  obtain ⟨o,ho,hc,n,hd⟩:=pl.isList
  exact call_list_seq p (.inl rfl) ho hc hd (fun h' c' kp e=>fin its r' hz h' c' kp e) (by simp only [List.size_toArray] <;> omega)
 ·obtain ⟨its,r',pl,hz⟩:=I.tuple hq
  have hlen:=r'.length
  obtain ⟨o,ho,hc,n,hd⟩:=pl
  exact call_list_seq p (.inr rfl) ho hc hd (fun h' c' kp e=>fin its r' hz h' c' kp e) (by simp only [List.size_toArray] <;> omega)
theorem cU:hZ X (.type "tuple") (fun xs H Q=>∃ p ys,xs=[.ref p]/\((SqL X.K H p ys/\∀ l,H l=none->Q (.ref l) (upd H l (.tup ys)))\/(SqT X.K H p ys/\Q (.ref p) H))):=by
 intro pins s σ H xs us Q I r h
 obtain ⟨p,ys,rfl,h⟩:=h
 obtain ⟨u,rfl,rx⟩:=jL r
 cases rx
 rcases h with ⟨hq,q⟩ | ⟨hq,q⟩
 ·obtain ⟨its,r',pl,hz⟩:=I.list hq
  have hlen:=r'.length
  refine call_tuple_list pl.isList (fun h' kp => ?_) (by simp only [List.size_toArray] <;> omega)
  have I1:Inv X pins σ H { s with heap:=h' }:=I.kept (t':=s.toks) kp
  have I2:Inv X pins σ (upd H h'.objs.size (.tup ys)) { s with heap:=h'.push { cls:=.type "tuple",data:=.seq its.toArray } } :=
   I1.laid (t':=s.toks) (fun b o e=>Heap.get?_push_of_some _ e) (Nat.le_refl _) (show ObjOk X.prog X.w _ _ _ (.tup ys) from ⟨hz,its,r',IsTup.new _ _⟩)
  exact ⟨.ref h'.objs.size,_,I2,rfl,q _ (I1.hok.fresh (Nat.le_refl _))⟩
 ·obtain ⟨its,r',pl,hz⟩:=I.tuple hq
  exact call_tuple_same pl ⟨.ref p,H,I,rfl,q⟩
def tyV (K:PySem.W.Frag)(T:String)(x:V)(H:Hp):Prop:=match x with
 | .str _=>T = "str"
 | .int _=>T = "int"
 | .ref p=>(T = "list" /\ ∃ xs,SqL K H p xs)\/(T = "tuple" /\ ∃ o,K.lookup p=some o/\o.cls = .type "tuple" /\ o.dict=none) \/
   (T = "dict" /\ ((∃ kvs,H p=some (.dK kvs))\/∃ kvs,H p=some (.dT kvs)))\/(T = "set" /\ ∃ S n,H p=some (.set S n))
 | _=>False
theorem aDg {pins:List (Addr × Obj)}{σ:St}{H:Hp}{s:Shared}{T:String}{x:V}{v:Value}(I:Inv X pins σ H s)(r:RelV x v)(ty:tyV X.K T x H) :
  s.TypeIs v T/\∀ a,v = .ref a->∃ ob,s.heap.get? a=some ob/\ob.dict=none:=by
 cases x with
 | str z =>
  obtain ⟨t,rfl⟩:=r
  cases (show T = "str" from ty)
  exact ⟨typeIs_str s z t,fun _ e=>nomatch e⟩
 | int i =>
  obtain ⟨t,rfl⟩:=r
  cases (show T = "int" from ty)
  exact ⟨typeIs_int s i t,fun _ e=>nomatch e⟩
 | ref p =>
  cases r
  rcases ty with ⟨rfl,xs,hq⟩ | ⟨rfl,o,hk,hc,hd⟩ | ⟨rfl,hk⟩ | ⟨rfl,S,n,hk⟩
  ·obtain ⟨its,_,pl,_⟩:=I.list hq
   refine ⟨pl.isList.typeIs,fun a e => ?_⟩
   cases e
   obtain ⟨o,n,e,c,hd,_⟩:=pl
   exact ⟨o,e,hd⟩
  ·refine ⟨⟨o,I.kIn p o hk,hc⟩,fun a e => ?_⟩
   cases e
   exact ⟨o,I.kIn _ o hk,hd⟩
  ·have z : ∃ o,s.heap.get? p=some o/\o.ExactDict:=by
    rcases hk with ⟨kvs,hk⟩ | ⟨kvs,hk⟩
    ·obtain ⟨_,_,_,_,o,_,_,e,ex,_⟩:=I.hok p _ hk
     exact ⟨o,e,ex⟩
    ·obtain ⟨_,_,_,_,o,_,_,e,ex,_⟩:=I.hok p _ hk
     exact ⟨o,e,ex⟩
   obtain ⟨o,e,ex⟩:=z
   refine ⟨⟨o,e,ex.1⟩,fun a e2 => ?_⟩
   cases e2
   exact ⟨o,e,ex.2.1⟩
  ·obtain ⟨o,_,_,_,e,ex,_⟩:=I.hok p _ hk
   refine ⟨⟨o,e,ex.1⟩,fun a e2 => ?_⟩
   cases e2
   exact ⟨o,e,ex.2.1⟩
 | _=>exact False.elim ty
def tBM0 (K:PySem.W.Frag)(T:String)(r:V->List V->Hp->VK->Prop)(to:TE):TE:=fun σ H Q=>to σ H fun x H1=>tyV K T x H1/\r x [] H1 Q
def tBM (K:PySem.W.Frag)(T:String)(r:V->List V->Hp->VK->Prop)(to:TE)(t:TA):TE:=fun σ H Q=>to σ H fun x H1=>tyV K T x H1/\t σ H1 fun xs H2=>r x xs H2 Q
variable {o e:Expr}{es:List Expr}{to:TE}{t:TA}{name:Str}{apos cpos:Pos}{T id:String}{r:V->List V->Hp->VK->Prop}
theorem eT (pa:PlainAttrs T)(slot:Slot T name id)(hty:typeOf (.builtin id)=pure (.type "method_descriptor"))(hm:MtR X id r)(ho:PE X o to)(ha:PA X (e :: es) t)
  (hbase:attributeBase o name X.env (eval o X.env)=eval o X.env:=by rfl)
  (hfew:((backTo cpos (starEach (e :: es) X.env)).all (fun x => !x.1) && (backToKw cpos (keywordEach [] X.env)).all (fun x=>x.1.isSome)
   && decide ((e :: es).length+([]:List Keyword).length+(if ([]:List Keyword).isEmpty then 0 else 1) < 30))=true:=by rfl)
  (hline:(apos.endLine == cpos.line)=true:=by rfl) (hs:starEach (e :: es) X.env=(false,eval e X.env) :: starEach es X.env:=by rfl) (hplain:(backTo cpos (starEach es X.env)).any (·.1)=false:=by rfl) :
  PE X (.Call (.Attribute o name apos) (e :: es) [] cpos) (tBM X.K T r to t):=by
 intro pins s σ H Q I h
 refine wpAny_Call_method_late hbase hfew hline rfl (thn (ho pins s σ H _ I h) fun v s1 ⟨x,H1,I1,r1,ty,q1⟩ => ?_)
 obtain ⟨h1,h2⟩:=aDg I1 r1 ty
 refine ⟨T,id,pa,slot,hty,h1,h2,?_⟩
 have hA:=ha cpos pins s1 σ H1 _ I1 q1
 rw [hs] at hA ⊢
 refine Calls.callWith_builtin (by show (false || (backTo cpos (starEach es X.env)).any (·.1))=false; rw [hplain] <;> rfl) (Calls.evalArgs_plain ?_)
 exact thn hA fun us s2 ⟨vs,H2,I2,r2,q2⟩=>hm pins s2 σ H2 x vs v us Q I2 r1 r2 q2
end
def MtM (X:Cx)(id:String)(r:V->List V->Hp->VK->Prop):Prop :=
 ∀ (pins:List (Addr × Obj)) (s:Shared) (σ:St) (H:Hp) (x:V) (xs:List V) (v:Value) (us:List Value) (Q:VK),Inv X pins σ H s->RelV x v->Vals xs us->r x xs H Q ->
  wpAny (model X.prog X.w) X.A (call (.builtin id) (v :: us)) (EP X pins σ Q) X.xe s
theorem Vals.one : ∀ {x:V} {us:List Value},Vals [x] us->∃ u,us=[u]/\RelV x u
 | _,_,.cons r .nil=>⟨_,rfl,r⟩
theorem Vals.two : ∀ {x y:V} {us:List Value},Vals [x,y] us->∃ u v,us=[u,v]/\RelV x u/\RelV y v
 | _,_,_,.cons r (.cons q .nil)=>⟨_,_,rfl,r,q⟩
theorem Vals.rep {xs:List V}{us:List Value}(h:Vals xs us) : ∀ k:Nat,Vals (List.replicate k xs).flatten (List.replicate k us).flatten
 | 0=>.nil
 | k+1=>by
  rw [List.replicate_succ,List.replicate_succ,List.flatten_cons,List.flatten_cons]
  exact Vals.append h (Vals.rep h k)
theorem foldl_rep (its:List Value) : ∀ (k:Nat) (acc:List Value),
  List.foldl (fun x1 x2=>x1 ++ x2) acc.toArray (List.replicate k its.toArray)=(acc ++ (List.replicate k its).flatten).toArray
 | 0,acc=>by simp
 | k+1,acc=>by
  have e:acc.toArray ++ its.toArray=(acc ++ its).toArray:=by simp
  have e2:(acc ++ its) ++ (List.replicate k its).flatten=acc ++ (List.replicate (k+1) its).flatten:=by
   rw [List.replicate_succ,List.flatten_cons,List.append_assoc]
  rw [<- e2,<- foldl_rep its k (acc ++ its),<- e,List.replicate_succ,List.foldl_cons]
section
variable {X:Cx}{pins:List (Addr × Obj)}{σ:St}{H:Hp}{s:Shared}{l b:Addr}{xs ys zs:List V}
theorem Inv.lset {its its':List Value}{n:Nat}{f:Array Value->Array Value}{t':Nat}(I:Inv X pins σ H s)(hH:H l=some (.lst xs))
  (e:s.heap.get? l=some { cls:=.type "list",data:=.seq its.toArray n }) (hf:f its.toArray=its'.toArray) (hv:Vals ys its') (hz:ys.length<=sizeLine) :
  Inv X pins σ (upd H l (.lst ys)) { s with heap:=s.heap.update l (Obj.mapSeq f),toks:=t' }:=by
 have q:=PySem.IsL.update e f
 rw [hf] at q
 refine I.write (x:=l) (e:=l) (by rw [hH]; exact trivial) (.inl rfl) (fun b' u hb hu=>(Heap.get?_update_other s.heap (Obj.mapSeq f) (Ne.symm hb)).trans hu) ⟨_,q⟩ ?_
 exact ⟨hz,its',_,hv,q⟩
theorem Inv.lnew {its:List Value}{t':Nat}(I:Inv X pins σ H s)(hv:Vals ys its)(hz:ys.length<=sizeLine) :
  Inv X pins σ (upd H s.heap.objs.size (.lst ys)) { s with heap:=s.heap.push { cls:=.type "list",data:=.seq its.toArray },toks:=t' } :=
 I.laid (fun _ _ q=>Heap.get?_push_of_some _ q) (Nat.le_refl _) ⟨hz,its,0,hv,Heap.get?_push_size _ rfl⟩
theorem Inv.fresh (I:Inv X pins σ H s):H s.heap.objs.size=none:=I.hok.fresh (Nat.le_refl _)
theorem Inv.lstM (I:Inv X pins σ H s)(hH:H l=some (.lst xs)):xs.length<=sizeLine/\∃ (its:List Value) (n:Nat),Vals xs its/\xs.length=its.length/\s.heap.get? l=some { cls:=.type "list",data:=.seq its.toArray n }:=by
 obtain ⟨z,its,n,r,e⟩:=I.hok l _ hH
 exact ⟨z,its,n,r,r.length,e⟩
theorem yN {n:Nat}(h:n<=sizeLine):Builtin.List.listTooLong n=false:=by
 unfold Builtin.List.listTooLong
 exact decide_eq_false (by omega)
end
section
variable {X:Cx}
def aBq:V->List V->Hp->VK->Prop:=fun x vs H Q=>∃ l xs y,x = .ref l/\vs=[y]/\H l=some (.lst xs)/\xs.length < sizeLine/\Q .non (upd H l (.lst (xs ++ [y])))
theorem bY:MtM X "list.append" aBq:=by
 intro pins s σ H x vs v us Q I rx rv h
 obtain ⟨l,xs,y,rfl,rfl,hH,hz,q⟩:=h
 cases rx
 obtain ⟨u,rfl,ru⟩:=rv.one
 obtain ⟨z,its,n,r,hl,e⟩:=I.lstM hH
 refine call_meets F.slot_list_append ⟨_,e,rfl⟩ F.entry_list_append (F.args_list_append_2 _ _) (PySem.list_append l its.toArray n u (by rw [List.size_toArray]; omega)) ⟨e,?_⟩
 refine ⟨.non,_,I.lset (its':=its ++ [u]) hH e (by simp) (r.append (.cons ru .nil)) ?_,rfl,q⟩
 rw [List.length_append,List.length_singleton]
 omega
def aBp:V->List V->Hp->VK->Prop:=fun x vs H Q=>∃ l b xs zs,x = .ref l/\vs=[.ref b]/\H l=some (.lst xs)/\H b=some (.lst zs)/\xs.length+zs.length<=sizeLine/\Q .non (upd H l (.lst (xs ++ zs)))
theorem eX:MtM X "list.extend" aBp:=by
 intro pins s σ H x vs v us Q I rx rv h
 obtain ⟨l,b,xs,zs,rfl,rfl,hH,hB,hz,q⟩:=h
 cases rx
 obtain ⟨u,rfl,ru⟩:=rv.one
 cases ru
 obtain ⟨z,its,n,r,hl,e⟩:=I.lstM hH
 obtain ⟨z2,its2,n2,r2,hl2,e2⟩:=I.lstM hB
 have hsz:its.toArray.size+its2.toArray.size<=sizeLine:=by rw [List.size_toArray,List.size_toArray]; omega
 have hlong : ¬ (!its.toArray.isEmpty && Builtin.List.listTooLong (its.toArray.size+its2.toArray.size))=true:=by
  rw [yN hsz,Bool.and_false]
  exact Bool.false_ne_true
 refine call_meets F.slot_list_extend ⟨_,e,rfl⟩ F.entry_list_extend (F.args_list_extend_2 _ _)
  (AutoSeq1.list_extend_list_list_0 l its.toArray n b its2.toArray n2 hlong (by rw [List.size_toArray]; omega) (by omega)) ⟨e,e2,?_⟩
 refine ⟨.non,_,I.lset (its':=its ++ its2) hH e (by simp) (r.append r2) ?_,rfl,q⟩
 rw [List.length_append]
 omega
def rPop:V->List V->Hp->VK->Prop:=fun x vs H Q=>∃ l xs y,x = .ref l/\vs=[]/\H l=some (.lst xs)/\xs[xs.length - 1]?=some y/\Q y (upd H l (.lst xs.dropLast))
def rPopAt:V->List V->Hp->VK->Prop:=fun x vs H Q=>∃ l xs i k y,x = .ref l/\vs=[.int i]/\H l=some (.lst xs) /\ -(2 ^ 63)<=i/\i < 2 ^ 63/\seqIndex? i xs.length=some k/\xs[k]?=some y/\Q y (upd H l (.lst (xs.eraseIdx k)))
def rReverse:V->List V->Hp->VK->Prop:=fun x vs H Q=>∃ l xs,x = .ref l/\vs=[]/\H l=some (.lst xs)/\Q .non (upd H l (.lst xs.reverse))
def rClear:V->List V->Hp->VK->Prop:=fun x vs H Q=>∃ l xs,x = .ref l/\vs=[]/\H l=some (.lst xs)/\Q .non (upd H l (.lst []))
def rCat:R2:=fun x y H Q=>∃ l b xs zs,x = .ref l/\y = .ref b/\H l=some (.lst xs)/\H b=some (.lst zs)/\xs.length+zs.length<=sizeLine/\∀ p,H p=none->Q (.ref p) (upd H p (.lst (xs ++ zs)))
theorem qK:OpR X (binaryOp .Add) rCat:=by
 intro pins s σ H x y v u Q I rx ry h
 obtain ⟨l,b,xs,zs,rfl,rfl,hH,hB,hz,q⟩:=h
 cases rx
 cases ry
 obtain ⟨z,its,n,r,hl,e⟩:=I.lstM hH
 obtain ⟨z2,its2,n2,r2,hl2,e2⟩:=I.lstM hB
 refine PySem.P.add_list e e2 ?_ (by rw [List.size_toArray,List.size_toArray]; omega)
 have ea:its.toArray ++ its2.toArray=(its ++ its2).toArray:=by simp
 rw [ea]
 exact ⟨.ref _,_,I.lnew (t':=s.toks) (r.append r2) (by rw [List.length_append]; omega),rfl,q _ I.fresh⟩
def rRep:R2:=fun x y H Q=>∃ l k xs,x = .ref l/\y = .int k/\H l=some (.lst xs) /\ -(2 ^ 63)<=k/\k < 2 ^ 63/\xs.length*k.toNat<=sizeLine /\
 ∀ p,H p=none->Q (.ref p) (upd H p (.lst (List.replicate k.toNat xs).flatten))
theorem len_rep {α:Type}(xs:List α)(k:Nat):(List.replicate k xs).flatten.length=k*xs.length:=by
 induction k with
 | zero=>simp
 | succ k ih=>rw [List.replicate_succ,List.flatten_cons,List.length_append,ih,Nat.succ_mul,Nat.add_comm]
end
section
variable {prog:Program}{w:World}{A:Around}{E:Value->Shared->Prop}{s:Shared}
set_option maxRecDepth 100000 in
end
section
variable {X:Cx}
end
end L2
namespace Att
open PySem PySem.W PySem.Calls PyProof.Rows
theorem kA {P:Params}{h:Heap} : ∀ (ns:List Int) (vs:List Value),WellAll P h vs (ns.map WData.int)->IntsAre vs ns:=by
 intro ns
 induction ns with
 | nil =>
  intro vs w
  rw [List.map_nil] at w
  cases w
  exact .nil
 | cons n ns ih =>
  intro vs w
  rw [List.map_cons] at w
  cases w with
  | cons a b =>
   cases a
   exact .cons _ _ (ih _ b)
theorem tW {l:OpenLaw}{n:Nat}(hn:l.most=some n){P:Params}{h:Heap}{args:List WData}{vals:List Value}
  (hpre:l.row.toRowW.claim.pre args=true) (hwl:WellAll P h vals args) :
  ∃ a vs ns,vals=[Value.ref a]/\args=[WData.list (ns.map WData.int)]/\h.get? a=some { cls:=.type "list",data:=.seq vs.toArray }/\IntsAre vs ns/\ns.length<=n:=by
 have hsh:WShape.hasAll [] args [.list .int]=true:=(pre_splitW hpre).1
 have hc:l.pre.holds [] { args:=args }=true:=(pre_splitW hpre).2
 obtain ⟨d,r,rfl,h1,h2⟩:=hasAllW_cons hsh
 obtain rfl:=hasAllW_nil h2
 obtain ⟨xs,rfl,h3⟩:=hasW_list h1
 obtain ⟨ns,rfl⟩:=items_int h3
 have hlen:ns.length<=n:=by
  unfold OpenLaw.pre at hc
  have h4:(WTm.not (.lt (.lit (.int (n:Int))) (.len (.arg 0)))).holds [] { args:=[.list (ns.map .int)] }=true:=by
   have h4:=(holds_andW hc).1
   rw [hn] at h4
   exact h4
  have h5:=condW_of h4 (w_not (w_lt w_lit (w_len_list (w_arg rfl))))
  rw [List.length_map] at h5
  refine Nat.le_of_not_lt fun q => ?_
  have q':(n:Int) < ((ns.length:Nat):Int):=by omega
  first
   | (rw [decide_eq_true q'] at h5; exact absurd h5 (by decide))
   | (simp at h5; omega)
 cases hwl with
 | cons w1 w2 =>
  cases w2
  cases w1 with
  | list ho hall=>exact ⟨_,_,ns,rfl,rfl,ho,kA ns _ hall,hlen⟩
theorem uI (l:OpenLaw)(args:List WData):l.row.toRowW.claim.post args (.bool true) args=true :=
 postW_of (r:=l.row.toRowW) (X:=(true == true))
  (show WShape.has [] (.bool true) .bool=true by first | rfl | decide | simp [WShape.has,WShape.arms,WShape.armsAll])
  (show (WTm.eq .res (.lit (.bool true))).value [] { args:=args,res:=some (.bool true),after:=args }=some (.bool (true == true)) from w_eq_bool (w_res rfl) w_lit) rfl
theorem attach_call {l:OpenLaw}{n:Nat}{q:Program}{loose:List Str}{XP:(Str->Option Value)->Heap->Prop}{YP:World->Heap->Prop}{d:DefRec}
  (hn:l.most=some n) (hdf:d.params.defaults=[])
  (call : ∀ (w:World) (s₀ s₁:Shared) (mg mb:Str->Option Value) (fa:Addr) (o:Obj) (pm cd doc:Value) (a:Addr) (vs:List Value) (ns:List Int),
   Ground q loose [] XP w s₀ mg mb s₁.heap->YP w s₁.heap ->
   s₁.heap.get? fa=some o->o.data = .func (docDef d.name d.params d.body d.scope pm cd doc)->s₁.heap.CodeRec cd d.name->mg d.name=some (.ref fa) ->
   s₁.heap.get? a=some { cls:=.type "list",data:=.seq vs.toArray }->IntsAre vs ns->ns.length<=n->s₁.gens = #[] ->
   codeAny (model l.prog w) callerA (.call (.ref fa) ⟨[.ref a],[]⟩) (fun r s'=>r = .ok (.ret (.bool true))/\OldK s₁.heap s'.heap/\s'.os=s₁.os/\AllBare s'.gens) s₁) :
  WalkO q loose XP YP l.row.toRowW d [] (fun f vs=>PySem.call f vs):=by
 intro w s₀ s₁ mg mb G Y fa o pm cd doc dV kV ho hd hcd hD hmg hg args vals as hpre hlay hrd hwl hlo
 obtain rfl:dV = .none:=Dflts.none hD hdf
 obtain rfl:kV = .none:=Dflts.noKw hD
 obtain ⟨a,vs,ns,rfl,rfl,hobj,hints,hlen⟩:=tW hn hpre hwl
 refine enter_call (codeAny_mono (call w s₀ s₁ mg mb fa o pm cd doc a vs ns G Y ho (fd_plain hd) hcd hmg hobj hints hlen hg) fun r s' hq => ?_)
 obtain ⟨rfl,h2,h3,h4⟩:=hq
 exact ⟨.inl ⟨.bool true,.bool true,[],rfl,fun _=>rfl,.bool true,uI l _,fun _=>⟨List.Pairwise.nil,fun _ hm=>(nomatch hm)⟩⟩,h2,h3,h4⟩
section
variable {prog:Program}{w:World}{A:Around}{E:Value->Shared->Prop}{s:Shared}{K:Frag}
def noObjs (h:Heap):Heap:={ h with objs := #[] }
def ledger (h:Heap)(L d:Addr):List (Addr × Obj):=(List.range h.objs.size).filterMap fun a=>if a=L\/a=d then none else (h.get? a).map fun o=>(a,o)
end
end Att
namespace L2
open PySem PySem.Spec PyProof.Rows
theorem mF : ∀ {vs:List Value} {ns:List Int},IntsAre vs ns->Vals (ns.map V.int) vs
 | _,_,.nil=>.nil
 | _,_,.cons n t h=>.cons ⟨t,rfl⟩ (mF h)
def Only (H:Hp):Prop:=∀ b,H b=none\/∃ o xs,H b=some (.frz o (.lst xs))
theorem yS {P:Program}{w:World}{K:PySem.W.Frag}{mg mb:Str->Option Value}{CX:CXT}{k:Nat}{fa a:Addr}{fd:FuncData}{x:Str}{sp:Sp}{s₁:Shared}{vs:List Value}{ns:List Int}
  (KX:K.In s₁.heap) (hns:s₁.heap.Ns mainGlobals mg) (hb:s₁.heap.Ns builtinsNs mb) (hbb : ∀ x:Str,x ≠ "__name__" -> mb x=bootBuiltins x) (hlim:s₁.heap.NoLimit) (hg:s₁.gens = #[])
  (ha:s₁.heap.get? a=some { cls:=.type "list",data:=.seq vs.toArray }) (hi:IntsAre vs ns) (hl:ns.length<=sizeLine) (hr:Room k callerA)
  (F : ∀ base:Heap,K.In base->base.Ns mainGlobals mg->FnOk P w K mg base CX k fa fd [x] sp) (hbind : ∀ (s:Shared) (u:Value),BindsTo s fd ⟨[u],[]⟩ [(x,u)])
  (hsp : ∀ H:Hp,Only H->SqL K H a (ns.map V.int)->sp [.ref a] H (fun v _=>v = .bl true) fun _ _ _=>False)
  (hCX : ∀ H e s',CX [] H s₁ (fun _ _ _=>False) e s'->False) :
  codeAny (model P w) callerA (.call (.ref fa) ⟨[.ref a],[]⟩) (fun r s'=>r = .ok (.ret (.bool true))/\OldK s₁.heap s'.heap/\s'.os=s₁.os/\AllBare s'.gens) s₁:=by
 have rv:=mF hi
 have lenV:=hi.length
 have core : ∀ H:Hp,Only H->SqL K H a (ns.map V.int)->HOk P w H s₁.heap->(∀ b,H b ≠ none->b=a)->(H a ≠ none->K.lookup a=none) ->
   codeAny (model P w) callerA (.call (.ref fa) ⟨[.ref a],[]⟩) (fun r s'=>r = .ok (.ret (.bool true))/\OldK s₁.heap s'.heap/\s'.os=s₁.os/\AllBare s'.gens) s₁:=by
  intro H hO hS hok hA hK
  have base_of : ∀ {b:Addr} {o:Obj},s₁.heap.get? b=some o->H b=none->(hidT s₁.heap H).get? b=some o:=fun e n=>yV e n
  have noA : ∀ {b:Addr} {o:Obj} {es:Array DictEntry} {ep:Nat},s₁.heap.get? b=some o->o.data = .dict es ep->H b=none:=fun {b o es ep} e d=>by
   cases q:H b with
   | none=>rfl
   | some u =>
    have e':b=a:=hA b (by rw [q]; simp)
    subst e'
    rw [ha] at e; cases e
    have d':Data.seq vs.toArray _=Data.dict es ep:=d
    cases d'
  have nsK : ∀ {b:Addr} {m:Str->Option Value},s₁.heap.Ns b m->(hidT s₁.heap H).Ns b m:=fun {b m} ⟨o,es,ep,e,d,r⟩=>⟨o,es,ep,base_of e (noA e d),d,r⟩
  have hKb:K.In (hidT s₁.heap H):=fun b o e=>base_of (KX b o e) (by
   cases q:H b with
   | none=>rfl
   | some u =>
    have e':b=a:=hA b (by rw [q]; simp)
    subst e'
    rw [hK (by rw [q]; simp)] at e; cases e)
  have hM:Mod K mg (hidT s₁.heap H):=⟨hKb,nsK hns,⟨mb,nsK hb,hbb⟩,let ⟨mc,h1,h2⟩:=hlim; ⟨mc,nsK h1,h2⟩⟩
  have e0:Env0 P w K mg (hidT s₁.heap H) callerA [] s₁ H:=⟨rfl,hM,fun b o e=>aCo e,Nat.le_of_eq (vL _ _),trivial,fun b hb=>absurd (show b ∈ ([]:List Addr) from hb) (by simp),hok,.of_eq hg⟩
  refine codeAny_mono ((F _ hKb (nsK hns)).run callerA [] s₁ H ⟨[.ref a],[]⟩ [.ref a] [.ref a] _ _ hr e0 (hbind s₁ (.ref a)) (.cons rfl .nil) (hsp H hO hS)) fun r s' h => ?_
  cases r with
  | error e=>exact (hCX H e s' h).elim
  | ok fl =>
   cases fl with
   | next=>exact False.elim h
   | brk=>exact False.elim h
   | cont=>exact False.elim h
   | ret u =>
    obtain ⟨v,H',os,bare,un,hok',r',q⟩:=h
    have q':v = .bl true:=q
    subst q'
    obtain rfl:u=Value.bool true:=r'
    refine ⟨rfl,OldK.of_keep fun b o e => ?_,os,bare⟩
    cases q:H b with
    | none=>exact un.keep b o e q (by intro z; exact absurd (show b ∈ ([]:List Addr) from z) (by simp)) (by simp)
    | some u =>
     rcases hO b with z | ⟨ob,xs,z⟩
     ·rw [q] at z; cases z
     ·have z2:=un.frzs b ob _ z
      obtain ⟨e1,_⟩:=hok b _ z
      obtain ⟨e2,_⟩:=hok' b _ z2
      rw [e] at e1; cases e1
      exact e2
 cases hk:K.lookup a with
 | some o =>
  have e:=KX a o hk
  rw [ha] at e
  cases e
  refine core (fun _=>none) (fun _=>.inl rfl) (.inr ⟨_,vs.toArray,_,hk,rfl,rfl,rfl,by rw [List.size_toArray,lenV]; exact hl,by simpa using rv⟩) (fun b u z=>by have z':(none:Option HO)=some u:=z; cases z') (fun b z=>absurd rfl z) fun z=>absurd rfl z
 | none =>
  refine core (fun b=>if b=a then some (.frz { cls:=.type "list",data:=.seq vs.toArray } (.lst (ns.map V.int))) else none) (fun b => ?_) (.inl (.inr ⟨{ cls:=.type "list",data:=.seq vs.toArray },if_pos rfl⟩)) (fun b u z => ?_) (fun b z => ?_) fun _=>hk
  ·by_cases hb:b=a
   ·exact .inr ⟨_,_,if_pos hb⟩
   ·exact .inl (if_neg hb)
  ·by_cases hb:b=a
   ·have z':=(if_pos hb).symm.trans z
    cases z'
    subst hb
    exact ⟨ha,by rw [List.length_map]; exact hl,vs,_,rv,ha⟩
   ·have z':=(if_neg hb).symm.trans z
    cases z'
  ·by_cases hb:b=a
   ·exact hb
   ·exact absurd (if_neg hb) z
abbrev KOf {K:PySem.W.Frag}{h:Heap}(_:K.In h):PySem.W.Frag:=K
theorem walk_of {l:PySem.W.OpenLaw}{n k:Nat}{q:Program}{loose:List Str}{XP:(Str->Option Value)->Heap->Prop}{YP:World->Heap->Prop}{d:DefRec}{K:Params->PySem.W.Frag}{CX:World->CXT}{sp:World->Sp}{x:Str}
  (hn:l.most=some n) (hn2:n<=sizeLine) (hdf:d.params.defaults=[]) (hr:Room k callerA)
  (hY : ∀ (w:World) (h:Heap),YP w h->(K w.params).In h)
  (F : ∀ (w:World) (mg:Str->Option Value) (fa:Addr) (h:Heap),(K w.params).In h->h.Ns mainGlobals mg->mg d.name=some (.ref fa) ->
   ∃ fd:FuncData,(∀ (s:Shared) (u:Value),BindsTo s fd ⟨[u],[]⟩ [(x,u)]) /\
    ∀ base:Heap,(K w.params).In base->base.Ns mainGlobals mg->FnOk l.prog w (K w.params) mg base (CX w) k fa fd [x] (sp w))
  (hsp : ∀ (w:World) (H:Hp) (a:Addr) (ns:List Int),ns.length<=n->Only H->SqL (K w.params) H a (ns.map V.int)->sp w [.ref a] H (fun v _=>v = .bl true) fun _ _ _=>False)
  (hCX : ∀ (w:World) (H:Hp) (s:Shared) (e:Value) (s':Shared),CX w [] H s (fun _ _ _=>False) e s'->False) :
  PySem.W.WalkO q loose XP YP l.row.toRowW d [] (fun f vs=>PySem.call f vs):=by
 refine Att.attach_call hn hdf fun w s₀ s₁ mg mb fa o pm cd doc a vs ns G Y ho hd hcd hmg hobj hints hlen hg => ?_
 have KX:=hY w _ Y
 obtain ⟨fd,hb,hF⟩:=F w mg fa _ KX G.T.g hmg
 exact yS KX G.T.g G.T.b G.T.builtins G.T.nolimit hg hobj hints (Nat.le_trans hlen hn2) hr hF hb (fun H hO hS=>hsp w H a ns hlen hO hS) fun H e s'=>hCX w H s₁ e s'
def aCt (s:Stmt)(j:Nat):Stmt:=match s with
 | .ClassDef _ _ _ body _ _ _ _ _ _ _=>body.getD j (.Pass ⟨0,0,0,0⟩)
 | _=>.Pass ⟨0,0,0,0⟩
def dJ (s:Stmt):Arguments:=match s with
 | .FunctionDef _ a _ _ _ _ _ _ _ _=>a
 | _=>{ posonlyargs:=[],args:=[],vararg:=none,kwonlyargs:=[],kw_defaults:=[],kwarg:=none,defaults:=[] }
def dB (s:Stmt):List Stmt:=match s with
 | .FunctionDef _ _ b _ _ _ _ _ _ _=>b
 | _=>[]
def aG (s:Stmt):Scope:=match s with
 | .FunctionDef _ _ _ _ _ _ sc _ _ _=>sc
 | _=>{ kind:=.function,names:=[],isGenerator:=false,isCoroutine:=false }
abbrev CX0:CXT:=fun _ _ _ _ _ _=>False
abbrev E0:XK:=fun _ _ _=>False
theorem aQ {X:Cx}:gG CX0 X E0:=fun _ _ _ _ _ _ _ h=>h.elim
structure Fun (K:PySem.W.Frag)(x qual:Str)(st:Stmt)(f:Addr)(fd:FuncData):Prop where
 ex : ∃ (oc:Value) (od:Option Addr) (kV doc pm:Value) (an:Option Addr) (cdv ct:Value) (osl:Array (Option Value)),
  fd=PySem.W.fnOf x qual (dJ st) (dB st) (aG st) .none kV doc pm an cdv ct/\K.lookup f=some ⟨oc,od,.func fd,osl⟩/\PySem.W.codeIn K cdv qual=true
 kp:PySem.W.keepIn K (.ref f)=true
section
variable {P:Program}{w:World}{K:PySem.W.Frag}{mg:Str->Option Value}{base:Heap}
theorem Fun.ok {x qual:Str}{st:Stmt}{f:Addr}{fd:FuncData}{N ps:List Str}{k:Nat}{sp:Sp}(F:Fun K x qual st f fd)(S:FnScope N ps (aG st))(len : ∀ vs H Q E,sp vs H Q E->vs.length=ps.length)
  (hbody : ∀ (cdv:Value) (A:Around) (outer:List Env) (s:Shared) (H:Hp) (vs:List V) (Q:VK) (E:XK),Room k (A.deeper (envOfC qual (aG st) s.heap.objs.size f cdv))->sp vs H Q E ->
   ∃ t,PSs (cxOf CX0 P w K mg base N qual (aG st) f cdv A outer s H E).nox (dB st) t/\t { nx:=fun _ H'=>Q .non H',rt:=Q } (mK N vs) H):FnOk P w K mg base CX0 (k+1) f fd ps sp:=by
 obtain ⟨oc,od,kV,doc,pm,an,cdv,ct,osl,rfl,lk,hcd⟩:=F.ex
 refine aFi lk hcd S len fun A outer s H vs Q E hr hsp => ?_
 obtain ⟨t,h,q⟩:=hbody cdv A outer s H vs Q E hr hsp
 exact ⟨t,h.nox,q⟩
theorem Fun.binds {x qual:Str}{st:Stmt}{f:Addr}{fd:FuncData}{ps:List Str}(F:Fun K x qual st f fd)
  (h : ∀ (kV doc pm:Value) (an:Option Addr) (cdv ct:Value) (us:List Value),us.length=ps.length->bindArgs (PySem.W.fnOf x qual (dJ st) (dB st) (aG st) .none kV doc pm an cdv ct) ⟨us,[]⟩=pure (ps.zip us)):Binds K fd ps []:=by
 obtain ⟨oc,od,kV,doc,pm,an,cdv,ct,osl,rfl,lk,hcd⟩:=F.ex
 exact .all (h kV doc pm an cdv ct)
theorem nQ {x qual:Str}{st:Stmt}{f:Addr}{oc:Value}{od an:Option Addr}{osl:Array (Option Value)}{kV doc pm cdv ct:Value}(l:K.lookup f=some ⟨oc,od,.func (PySem.W.fnOf x qual (dJ st) (dB st) (aG st) .none kV doc pm an cdv ct),osl⟩)
  (c:PySem.W.codeIn K cdv qual=true) (k:PySem.W.keepIn K (.ref f)=true):Fun K x qual st f (PySem.W.fnOf x qual (dJ st) (dB st) (aG st) .none kV doc pm an cdv ct):=⟨⟨oc,od,kV,doc,pm,an,cdv,ct,osl,rfl,l,c⟩,k⟩
end
theorem fO {A:Around}{k:Nat}(hr:Room k A):A.units+1 < cLine:=Nat.lt_of_le_of_lt (Nat.add_le_add_left (by decide:1<=64) _) hr.units
theorem aX {n:Nat}(h:n<=1000):n < sizeLine:=Nat.lt_of_le_of_lt h (by decide)
section
variable {X:Cx}
theorem pv (i:Nat){x:Str}{pos:Pos}(hN:X.N[i]?=some x:=by rfl)(hv:Vis X.env.scope x:=by first | exact Or.inl rfl | exact Or.inr (Or.inl rfl) | exact Or.inr (Or.inr rfl))(hd:(x == ("__debug__" : Str))=false:=by decide)
  (hcd:(x == ("__classdict__" : Str))=false:=by decide):PE X (.Name x pos) (tVar i):=qI hN hv hd hcd
end
theorem iteF {A B:Prop}(h:B):if false=true then A else B:=by
 rw [if_neg Bool.false_ne_true]
 exact h
theorem iteT {A B:Prop}(h:A):if true=true then A else B:=by
 rw [if_pos rfl]
 exact h
theorem ite2 {c A B:Prop}[Decidable c](h1:c->A)(h2 : ¬ c->B):if c then A else B:=by
 by_cases h:c
 ·rw [if_pos h]
  exact h1 h
 ·rw [if_neg h]
  exact h2 h
def Same (H H':Hp):Prop:=∀ b o,H b=some o->H' b=some o
theorem Same.refl (H:Hp):Same H H:=fun _ _ h=>h
theorem Same.trans {H H1 H2:Hp}(a:Same H H1)(b:Same H1 H2):Same H H2:=fun c o h=>b c o (a c o h)
theorem Same.seq {K:PySem.W.Frag}{H H':Hp}{a:Addr}{xs:List V}(e:Same H H')(h:SqL K H a xs):SqL K H' a xs:=by
 rcases h with (h | ⟨o,h⟩) | h
 ·exact .inl (.inl (e _ _ h))
 ·exact .inl (.inr ⟨o,e _ _ h⟩)
 ·exact .inr h
end L2
namespace GM
def G (a b:Int):Int:=(Int.gcd a b:Int)
theorem aAv {a:Int}(h:0<=a):G a 0=a:=by
 unfold G
 rw [Int.gcd_zero_right]
 omega
theorem aFs (a b:Int):G b (a % b)=G a b:=by
 unfold G
 congr 1
 have e:a % b=a - b*(a / b):=by
  have:=Int.emod_add_mul_ediv a b
  omega
 rw [e,Int.gcd_sub_mul_left_right,Int.gcd_comm]
theorem aC5 {a b:Int}(h:0 < b):0 < G a b:=by
 unfold G
 have:0 < Int.gcd a b:=Int.gcd_pos_of_ne_zero_right a (by omega)
 omega
theorem aC6 (a b:Int):G a b ∣ a:=Int.gcd_dvd_left a b
theorem pS (a b:Int):G a b ∣ b:=Int.gcd_dvd_right a b
theorem aFt {a b:Int}(h:0 < b):G a b<=b:=Int.le_of_dvd h (pS a b)
structure Amt (t b:Int):Prop where
 t0:0<=t
 b1:1<=b
 g:G t b=1
theorem pK {t b:Int}(h0:0<=t)(h1:1<=b):Amt (t / G t b) (b / G t b):=by
 have gp:=aC5 (a:=t) (b:=b) (by omega)
 refine ⟨Int.ediv_nonneg h0 (by omega),Int.ediv_pos_of_pos_of_dvd (by omega) (by omega) (pS t b),?_⟩
 unfold G at *
 have:=Int.gcd_ediv_gcd_ediv_gcd (i:=t) (j:=b) (by omega)
 omega
theorem aE8 (t b:Int):t / G t b*G t b=t:=Int.ediv_mul_cancel (aC6 t b)
theorem aCq (t b:Int):b / G t b*G t b=b:=Int.ediv_mul_cancel (pS t b)
theorem vS {t b x:Int}(h:Amt t b)(d:b ∣ t*x):b ∣ x:=by
 have g1:Int.gcd b t=1:=by have:=h.g; unfold G at this; rw [Int.gcd_comm]; omega
 have:=Int.dvd_gcd_mul_iff_dvd_mul.mpr d
 rw [g1] at this
 simpa using this
theorem sQ {t b t' b':Int}(h:Amt t b)(h':Amt t' b')(e:t*b'=t'*b):t=t'/\b=b':=by
 have d1:b ∣ b':=vS h ⟨t',by rw [e,Int.mul_comm]⟩
 have d2:b' ∣ b:=vS h' ⟨t,by rw [<- e,Int.mul_comm]⟩
 have p:=h.b1
 have p':=h'.b1
 have eb:b=b':=Int.dvd_antisymm (by omega) (by omega) d1 d2
 subst eb
 exact ⟨Int.eq_of_mul_eq_mul_right (by omega) e,rfl⟩
theorem jZ (t b:Int):t / G t b*b=t*(b / G t b):=by
 have e1:=aE8 t b
 have e2:=aCq t b
 calc t / G t b*b=t / G t b*(b / G t b*G t b):=by rw [e2]
  _=t / G t b*G t b*(b / G t b):=by rw [Int.mul_comm (b / G t b),Int.mul_assoc]
  _=t*(b / G t b):=by rw [e1]
theorem pQ {t:Int}(h:0<=t):Amt t 1:=by
 refine ⟨h,by omega,?_⟩
 unfold G
 rw [Int.gcd_one_right]
 rfl
theorem iQ {t b x y:Int}(h0:0<=t)(h1:1<=b)(h:Amt x y)(e:x*b=t*y):t / G t b=x/\b / G t b=y:=by
 have a:=pK h0 h1
 refine sQ a h ?_
 have c:=jZ t b
 have gp:=aC5 (a:=t) (b:=b) (by omega)
 have e1:=aE8 t b
 have e2:=aCq t b
 refine Int.eq_of_mul_eq_mul_right (a:=G t b) (by omega) ?_
 calc t / G t b*y*G t b=t / G t b*G t b*y:=by rw [Int.mul_assoc,Int.mul_comm y,<- Int.mul_assoc]
  _=x*b:=by rw [e1,e]
  _=x*(b / G t b)*G t b:=by rw [Int.mul_assoc,e2]
end GM
namespace L2
open PySem PySem.Spec PyProof.Rows
inductive Isi (K:PySem.W.Frag)(H:Hp):V->String->Bool->Prop where
 | int_int {n}:Isi K H (.int n) "int" true
 | int_bool {n}:Isi K H (.int n) "bool" false
 | int_tuple {n}:Isi K H (.int n) "tuple" false
 | int_str {n}:Isi K H (.int n) "str" false
 | int_list {n}:Isi K H (.int n) "list" false
 | bl_int {b}:Isi K H (.bl b) "int" true
 | bl_bool {b}:Isi K H (.bl b) "bool" true
 | bl_tuple {b}:Isi K H (.bl b) "tuple" false
 | bl_str {b}:Isi K H (.bl b) "str" false
 | str_int {x}:Isi K H (.str x) "int" false
 | str_bool {x}:Isi K H (.str x) "bool" false
 | str_tuple {x}:Isi K H (.str x) "tuple" false
 | str_str {x}:Isi K H (.str x) "str" true
 | non_int:Isi K H .non "int" false
 | non_str:Isi K H .non "str" false
 | non_tuple:Isi K H .non "tuple" false
 | tup_tuple {a xs}:SqT K H a xs->Isi K H (.ref a) "tuple" true
 | tup_int {a xs}:SqT K H a xs->Isi K H (.ref a) "int" false
 | tup_str {a xs}:SqT K H a xs->Isi K H (.ref a) "str" false
 | tup_list {a xs}:SqT K H a xs->Isi K H (.ref a) "list" false
 | lst_tuple {a xs}:SqL K H a xs->Isi K H (.ref a) "tuple" false
 | lst_int {a xs}:SqL K H a xs->Isi K H (.ref a) "int" false
 | lst_str {a xs}:SqL K H a xs->Isi K H (.ref a) "str" false
 | lst_list {a xs}:SqL K H a xs->Isi K H (.ref a) "list" true
section
variable {X:Cx}
theorem fQ:hZ X (.builtin "isinstance") (fun xs H Q=>∃ x T b,xs=[x,.ty T]/\Isi X.K H x T b/\Q (.bl b) H):=by
 intro pins s σ H xs us Q I r h
 obtain ⟨x,T,b,rfl,hi,q⟩:=h
 obtain ⟨u,w',rfl,rx,ry⟩:=wS r
 cases ry
 have f1:EP X pins σ Q (.bool b) s:=⟨.bl b,H,I,rfl,q⟩
 have f2:EP X pins σ Q (.bool b) { s with toks:=s.toks+1 }:=⟨.bl b,H,I.tok _,rfl,q⟩
 cases hi with
 | int_int=>obtain ⟨t,rfl⟩:=rx; exact IsiPair.int_int f1
 | int_bool=>obtain ⟨t,rfl⟩:=rx; exact IsiPair.int_bool f2
 | int_tuple=>obtain ⟨t,rfl⟩:=rx; exact IsiPair.int_tuple f2
 | int_str=>obtain ⟨t,rfl⟩:=rx; exact IsiPair.int_str f2
 | int_list=>obtain ⟨t,rfl⟩:=rx; exact IsiPair.int_list f2
 | bl_int=>cases rx; exact IsiPair.bool_int f1
 | bl_bool=>cases rx; exact IsiPair.bool_bool f1
 | bl_tuple=>cases rx; exact IsiPair.bool_tuple f2
 | bl_str=>cases rx; exact IsiPair.bool_str f2
 | str_int=>obtain ⟨t,rfl⟩:=rx; exact IsiPair.str_int f2
 | str_bool=>obtain ⟨t,rfl⟩:=rx; exact IsiPair.str_bool f2
 | str_tuple=>obtain ⟨t,rfl⟩:=rx; exact IsiPair.str_tuple f2
 | str_str=>obtain ⟨t,rfl⟩:=rx; exact IsiPair.str_str f1
 | non_int=>cases rx; exact IsiPair.NoneType_int f2
 | non_str=>cases rx; exact IsiPair.NoneType_str f2
 | non_tuple=>cases rx; exact IsiPair.NoneType_tuple f2
 | tup_tuple hq=>cases rx; obtain ⟨its,_,⟨o,e,c,_⟩,_⟩:=I.tuple hq; exact IsiPair.tuple_tuple e c f1
 | tup_int hq=>cases rx; obtain ⟨its,_,⟨o,e,c,_⟩,_⟩:=I.tuple hq; exact IsiPair.tuple_int e c f2
 | tup_str hq=>cases rx; obtain ⟨its,_,⟨o,e,c,_⟩,_⟩:=I.tuple hq; exact IsiPair.tuple_str e c f2
 | tup_list hq=>cases rx; obtain ⟨its,_,⟨o,e,c,_⟩,_⟩:=I.tuple hq; exact IsiPair.tuple_list e c f2
 | lst_tuple hq=>cases rx; obtain ⟨its,_,⟨o,n,e,c,_⟩,_⟩:=I.list hq; exact IsiPair.list_tuple e c f2
 | lst_int hq=>cases rx; obtain ⟨its,_,⟨o,n,e,c,_⟩,_⟩:=I.list hq; exact IsiPair.list_int e c f2
 | lst_str hq=>cases rx; obtain ⟨its,_,⟨o,n,e,c,_⟩,_⟩:=I.list hq; exact IsiPair.list_str e c f2
 | lst_list hq=>cases rx; obtain ⟨its,_,⟨o,n,e,c,_⟩,_⟩:=I.list hq; exact IsiPair.list_list e c f1
inductive DEq (K:PySem.W.Frag)(H:Hp):Nat->V->V->Bool->Prop where
 | flat {n x y}:eY x=true->eY y=true->DEq K H n x y (eqV x y)
 | same {n a}:DEq K H n (.ref a) (.ref a) true
 | tup {n a b xs ys} {e:Nat->Bool}:a ≠ b->SqT K H a xs->SqT K H b ys->(∀ (j:Nat) x y,xs[j]?=some x->ys[j]?=some y->DEq K H n x y (e j)) ->
   DEq K H (n+1) (.ref a) (.ref b) ((List.range (min xs.length ys.length)).all e && xs.length == ys.length)
 | lst {n a b xs ys} {e:Nat->Bool}:a ≠ b->SqL K H a xs->SqL K H b ys->(∀ (j:Nat) x y,xs[j]?=some x->ys[j]?=some y->DEq K H n x y (e j)) ->
   DEq K H (n+1) (.ref a) (.ref b) ((List.range (min xs.length ys.length)).all e && xs.length == ys.length)
theorem tD {pins:List (Addr × Obj)}{σ:St}{H:Hp}{s:Shared}(I:Inv X pins σ H s){A:Around}{a b:Addr}{xs ys:List V}{e:Nat->Bool}(hx:SqT X.K H a xs)(hy:SqT X.K H b ys)(hu:A.units < cLine)
  (hd : ∀ (j:Nat) x y u v,xs[j]?=some x->ys[j]?=some y->RelV x u->RelV y v->SeqAt.EqAt A.in1 s u v (e j)) :
  SeqAt.RcAt A s (.ref a) (.ref b) ((List.range (min xs.length ys.length)).all e && xs.length == ys.length):=by
 obtain ⟨its,r,tx,_⟩:=I.tuple hx
 obtain ⟨its',r',ty,_⟩:=I.tuple hy
 have l1:=r.length
 have l2:=r'.length
 have q:=SeqAt.RcAt.tuples (A:=A) (e:=e) tx ty hu (fun j h1 h2 => ?_)
 ·rw [List.size_toArray,List.size_toArray,<- l1,<- l2] at q
  exact q
 ·rw [List.size_toArray] at h1 h2
  obtain ⟨x,hxj⟩ : ∃ x,xs[j]?=some x:=⟨_,List.getElem?_eq_getElem (by omega)⟩
  obtain ⟨y,hyj⟩ : ∃ y,ys[j]?=some y:=⟨_,List.getElem?_eq_getElem (by omega)⟩
  obtain ⟨u1,hu1,ru1⟩:=r.get hxj
  obtain ⟨u2,hu2,ru2⟩:=r'.get hyj
  have e1:its.toArray[j]=u1:=by
   have:=(List.getElem?_eq_some_iff.mp hu1).2
   simpa using this
  have e2:its'.toArray[j]=u2:=by
   have:=(List.getElem?_eq_some_iff.mp hu2).2
   simpa using this
  rw [e1,e2]
  exact hd j x y u1 u2 hxj hyj ru1 ru2
theorem bK {h:Heap}{a:Addr}{its:Array Value}(p:PlainL h a its):h.IsList a its:=by
 obtain ⟨o,n,e,c,_,d⟩:=p
 exact ⟨o,e,c,n,d⟩
theorem vB {pins:List (Addr × Obj)}{σ:St}{H:Hp}{s:Shared}(I:Inv X pins σ H s){A:Around}{a b:Addr}{xs ys:List V}{e:Nat->Bool}(hx:SqL X.K H a xs)(hy:SqL X.K H b ys)(hu:A.units < cLine)
  (hd : ∀ (j:Nat) x y u v,xs[j]?=some x->ys[j]?=some y->RelV x u->RelV y v->SeqAt.EqAt A.in1 s u v (e j)) :
  SeqAt.RcAt A s (.ref a) (.ref b) ((List.range (min xs.length ys.length)).all e && xs.length == ys.length):=by
 obtain ⟨its,r,tx,_⟩:=I.list hx
 obtain ⟨its',r',ty,_⟩:=I.list hy
 have l1:=r.length
 have l2:=r'.length
 by_cases hl:xs.length=ys.length
 ·have q:=SeqAt.RcAt.lists (A:=A) (e:=e) (bK tx) (bK ty) (by rw [List.size_toArray,List.size_toArray]; omega) hu (fun j h1 h2 => ?_)
  ·rw [List.size_toArray,<- l1] at q
   have e1:((List.range (min xs.length ys.length)).all e && xs.length == ys.length)=(List.range xs.length).all e:=by
    rw [<- hl,Nat.min_self,beq_self_eq_true,Bool.and_true]
   rw [e1]
   exact q
  ·rw [List.size_toArray] at h1 h2
   obtain ⟨x,hxj⟩ : ∃ x,xs[j]?=some x:=⟨_,List.getElem?_eq_getElem (by omega)⟩
   obtain ⟨y,hyj⟩ : ∃ y,ys[j]?=some y:=⟨_,List.getElem?_eq_getElem (by omega)⟩
   obtain ⟨u1,hu1,ru1⟩:=r.get hxj
   obtain ⟨u2,hu2,ru2⟩:=r'.get hyj
   have e1:its.toArray[j]=u1:=by
    have:=(List.getElem?_eq_some_iff.mp hu1).2
    simpa using this
   have e2:its'.toArray[j]=u2:=by
    have:=(List.getElem?_eq_some_iff.mp hu2).2
    simpa using this
   rw [e1,e2]
   exact hd j x y u1 u2 hxj hyj ru1 ru2
 ·have q:=SeqAt.RcAt.lists_lengths (A:=A) (bK tx) (bK ty) (by rw [List.size_toArray,List.size_toArray,<- l1,<- l2,bne_iff_ne]; exact hl) hu
  have e1:((List.range (min xs.length ys.length)).all e && xs.length == ys.length)=false:=by
   rw [beq_eq_false_iff_ne.mpr hl,Bool.and_false]
  rw [e1]
  exact q
theorem DEq.at {pins:List (Addr × Obj)}{σ:St}{H:Hp}{s:Shared}(I:Inv X pins σ H s){n:Nat}{x y:V}{k:Bool}(d:DEq X.K H n x y k) : ∀ {A:Around} {u v:Value},A.units+n < cLine->RelV x u->RelV y v->SeqAt.EqAt A s u v k:=by
 induction d with
 | flat fx fy=>intro A u v _ rx ry; exact aAo rx ry fx fy
 | same=>intro A u v _ rx ry; cases rx; cases ry; exact SeqAt.EqAt.same _
 | @tup n a b xs ys e hne hx hy hd ih =>
  intro A u v hu rx ry
  cases rx; cases ry
  exact SeqAt.EqAt.of_refs hne (tD I hx hy (by omega) fun j x y u v h1 h2 r1 r2=>ih j x y h1 h2 (by show A.units+1+n < cLine; omega) r1 r2)
 | @lst n a b xs ys e hne hx hy hd ih =>
  intro A u v hu rx ry
  cases rx; cases ry
  exact SeqAt.EqAt.of_refs hne (vB I hx hy (by omega) fun j x y u v h1 h2 r1 r2=>ih j x y h1 h2 (by show A.units+1+n < cLine; omega) r1 r2)
def rEqT (K:PySem.W.Frag):R2:=fun x y H Q=>∃ a b xs ys,∃ e:Nat->Bool,x = .ref a/\y = .ref b/\SqT K H a xs/\SqT K H b ys/\(∀ (j:Nat) x y,xs[j]?=some x->ys[j]?=some y->DEq K H 40 x y (e j)) /\
 Q (.bl ((List.range (min xs.length ys.length)).all e && xs.length == ys.length)) H
def rNeT (K:PySem.W.Frag):R2:=fun x y H Q=>∃ a b xs ys,∃ e:Nat->Bool,x = .ref a/\y = .ref b/\SqT K H a xs/\SqT K H b ys/\(∀ (j:Nat) x y,xs[j]?=some x->ys[j]?=some y->DEq K H 40 x y (e j)) /\
 Q (.bl (!((List.range (min xs.length ys.length)).all e && xs.length == ys.length))) H
theorem aAi (hu:X.A.units+64 < cLine):OpR X (compareOp .Eq) (rEqT X.K):=by
 intro pins s σ H x y v u Q I rx ry h
 obtain ⟨a,b,xs,ys,e,rfl,rfl,hx,hy,hd,q⟩:=h
 cases rx; cases ry
 exact tD I hx hy (by omega) (fun j x y u v h1 h2 r1 r2=>(hd j x y h1 h2).at I (by show X.A.units+1+40 < cLine; omega) r1 r2) X.prog X.w X.xe _ ⟨.bl _,H,I,rfl,q⟩
end
theorem iX {prog:Program}{w:World}{A:Around}{R:Result->Shared->Prop}{s:Shared}{elt target iter:Expr}{ifs:List Expr}{scope:Scope}{pos:Pos}{it acc:Value}{env:Env}(I:Nat->Shared->Prop)
  (turn : ∀ n s,I n s->wpAny (model prog w) A (pyNext it) (fun r s₁=>match r with
   | none=>R (.ok .next) s₁
   | some v=>wpAny (model prog w) A (letOwnedTupleGo target it v) (fun _ s₁'=>wpAny (model prog w) A (assign target env v) (fun _ s₂ =>
     wpAny (model prog w) A (forIn ifs true fun c r=>if r=true then do let ok <- isTrue c env (eval c env); pure (ForInStep.yield ok) else pure (ForInStep.yield r)) (fun ok s₃ =>
      if ok=true then wpAny (model prog w) A (eval elt env) (fun x s₄ =>
       wpAny (model prog w) A (call (.builtin "list.append") [acc,x]) (fun _ s₅=>∃ m,m < n/\I m s₅) (fun _ _=>False) s₄) (fun _ _=>False) s₃
      else ∃ m,m < n/\I m s₃) (fun _ _=>False) s₂) (fun _ _=>False) s₁') (fun _ _=>False) s₁) (fun _ _=>False) s)
  (n:Nat) (h:I n s):codeAny (model prog w) A (.compLoop (.ListComp elt [⟨target,iter,ifs,0⟩] scope pos) 0 it acc env) R s:=by
 refine codeAny_loop rfl I (fun n s hI => ?_) n h
 show wpAny _ A ((compTurn (.ListComp elt [⟨target,iter,ifs,0⟩] scope pos) 0 it acc env).onRaise (fun x=>do noteFrame x env; theTreesLotGoes x)) _ _ s
 refine wpAny_noted ?_
 rw [compTurn_list]
 refine wpAny_bind (wpAny_standAt (wpAny_bind (wpAny_mono (turn n s hI) (fun r s₁ h₁ => ?_) fun _ _ z=>z.elim)))
 cases r with
 | none=>exact wpAny_pure h₁
 | some v =>
  refine wpAny_bind (wpAny_mono h₁ (fun _ s₁' h₁' => ?_) fun _ _ z=>z.elim)
  refine wpAny_bind (wpAny_mono h₁' (fun _ s₂ h₂=>wpAny_bind (wpAny_mono h₂ (fun ok s₃ h₃ => ?_) fun _ _ z=>z.elim)) fun _ _ z=>z.elim)
  cases ok with
  | false=>exact wpAny_pure ⟨rfl,h₃⟩
  | true =>
   exact wpAny_bind (wpAny_bind (wpAny_mono h₃ (fun x s₄ h₄=>wpAny_bind (wpAny_mono h₄ (fun _ s₅ h₅=>wpAny_pure (wpAny_pure ⟨rfl,h₅⟩)) fun _ _ z=>z.elim)) fun _ _ z=>z.elim))
def blk (X:Cx)(N':List Str)(scope:Scope)(cl:List (Str × Addr))(C:Addr)(s₀:Shared)(H₀:Hp)(ex:List Addr)(pn:List (Addr × Obj)):Cx where
 prog:=X.prog
 w:=X.w
 K:=X.K
 mg:=X.mg
 base:=X.base
 A:=X.A
 N:=N'
 s₀:=s₀
 H₀:=H₀
 env:=compEnvC scope cl C X.env
 outer:=X.stack
 stack:=X.stack
 ex:=ex
 fn:=fun _=>false
 calm:=X.calm
 pn:=pn
 xe:=fun _ _=>False
structure ClOk (X:Cx)(scope:Scope)(cl:List (Str × Addr)):Prop where
 run:closureFor scope X.env=pure cl
 sub : ∀ x c,cl.lookup x=some c->X.env.cells.lookup x=some c
 has : ∀ x,((relabel scope X.env).names.lookup x=some .cell\/(relabel scope X.env).names.lookup x=some .free)->∃ c,cl.lookup x=some c
structure BlkN (X:Cx)(N':List Str)(scope:Scope)(cl:List (Str × Addr))(σ σ':St):Prop where
 len:σ'.length=N'.length
 from' : ∀ (i:Nat) (x:Str) (v:V),N'[i]?=some x->σ'[i]?=some (some v)->∃ j:Nat,X.N[j]?=some x/\σ[j]?=some (some v)/\Vis X.env.scope x/\X.env.kindOf x ≠ some .local /\
  ((relabel scope X.env).names.lookup x=some .cell\/(relabel scope X.env).names.lookup x=some .free)
section
variable {X:Cx}{pins:List (Addr × Obj)}{σ σ':St}{H:Hp}{s:Shared}
theorem oB {N':List Str}{scope:Scope}{cl:List (Str × Addr)}{fp:List Addr}{h₁:Heap}{t':Nat}(I:Inv X pins σ H s)(hkind:scope.kind = .function)(hcl:ClOk X scope cl)(hN:BlkN X N' scope cl σ σ')(hf : ∀ b ∈ fp,FpOk X pins H b)(hfo : ∀ b ∈ fp,b < s.heap.objs.size)
  (hns:h₁.Ns s.heap.objs.size (fun _=>none)) (hk : ∀ b o,s.heap.get? b=some o->h₁.get? b=some o) :
  Inv (blk X N' scope cl s.heap.objs.size s H fp (X.pn ++ pins)) [] σ' H { s with heap:=h₁,toks:=t' }:=by
 have hfs : ∀ b,b ∉ (X.env.locals :: X.fs)->b ∉ frs X.stack:=fun b hb z=>hb (I.stkSub b z)
 refine ⟨⟨I.ok.mod,hkind,I.ok.glob,I.ok.blt,Nat.le_refl _,?_,hcl.has,fun _ _ h=>absurd h (by intro z; cases z),I.ok.hd,I.ok.frames,.inl rfl,?_,I.bs,Nat.le_trans I.ok.bsz I.sz,?_,?_,I.stack,I.stkFree⟩,
  rfl,I.bare,Un.kept hk,⟨_,hns,?_⟩,?_,I.hok.fresh (Nat.le_refl _),fun x c e=>I.freeC x c (hcl.sub x c e),?_,I.hok.kept hk,hN.len⟩
 ·intro x y c h1 h2
  exact I.ok.inj x y c (hcl.sub x c h1) (hcl.sub y c h2)
 ·intro b hb
  exact ⟨Nat.ne_of_lt (hfo b hb),fun x c e=>(hf b hb).2.2.2.2.1 x c (hcl.sub x c e)⟩
 ·intro b o e hb
  rcases (hf b hb).2.2.2.1 with q | q
  ·exact I.ok.noex b o e q
  ·exact absurd (Nat.lt_of_lt_of_le (Heap.lt_size e) (Nat.le_trans I.ok.bsz q)) (Nat.lt_irrefl _)
 ·intro b hb
  refine hfs b fun z => ?_
  rcases List.mem_cons.mp z with z | z
  ·exact (hf b hb).2.1 z
  ·exact (hf b hb).2.2.1 z
 ·intro i x v h1 h2 _
  obtain ⟨j,hj,hσ,hv,hnl,hk'⟩:=hN.from' i x v h1 h2
  obtain ⟨m,hn,hl⟩:=I.loc
  obtain ⟨u,r,l⟩:=hl j x v hj hσ hv
  refine ⟨u,r,.inr ⟨hk',?_⟩⟩
  obtain ⟨c,hc⟩:=hcl.has x hk'
  rcases l with ⟨hloc,_⟩ | ⟨_,c',hc',hcell⟩
  ·exact absurd hloc hnl
  ·have e:=hcl.sub x c hc
   rw [hc'] at e
   cases e
   obtain ⟨o,ho,hd⟩:=hcell
   exact ⟨_,hc,o,hk _ _ ho,hd⟩
 ·intro x c e
  obtain ⟨v,o,ho,hd⟩:=I.cell x c (hcl.sub x c e)
  exact ⟨v,o,hk _ _ ho,hd⟩
 ·intro p hp
  rw [show (blk X N' scope cl s.heap.objs.size s H fp (X.pn ++ pins)).pn=X.pn ++ pins from rfl,List.append_nil] at hp
  obtain ⟨a1,a2,a3,a4,a5⟩:=I.pin p hp
  refine ⟨hk _ _ a1,a2,Nat.ne_of_lt (Heap.lt_size a1),hfs _ fun z => ?_,a5⟩
  rcases List.mem_cons.mp z with z | z
  ·exact a3 z
  ·exact a4 z
theorem wM {N':List Str}{scope:Scope}{cl:List (Str × Addr)}{fp:List Addr}{pl:List (Addr × Obj)}{H':Hp}{s':Shared}{h'':Heap}(I:Inv X pins σ H s)(hf : ∀ b ∈ fp,FpOk X pins H b)
  (J:Inv (blk X N' scope cl s.heap.objs.size s H fp (X.pn ++ pins)) pl σ' H' s') (hs:Heap.SameBut s.heap.objs.size s'.heap h''):Inv X pins σ H' { s' with heap:=h'' }:=by
 have hne : ∀ b o,s.heap.get? b=some o->b ≠ s.heap.objs.size:=fun b o e=>Nat.ne_of_lt (Heap.lt_size e)
 have hC:H' s.heap.objs.size=none:=J.free
 have ub:Un (frs X.stack) fp H H' s.heap s'.heap:=J.base
 have u:Un (frs X.stack) fp H H' s.heap h'':={
  keep:=fun b o e n hb hx=>hs.extBut b o (hne b o e) (ub.keep b o e n hb hx)
  slot:=fun b o e n hb hx=>by
   obtain ⟨sl,q⟩:=ub.slot b o e n hb hx
   exact ⟨sl,hs.extBut b _ (hne b o e) q⟩
  free:=ub.free
  there:=fun b o e hx=>by
   obtain ⟨o',q⟩:=ub.there b o e hx
   exact ⟨o',hs.extBut b _ (hne b o e) q⟩
  tups:=ub.tups
  frzs:=ub.frzs
  tbls:=ub.tbls }
 have hok:HOk X.prog X.w H' h'':=fun a o e=>(J.hok a o e).stay (fun b ob hb q=>hs.extBut b ob (fun z=>by
  rw [z] at hb
  rcases hb with hb | hb
  ·rw [<- hb,hC] at e; cases e
  ·rw [hC] at hb; cases hb) q) (fun _ h=>h) (fun _ _ h=>h)
 exact I.call' (s':={ s' with heap:=h'' }) J.os u hok J.bare fun b hb=>by
  obtain ⟨f0,f1,f2,f3,f4,f5⟩:=hf b hb
  exact ⟨f3,f1,f4,f5⟩
end
def PIfs (X:Cx)(ifs:List Expr)(t:TT):Prop :=
 ∀ (pins:List (Addr × Obj)) (s:Shared) (σ:St) (H:Hp) (Q:Bool->Hp->Prop),Inv X pins σ H s->t σ H Q ->
  wpAny (model X.prog X.w) X.A (forIn ifs true fun c r=>if r=true then do let ok <- isTrue c X.env (eval c X.env); pure (ForInStep.yield ok) else pure (ForInStep.yield r)) (TP X pins σ Q) X.xe s
def aA8:TT:=fun _ H Q=>Q true H
theorem dF {X:Cx}:PIfs X [] aA8:=fun _ _ _ H _ I h=>wpAny_tests_nil ⟨H,I,h⟩
theorem lO {X:Cx}{c:Expr}{t:TT}(h:PT X c t):PIfs X [c] t:=fun pins s σ H Q I hw=>wpAny_tests_one (h pins s σ H Q I hw)
structure Keep (σa σb:St):Prop where
 len:σb.length=σa.length
 at' : ∀ (i:Nat) (v:V),σa[i]?=some (some v)->σb[i]?=some (some v)
theorem Keep.refl (σ:St):Keep σ σ:=⟨rfl,fun _ _ h=>h⟩
theorem Keep.set {σa σb:St}{i:Nat}{v:V}(k:Keep σa σb)(h:σa[i]?=some none):Keep σa (σb.set i (some v)):=by
 refine ⟨by rw [List.length_set]; exact k.len,fun j u e => ?_⟩
 have hj:i ≠ j:=by
  rintro rfl
  rw [h] at e
  cases e
 rw [List.getElem?_set_ne hj]
 exact k.at' j u e
def wW (σf:St->St)(wi:TI)(g:TG)(tt:TT)(te:TE):TE:=fun σ H Q=>wi σ H fun J H1=>∀ D,H1 D=none->∃ W:Nat->Nat->List V->Hp->Prop,(∃ m,W 0 m [] (upd H1 D (.lst []))) /\
 ∀ i m ys H,W i m ys H->H D=some (.lst ys)/\ys.length < sizeLine /\
  ((J.stop i H/\Q (.ref D) H)\/(J.go i H/\∀ x H',J.yld i H x H'->g x (σf σ) H' fun σ2 H2=>Keep (σf σ) σ2/\tt σ2 H2 fun b H3 =>
   if b=true then te σ2 H3 fun y H4=>H4 D=some (.lst ys)/\∃ m',m' < m/\W (i+1) m' (ys ++ [y]) (upd H4 D (.lst (ys ++ [y]))) else ∃ m',m' < m/\W (i+1) m' ys H3))
theorem gX {X:Cx}{elt tg iter:Expr}{ifs:List Expr}{scope:Scope}{pos:Pos}{N':List Str}{cl:List (Str × Addr)}{wi:TI}{g:TG}{tt:TT}{te:TE}(σf:St->St)
  (hc:X.calm=true) (hkind:scope.kind = .function) (hcell : ∀ y ∈ scope.names,y.2 ≠ .cell) (hnames : ∀ y ∈ scope.names,y.2 = .local->scope.names.lookup y.1=some .local) (hcl:ClOk X scope cl)
  (hN : ∀ σ:St,σ.length=X.N.length->BlkN X N' scope cl σ (σf σ)) (hi:PI X tg iter wi)
  (hg : ∀ C s₀ H₀ ex pn,PG (blk X N' scope cl C s₀ H₀ ex pn) tg g) (ht : ∀ C s₀ H₀ ex pn,PIfs (blk X N' scope cl C s₀ H₀ ex pn) ifs tt) (he : ∀ C s₀ H₀ ex pn,PE (blk X N' scope cl C s₀ H₀ ex pn) elt te)
  (hs : ∀ x,foldedSetIterable iter X.env x=pure x:=by intro _; rfl):PE X (.ListComp elt [⟨tg,iter,ifs,0⟩] scope pos) (wW σf wi g tt te):=by
 intro pins s σ H Q I h
 rw [eval_ListComp]
 refine wpAny_comprehension_free (use:=none) rfl hs hcl.run hkind hnames (thn (hi pins s σ H _ I h) fun v s1 h1=>thn h1 fun itv s2 h2 => ?_)
 obtain ⟨it,fp,tn,J,H2,rfl,I2,T,st2,f2,q⟩:=h2
 refine wpAny_newObj_type (wpAny_newFunctionEnv hcell (by intro y hy; simp at hy) (fun h₁ hns₁ hsb₁ => ?_) hkind)
 dsimp only at hns₁ hsb₁ ⊢
 have hfo : ∀ b ∈ fp,b < s2.heap.objs.size:=fun b hb=>by
  obtain ⟨o,e,_⟩:=T.obj _ _ st2 b hb
  exact Heap.lt_size e
 have hDf:H2 s2.heap.objs.size=none:=I2.hok.fresh (Nat.le_refl _)
 obtain ⟨W,⟨m0,w0⟩,turn⟩:=q s2.heap.objs.size hDf
 have I3:Inv X pins σ (upd H2 s2.heap.objs.size (.lst [])) { s2 with heap:=s2.heap.push { cls:=.type "list",data:=.seq ([]:List Value).toArray } }:=I2.lnew (its:=[]) (t':=s2.toks) .nil (Nat.zero_le _)
 have f3 : ∀ b ∈ fp,FpOk X pins (upd H2 s2.heap.objs.size (.lst [])) b:=fun b hb=>⟨by rw [aL (Nat.ne_of_lt (hfo b hb))]; exact (f2 b hb).1,(f2 b hb).2⟩
 generalize hD:s2.heap.objs.size=D at *
 generalize hs3:({ s2 with heap:=s2.heap.push { cls:=.type "list",data:=.seq ([]:List Value).toArray } }:Shared)=s3 at *
 have hh3:s3.heap=s2.heap.push { cls:=.type "list",data:=.seq ([]:List Value).toArray }:=by rw [<- hs3]
 have hsz3:s2.heap.objs.size < s3.heap.objs.size:=by rw [hh3,Heap.size_push]; exact Nat.lt_succ_self _
 have e3 : ∀ h t,({ s2 with heap:=h,toks:=t }:Shared)={ s3 with heap:=h,toks:=t }:=fun h t=>by rw [<- hs3]
 rw [<- hh3] at hns₁ hsb₁ ⊢
 have hk3 : ∀ b o,s3.heap.get? b=some o->h₁.get? b=some o:=fun b o e=>hsb₁.extBut b o (Nat.ne_of_lt (Heap.lt_size e)) (Heap.get?_push_of_some _ e)
 have I4:=oB (t':=s3.toks) I3 hkind hcl (hN σ I.len) f3 (fun b hb=>Nat.lt_trans (hfo b hb) (hD ▸ hsz3)) (hns:=by simpa using hns₁) hk3
 generalize hB:blk X N' scope cl s3.heap.objs.size s3 (upd H2 D (.lst [])) fp (X.pn ++ pins)=B at *
 have hBp:B.prog=X.prog:=by rw [<- hB]; rfl
 have hBw:B.w=X.w:=by rw [<- hB]; rfl
 have hBK:B.K=X.K:=by rw [<- hB]; rfl
 have hBA:B.A=X.A:=by rw [<- hB]; rfl
 have hBc:B.calm=true:=by rw [<- hB]; exact hc
 have hBe:B.env=compEnvC scope cl s3.heap.objs.size X.env:=by rw [<- hB]; rfl
 have hBx:B.xe=fun _ _=>False:=by rw [<- hB]; rfl
 have hGB:PG B tg g:=hB ▸ hg _ _ _ _ _
 have hTB:PIfs B ifs tt:=hB ▸ ht _ _ _ _ _
 have hEB:PE B elt te:=hB ▸ he _ _ _ _ _
 have stat : ∀ {H':Hp},(∀ b ∈ fp,H' b=none)->∀ b ∈ fp,FpOk B [] H' b:=fun {H'} hn b hb=>by
  obtain ⟨f0,f1,f2',f3',f4,f5⟩:=f3 b hb
  rw [<- hB]
  refine ⟨hn b hb,Nat.ne_of_lt (Nat.lt_trans (hfo b hb) (hD ▸ hsz3)),fun z => ?_,.inl hb,fun x c e=>f4 x c (hcl.sub x c e),fun p hp => ?_⟩
  ·rcases List.mem_cons.mp (I.stkSub b z) with z | z
   ·exact f1 z
   ·exact f2' z
  ·rw [show (blk X N' scope cl s3.heap.objs.size s3 (upd H2 D (.lst [])) fp (X.pn ++ pins)).pn=X.pn ++ pins from rfl,List.append_nil] at hp
   exact f5 p hp
 have loop : ∀ s4:Shared,Inv B [] (σf σ) (upd H2 D (.lst [])) s4->tn 0 s4.heap ->
   codeAny (model X.prog X.w) X.A (.compLoop (.ListComp elt [⟨tg,iter,ifs,0⟩] scope pos) 0 (.ref it) (.ref D) (compEnvC scope cl s3.heap.objs.size X.env)) (compPost (model X.prog X.w) X.A X.xe none (EP X pins σ Q) (.ref D) s3.heap.objs.size) s4:=by
  intro s4 I4 st4
  refine iX (I:=fun n s'=>∃ i ys H',Inv B [] (σf σ) H' s'/\tn i s'.heap/\(∀ b ∈ fp,H' b=none)/\W i n ys H') ?_ m0 ⟨0,[],_,I4,st4,fun b hb=>(f3 b hb).1,w0⟩
  rintro n s5 ⟨i,ys,H5,I5,st5,fr5,w5⟩
  obtain ⟨hD5,hlen5,alt⟩:=turn i n ys H5 w5
  rcases alt with ⟨stop,qn⟩ | ⟨go,step⟩
  ·have z:=T.done B hBp hBw hBK hBc i [] s5 (σf σ) H5 (fun _ _=>False) I5 (stat fr5) st5 stop
   rw [hBA] at z
   refine thn z fun r s6 ⟨hr,I6⟩ => ?_
   subst hr
   obtain ⟨m6,hn6,_⟩:=I6.loc
   rw [hBe] at hn6
   refine ⟨m6,hn6,fun h' hs' => ?_⟩
   subst hB
   exact ⟨.ref D,H5,wM I3 f3 I6 hs',rfl,qn⟩
  ·have z:=T.item B hBp hBw hBK hBc i [] s5 (σf σ) H5 (fun _ _=>False) I5 (stat fr5) st5 go
   rw [hBA] at z
   refine thn z fun r s6 ⟨u,hr,h6⟩ => ?_
   subst hr
   refine thn h6 fun _ s7 ⟨x,H7,I7,r7,y7,st7,fr7⟩ => ?_
   have I7':=I7.pinned (stat fr7) (T.obj _ _ st7)
   have z8:=hGB _ s7 (σf σ) H7 x u _ I7' r7 (step x H7 y7)
   rw [hBp,hBw,hBA,hBe,hBx] at z8
   refine thn z8 fun _ s8 ⟨σ8,H8,I8,k8,q8⟩ => ?_
   have z9:=hTB _ s8 σ8 H8 _ I8 q8
   rw [hBp,hBw,hBA,hBe,hBx] at z9
   refine thn z9 fun ok s9 ⟨H9,I9,q9⟩ => ?_
   have again : ∀ {ys':List V} {H':Hp} {s':Shared},Inv B ([] ++ kQ fp s7.heap) σ8 H' s'->(∃ m',m' < n/\W (i+1) m' ys' H')->∃ m,m < n/\∃ i ys H',Inv B [] (σf σ) H' s'/\tn i s'.heap/\(∀ b ∈ fp,H' b=none)/\W i m ys H':=fun {ys' H' s'} J ⟨m',hm,w'⟩=>by
    refine ⟨m',hm,i+1,ys',H',J.unpinned.weak k8.len.symm k8.at',T.keep _ _ _ st7 fun b hb o e=>(J.pin (b,o) (List.mem_append_right _ (List.mem_append_right _ (dY hb e)))).1,fun b hb => ?_,w'⟩
    obtain ⟨o,e,d⟩:=T.obj _ _ st7 b hb
    exact (J.pin (b,o) (List.mem_append_right _ (List.mem_append_right _ (dY hb e)))).2.1
   cases ok with
   | false=>exact again I9 q9
   | true =>
    have z10:=hEB _ s9 σ8 H9 _ I9 q9
    rw [hBp,hBw,hBA,hBe,hBx] at z10
    refine thn z10 fun y10 s10 ⟨y,H10,I10,r10,hD10,q10⟩ => ?_
    have z11:=bY (X:=B) _ s10 σ8 H10 (.ref D) [y] (.ref D) [y10] (fun _ H'=>∃ m',m' < n/\W (i+1) m' (ys ++ [y]) H') I10 rfl (.cons r10 .nil) ⟨D,ys,y,rfl,rfl,hD10,hlen5,q10⟩
    rw [hBp,hBw,hBA,hBx] at z11
    refine thn z11 fun _ s11 ⟨_,H11,I11,_,q11⟩=>again I11 q11
 have st4:tn 0 ({ s3 with heap:=h₁,toks:=s3.toks }:Shared).heap:=T.keep _ _ _ st2 fun b hb o e=>hk3 b o (by rw [hh3]; exact Heap.get?_push_of_some _ e)
 have L4:=loop _ I4 st4
 subst hs3
 exact codeAny_compStart_list L4 (T.self _ 0 _ _ _ st4 L4)
def Bt (n:Nat)(x:Int):Prop:=x.natAbs < 2 ^ n
theorem Bt.bits {n:Nat}{x:Int}(h:Bt n x):Builtin.Int.intBits x<=n:=intBits_le_iff.mpr h
theorem Bt.of_bits {n:Nat}{x:Int}(h:Builtin.Int.intBits x<=n):Bt n x:=intBits_le_iff.mp h
theorem Bt.mono {m n:Nat}{x:Int}(h:Bt m x)(hn:m<=n):Bt n x:=Nat.lt_of_lt_of_le h (Nat.pow_le_pow_right (by decide) hn)
theorem Bt.mul {m n:Nat}{x y:Int}(h:Bt m x)(h':Bt n y):Bt (m+n) (x*y):=.of_bits (intBits_mul_le h.bits h'.bits)
theorem Bt.add {m:Nat}{x y:Int}(h:Bt m x)(h':Bt m y):Bt (m+1) (x+y):=.of_bits (by have:=intBits_add_le h.bits h'.bits; rwa [Nat.max_self] at this)
theorem Bt.le {m:Nat}{x y:Int}(h:Bt m y)(h0:0<=x)(hy:x<=y):Bt m x:=by
 unfold Bt at *
 omega
theorem aE9 {n:Nat}{x:Int}(h:Bt n x)(hp:0 < x)(hn:n<=9000):x.natAbs.log2 < 9000:=by
 have:x.natAbs.log2 < n:=(Nat.log2_lt (by omega)).mpr h
 omega
def aGz (i j:Int):Prop:=Bt 1000000 i/\Bt 1000000 j
def aG0 (_i j:Int):Prop:=0 < j/\Bt 9000 j
def aGy (i j:Int):Prop:=0<=j/\j<=1000/\Bt 1000 i
section
variable {X:Cx}
theorem bA:OpR X (binaryOp .Mult) (rI aGz fun i j=>.int (i*j)):=opI fun _ _ _ _ _ _ _ hc q=>mul_int q (.of_bits (Nat.le_trans hc.1.bits (by decide)) (Nat.le_trans hc.2.bits (by decide)))
theorem gN:OpR X (binaryOp .FloorDiv) (rI aG0 fun i j=>.int (i / j)):=opI fun i j _ _ _ _ _ hc q=>by
 have h1:(0:Int) < j:=hc.1
 rw [<- Int.fdiv_eq_ediv_of_nonneg i (Int.le_of_lt h1)] at q
 exact floordiv_int (by omega) q (.inl (PyProof.noPylong_of_log2 (aE9 hc.2 h1 (Nat.le_refl _))))
theorem jW:OpR X (binaryOp .Pow) (rI aGy fun i j=>.int (i ^ j.toNat)):=opI fun i j _ _ _ _ _ hc q=>by
 obtain ⟨h0,h1,h2⟩:=hc
 refine PyProof.Rows.pow_int h0 ?_ q
 have b:=h2.bits
 have e:(2:Int) ^ 27=134217728:=by decide
 have:=Int.mul_le_mul (show (Builtin.Int.intBits i:Int)<=1000 by omega) h1 h0 (by decide)
 omega
theorem qU {K:PySem.W.Frag}{H:Hp}{n:Nat}(ns ms:List Int) : ∀ (j:Nat) x y,(ns.map V.int)[j]?=some x->(ms.map V.int)[j]?=some y->DEq K H n x y (ns[j]? == ms[j]?):=by
 intro j x y h1 h2
 rw [List.getElem?_map] at h1 h2
 cases e1:ns[j]? with
 | none=>rw [e1] at h1; cases h1
 | some a =>
  cases e2:ms[j]? with
  | none=>rw [e2] at h2; cases h2
  | some b =>
   rw [e1] at h1
   rw [e2] at h2
   cases h1
   cases h2
   have:(some a == some b)=eqV (V.int a) (V.int b):=by
    show (a == b)=(a == b)
    rfl
   rw [this]
   exact DEq.flat rfl rfl
theorem qX : ∀ (ns ms:List Int),((List.range (min ns.length ms.length)).all (fun j=>ns[j]? == ms[j]?) && ns.length == ms.length)=decide (ns=ms):=by
 intro ns ms
 rw [Bool.eq_iff_iff]
 simp only [Bool.and_eq_true,List.all_eq_true,List.mem_range,beq_iff_eq,decide_eq_true_eq]
 constructor
 ·rintro ⟨h,hl⟩
  refine List.ext_getElem? fun i => ?_
  by_cases hi:i < ns.length
  ·exact h i (by omega)
  ·rw [List.getElem?_eq_none (by omega),List.getElem?_eq_none (by omega)]
 ·rintro rfl
  exact ⟨fun _ _=>rfl,rfl⟩
def rEqI (K:PySem.W.Frag):R2:=fun x y H Q=>∃ a b,∃ ns ms:List Int,x = .ref a/\y = .ref b/\SqT K H a (ns.map V.int)/\SqT K H b (ms.map V.int)/\Q (.bl (decide (ns=ms))) H
def rNeI (K:PySem.W.Frag):R2:=fun x y H Q=>∃ a b,∃ ns ms:List Int,x = .ref a/\y = .ref b/\SqT K H a (ns.map V.int)/\SqT K H b (ms.map V.int)/\Q (.bl (!decide (ns=ms))) H
theorem uL (hu:X.A.units+64 < cLine):OpR X (compareOp .Eq) (rEqI X.K):=by
 intro pins s σ H x y v u Q I rx ry h
 obtain ⟨a,b,ns,ms,rfl,rfl,hx,hy,q⟩:=h
 refine aAi hu pins s σ H _ _ v u Q I rx ry ⟨a,b,_,_,fun j=>ns[j]? == ms[j]?,rfl,rfl,hx,hy,qU ns ms,?_⟩
 rw [List.length_map,List.length_map,qX]
 exact q
theorem aE5 {pins:List (Addr × Obj)}{σ:St}{H:Hp}{s:Shared}(I:Inv X pins σ H s){A:Around}{a b:Addr}{xs ys:List V}{e:Nat->Bool}(hx:SqT X.K H a xs)(hy:SqT X.K H b ys)(hu:A.units < cLine)
  (hd : ∀ (j:Nat) x y u v,xs[j]?=some x->ys[j]?=some y->RelV x u->RelV y v->SeqAt.EqAt A.in1 s u v (e j)) :
  SeqAt.RcNeAt A s (.ref a) (.ref b) (!((List.range (min xs.length ys.length)).all e && xs.length == ys.length)):=by
 obtain ⟨its,r,tx,_⟩:=I.tuple hx
 obtain ⟨its',r',ty,_⟩:=I.tuple hy
 have l1:=r.length
 have l2:=r'.length
 have q:=SeqAt.RcNeAt.tuples (A:=A) (e:=e) tx ty hu (fun j h1 h2 => ?_)
 ·rw [List.size_toArray,List.size_toArray,<- l1,<- l2] at q
  exact q
 ·rw [List.size_toArray] at h1 h2
  obtain ⟨x,hxj⟩ : ∃ x,xs[j]?=some x:=⟨_,List.getElem?_eq_getElem (by omega)⟩
  obtain ⟨y,hyj⟩ : ∃ y,ys[j]?=some y:=⟨_,List.getElem?_eq_getElem (by omega)⟩
  obtain ⟨u1,hu1,ru1⟩:=r.get hxj
  obtain ⟨u2,hu2,ru2⟩:=r'.get hyj
  have e1:its.toArray[j]=u1:=by
   have:=(List.getElem?_eq_some_iff.mp hu1).2
   simpa using this
  have e2:its'.toArray[j]=u2:=by
   have:=(List.getElem?_eq_some_iff.mp hu2).2
   simpa using this
  rw [e1,e2]
  exact hd j x y u1 u2 hxj hyj ru1 ru2
theorem aAg (hu:X.A.units+64 < cLine):OpR X (compareOp .NotEq) (rNeT X.K):=by
 intro pins s σ H x y v u Q I rx ry h
 obtain ⟨a,b,xs,ys,e,rfl,rfl,hx,hy,hd,q⟩:=h
 cases rx; cases ry
 exact aE5 I hx hy (by omega) (fun j x y u v h1 h2 r1 r2=>(hd j x y h1 h2).at I (by show X.A.units+1+40 < cLine; omega) r1 r2) X.prog X.w X.xe _ ⟨.bl _,H,I,rfl,q⟩
theorem aEr (hu:X.A.units+64 < cLine):OpR X (compareOp .NotEq) (rNeI X.K):=by
 intro pins s σ H x y v u Q I rx ry h
 obtain ⟨a,b,ns,ms,rfl,rfl,hx,hy,q⟩:=h
 refine aAg hu pins s σ H _ _ v u Q I rx ry ⟨a,b,_,_,fun j=>ns[j]? == ms[j]?,rfl,rfl,hx,hy,qU ns ms,?_⟩
 rw [List.length_map,List.length_map,qX]
 exact q
end
section
variable {X:Cx}
theorem lZ (hc:X.calm=true):hZ X (.builtin "sum") (fun xs H Q=>∃ p,∃ ns:List Int,xs=[.ref p]/\SqL X.K H p (ns.map V.int)/\Q (.int ns.sum) H):=by
 intro pins s σ H xs us Q I r h
 obtain ⟨p,ns,rfl,hq,q⟩:=h
 obtain ⟨u,rfl,rx⟩:=jL r
 cases rx
 obtain ⟨its,r',pl,hz⟩:=I.list hq
 have hi:=rX r'
 obtain ⟨ys,e⟩:=(hi.allInts).items
 have hl:s.heap.IsList p (intItems ys):=e ▸ pl.isList
 refine sum_intListG (I.ok.hd hc) hl fun h' tk t' hk => ?_
 refine ⟨.int ns.sum,H,I.kept hk,⟨t',?_⟩,q⟩
 have e1:numsOf its=ns:=hi.numsOf
 have e2:numsOf (intItems ys).toList=numsOf its:=by rw [<- e]
 rw [nums_intItems,e1] at e2
 rw [preSum_eq,List.take_of_length_le (by simp),e2]
def tIt (K:PySem.W.Frag)(i k:Nat):TE:=fun σ H Q=>∃ p xs v,σ[i]?=some (some (.ref p))/\SqT K H p xs/\xs[k]?=some v/\Q v H
theorem pit (i k:Nat){x:Str}{p q:Pos}{j:Nat}(hN:X.N[i]?=some x:=by rfl)(hv:Vis X.env.scope x:=by first | exact Or.inl rfl | exact Or.inr (Or.inl rfl) | exact Or.inr (Or.inr rfl))(hd:(x == ("__debug__" : Str))=false:=by decide)
  (hcd:(x == ("__classdict__" : Str))=false:=by decide) {pos:Pos}:PE X (.Subscript (.Name x p) (.Constant (.int (k:Int)) j q) pos) (tIt X.K i k):=by
 intro pins s σ H Q I h
 obtain ⟨a,xs,v,e,hs,hk,q⟩:=h
 exact dG fU (qI hN hv hd hcd) aF (fun _ _=>rfl) pins s σ H Q I ⟨_,e,a,xs,(k:Int),v,rfl,rfl,hs,bG hk,q⟩
structure Cal (P:Program)(w:World)(K:PySem.W.Frag)(mg:Str->Option Value)(base:Heap)(CX:CXT)(k:Nat)(x:Str)(ps:List Str)(sp:Sp):Prop where
 ex : ∃ (f:Addr) (fd:FuncData),mg x=some (.ref f)/\PySem.W.keepIn K (.ref f)=true/\Binds K fd ps []/\FnOk P w K mg base CX k f fd ps sp
theorem aH {CX:CXT}{k:Nat}{x:Str}{ps:List Str}{sp:Sp}{E:XK}{e:Expr}{es:List Expr}{t:TA}{p pos:Pos}(C:Cal X.prog X.w X.K X.mg X.base CX k x ps sp)(hr:Room k X.A)(hg:Gl X x)(hx:gG CX X E)
  (ha:PA X (e :: es) t) (hdb:(x == ("__debug__" : Str))=false:=by decide) (he:starEach (e :: es) X.env=(false,eval e X.env) :: starEach es X.env:=by rfl) (hpl:(backTo pos (starEach es X.env)).any (·.1)=false:=by rfl) :
  PE X (.Call (.Name x p) (e :: es) [] pos) (oJ sp [] E t):=by
 obtain ⟨f,fd,hm,hk,hb,F⟩:=C.ex
 exact uJ F hr hg hm hk hb .nil hx ha hdb he hpl
theorem Cal.mono {P:Program}{w:World}{K:PySem.W.Frag}{mg:Str->Option Value}{base:Heap}{CX:CXT}{j k:Nat}{x:Str}{ps:List Str}{sp:Sp}(C:Cal P w K mg base CX j x ps sp)(h:j<=k):Cal P w K mg base CX k x ps sp:=by
 obtain ⟨f,fd,hm,hk,hb,F⟩:=C.ex
 exact ⟨f,fd,hm,hk,hb,F.mono h⟩
end
theorem Same.tup {K:PySem.W.Frag}{H H':Hp}{a:Addr}{xs:List V}(e:Same H H')(h:SqT K H a xs):SqT K H' a xs:=by
 rcases h with (h | ⟨o,h⟩) | h
 ·exact .inl (.inl (e _ _ h))
 ·exact .inl (.inr ⟨o,e _ _ h⟩)
 ·exact .inr h
theorem Same.upd {H:Hp}{a:Addr}{o:HO}(h:H a=none):Same H (upd H a o):=fun b u e=>by
 rw [aL (cH e h)]
 exact e
def RetT (H:Hp)(Q:VK)(ns:List Int):Prop:=∀ p H',Same H H'->H' p=some (.tup (ns.map V.int))->Q (.ref p) H'
end L2
namespace L2
open PySem PySem.Spec PyProof.Rows PySem.W
structure ExK (K:Frag)(C:Addr):Prop where
 ga:findIn K (.ref C) "__getattribute__" = some (some (.builtin "BaseException.__getattribute__"))
 gt:findIn K (.ref C) "__getattr__" = some none
 cl:findIn K (.ref C) "__class__" = some (some (.builtin "object.__class__"))
 sb:subIn K (.ref C) (.type "BaseException")=some true
 so:subIn K (.ref C) (.type "object")=some true
 ci:(clsIn K C).isSome=true
structure ExAt (h:Heap)(a:Addr)(o:Obj)(C:Addr):Prop where
 at_:h.get? a=some o
 cls:o.cls = .ref C
theorem ExAt.type {M:Model}{h:Heap}{a C:Addr}{o:Obj}(I:ExAt h a o C):Looks M h (typeOf (.ref a)) (.ref C):=by
 rw [<- I.cls]
 exact (Looks.ld I.at_).andThen .now
section
variable {prog:Program}{w:World}{A:Around}{E:Value->Shared->Prop}{h:Heap}{g:Array GenState}{d:Drawn}{t:Nat}{os:OsState}{a C:Addr}{o:Obj}{K:Frag}
theorem lX {R:Result->Shared->Prop}(X:K.In h)(F:ExK K C)(I:ExAt h a o C)(hq:R (.ok (.ret (.ref C))) ⟨h,g,d,t,os⟩) :
  codeAny (model prog w) A (.call (.builtin "getset_descriptor.__get__") ⟨[.builtin "object.__class__",.ref a,.ref C],[]⟩) R ⟨h,g,d,t,os⟩:=by
 have hT5:(⟨h,g,d,t,os⟩:Shared).TypeIs (.builtin "object.__class__") "getset_descriptor" := PySem.F.typeOf_object_class
 have hx:=I.at_
 have hc:=I.cls
 have L1:=looks_subIn (M:=model prog w) X F.so
 rw [<- PySem.F.owner_object_class] at L1
 refine codeAny_call_builtin PySem.F.slot_gs_get.plain PySem.F.entry_gs_get (PySem.F.slot_gs_get.check _ _ _ _ _ _ _ _ hT5 (PySem.F.args_gs_get _ _ _) ?_)
 repeat (any_goals (first | assumption | (with_reducible refine wpAny_loadPart_at hx ?_; rw [hc]) | with_reducible refine L1.at ?_ | wp_step))
 refine ⟨Code.quiet_builtin _ (by decide +kernel),codeAny_builtin PySem.F.entry_object_class ?_⟩
 repeat (any_goals (first | assumption | (with_reducible refine wpAny_loadPart_at hx ?_; rw [hc]) | wp_step))
theorem kD {tk:Tok}{Q:Fin->Shared->Prop}(X:K.In h)(F:ExK K C)(I:ExAt h a o C)(hq:Q (.done (.ret (.ref C))) ⟨h,g,d,t,os⟩) :
  wpAny (model prog w) A (Builtin.«object.__getattribute__» ⟨[.ref a,.str "__class__" tk],[]⟩) Q E ⟨h,g,d,t,os⟩:=by
 have L1:=looks_findIn (M:=model prog w) X F.cl
 have hT5:(⟨h,g,d,t,os⟩:Shared).TypeIs (.builtin "object.__class__") "getset_descriptor" := PySem.F.typeOf_object_class
 have f5:=PySem.F.typeOf_object_class
 have f6:=PySem.F.slot_gs_get.lookup
 have f7:=PySem.F.slot_gs_set.lookup
 have hx:=I.at_
 have hc:=I.cls
 repeat (any_goals (first | assumption | (with_reducible refine wpAny_loadPart_at hx ?_; rw [hc]) | with_reducible refine L1.at ?_ | wp_step))
 refine lX X F I ?_
 repeat (any_goals (first | assumption | wp_step))
theorem iW {M:Model}{nameV:Value}{Q:Unit->Shared->Prop}(X:K.In h)(F:ExK K C)(I:ExAt h a o C)(hq:Q () ⟨h,g,d,t,os⟩):wpAny M A (checkBuiltinCall "BaseException.__getattribute__" ⟨[.ref a,nameV],[]⟩) Q E ⟨h,g,d,t,os⟩:=by
 have hk:builtinKind "BaseException.__getattribute__" = some .slot:=by decide +kernel
 have hsplit:splitId "BaseException.__getattribute__" = some ("BaseException","__getattribute__"):=by decide +kernel
 have L2':=looks_subIn (M:=M) X F.sb
 have ha:=PySem.F.args_bexc_ga (.ref a) nameV
 have hx:=I.at_
 have hc:=I.cls
 simp only [checkBuiltinCall,hk,hsplit]
 refine wpAny_bind ?_
 ·unfold isInstance
  repeat (first | (with_reducible refine wpAny_loadPart_at hx ?_; rw [hc]) | with_reducible refine L2'.at ?_ | wp_step)
  exact hq
theorem kN {tk:Tok}{R:Result->Shared->Prop}(X:K.In h)(F:ExK K C)(I:ExAt h a o C)(hq:R (.ok (.ret (.ref C))) ⟨h,g,d,t,os⟩) :
  codeAny (model prog w) A (.call (.builtin "BaseException.__getattribute__") ⟨[.ref a,.str "__class__" tk],[]⟩) R ⟨h,g,d,t,os⟩ :=
 codeAny_call_builtin PySem.F.attr_ValueError.ga.plain PySem.F.entry_bexc_ga (iW X F I (kD X F I hq))
theorem nV {tk:Tok}{fill expr:Bool}{Q:Value->Shared->Prop}(X:K.In h)(F:ExK K C)(I:ExAt h a o C)(hq:Q (.ref C) ⟨h,g,d,t,os⟩) :
  wpAny (model prog w) A (getAttrBy (.ref a) (.str "__class__" tk) fill expr) Q E ⟨h,g,d,t,os⟩:=by
 have f3:=PySem.F.attr_ValueError.ga.bind (.ref a)
 have hx0:(expr && onTheHeap (Value.builtin "BaseException.__getattribute__"))=false:=by cases expr <;> rfl
 have hx2:(Value.builtin "BaseException.__getattribute__" == Value.builtin "object.__getattribute__")=false:=by decide +kernel
 have hx1:(onTheHeap (Value.ref C) && Value.builtin "BaseException.__getattribute__" == Value.builtin "object.__getattribute__")=false:=by rw [hx2]; rfl
 have L1:=looks_findIn (M:=model prog w) X F.ga
 have L2':=looks_findIn (M:=model prog w) X F.gt
 have hx:=I.at_
 have hc:=I.cls
 repeat (any_goals (first | assumption | (with_reducible refine wpAny_loadPart_at hx ?_; rw [hc]) | with_reducible refine L1.at ?_ | with_reducible refine L2'.at ?_ | wp_step))
 refine kN X F I ?_
 repeat (any_goals (first | assumption | wp_step))
theorem kO {Q:Option Value->Shared->Prop}(X:K.In h)(F:ExK K C)(I:ExAt h a o C)(hq:Q (some (.ref C)) ⟨h,g,d,t+1,os⟩) :
  wpAny (model prog w) A (getAttr? (.ref a) "__class__") Q E ⟨h,g,d,t,os⟩:=by
 unfold getAttr? getAttrBy?
 repeat (any_goals (first | assumption | with_reducible apply nV X F I | wp_step))
end
theorem yT {K:Frag}{a C:Addr}{o:Obj}(F:ExK K C):KitX K (.ref a) (.ref C) (fun h=>ExAt h a o C) where
 ty:=fun M h X I=>I.type
 it:=fun M h X I=>by
  have hcD:=F.ci
  unfold clsIn at hcD
  split at hcD
  ·rename_i c' d' cd' sl' ho
   intro A' Q' E' s' k q
   unfold isType loadHead
   exact wpAny_bind (wpAny_loadPart (k _ _ (X _ _ ho)) (wpAny_pure q))
  ·cases hcD
 ne:=fun h tp dd its n sl X htp=>by
  have hcD:=F.ci
  refine Bool.eq_false_iff.mpr fun q => ?_
  have e:C=tp:=Value.ref.inj (beq_iff_eq.mp q)
  subst e
  unfold clsIn at hcD
  split at hcD
  ·rename_i c' d' cd' sl' ho
   have:=X _ _ ho
   rw [htp] at this
   cases this
  ·cases hcD
 ca:=fun {prog w A E Q s} X I hq=>by
  obtain ⟨hh,g,d,t,os⟩:=s
  exact kO X F I hq
def excO (a C:Addr):HO:=.ext fun h=>∃ o,ExAt h a o C
section
variable {X:Cx}
end
theorem vU (o:Obj)(f:Array Value->Array Value):(Obj.mapFields f o).dict=o.dict:=by
 unfold Obj.mapFields
 split <;> rfl
def TrD (h base:Heap)(e:Addr)(cls:Value)(dd:Option Addr)(fl:Value):Prop :=
 ∃ (ob tb:Obj) (us ts:Array Value) (T:Addr),(h.get? e=some ob/\ob.data = .fields us/\ob.cls=cls/\ob.dict=dd)/\us[1]?=some (.ref T)/\(base.get? T=none/\T ≠ e)/\h.get? T=some tb/\tb.data = .fields ts/\ts[3]?=some fl
structure FlyD (base:Heap)(l:List Env)(e:Addr)(cls:Value)(dd:Option Addr)(fl:Value)(h:Heap):Prop where
 st:base.StaysIn h
 no:base.get? e=none
 fr:h.FunFrames base l
 tr:TrD h base e cls dd fl
theorem FlyD.at {base h:Heap}{l:List Env}{e:Addr}{cls fl:Value}{dd:Option Addr}(x:FlyD base l e cls dd fl h) : ∃ ob us,h.get? e=some ob/\ob.cls=cls/\ob.dict=dd/\ob.data = .fields us:=by
 obtain ⟨ob,_,us,_,_,⟨a,b,c,d⟩,_⟩:=x.tr
 exact ⟨ob,us,a,c,d,b⟩
section
variable {M:Model}{A:Around}{E:Value->Shared->Prop}{s:Shared}{base:Heap}{env:Env}{outer:List Env}{L e:Addr}{Q:Unit->Shared->Prop}{cls:Value}{dd:Option Addr}
theorem aAp {ob:Obj}{us:Array Value}{head:Value}{had:Bool}(frs:A.frames=some (env :: outer))(ff:s.heap.FunFrames base (env :: outer))(fL:env.frame=some L)
  (ge:s.heap.get? e=some ob) (st:base.StaysIn s.heap) (no:base.get? e=none) (du:ob.data = .fields us) (sz:1 < us.size)
  (k : ∀ h',FlyD base (env :: outer) e ob.cls ob.dict (rawInt L) h'->s.heap.UpToSlots h'->Q () { s with heap:=h' }) :
  wpAny M A (do let fo <- frameOf env; let pl <- entryPlaceOf L had; let row <- EntryCells.newEntry head fo .none (rawInt L) .none pl; setField (.ref e) 1 row) Q E s:=by
 have eNot:e ∉ (env :: outer).filterMap (·.frame):=fun mem=>by
  obtain ⟨_,o',g',nf⟩:=ff.mem mem
  cases ge.symm.trans g'
  exact nf us du
 refine wpAny_bind (wpAny_frameOf_fun frs ff fL fun h1 only=>wpAny_bind (wpAny_entryPlaceOf fun pl plOk => ?_))
 unfold EntryCells.newEntry newFields
 refine wpAny_bind (wpAny_newObj_type ?_ (plOk.sizeOk5 _ _ _ _ _))
 have g1:h1.get? e=some ob:=(only.2.1 e eNot).trans ge
 have st1:base.StaysIn h1:=fun b o q=>(only.2.1 b fun mem=>by
  rw [(ff.mem mem).1] at q
  cases q).trans (st b o q)
 generalize hrow:({ cls:=.type "traceback",dict:=none,data:=.fields ([head,.ref L,.none,rawInt L,.none] ++ (if pl.isEmpty then List.replicate 6 Value.none else pl)).toArray }:Obj)=row
 have g2:(h1.push row).get? e=some ob:=Heap.get?_push_of_some row g1
 have Tne:h1.objs.size ≠ e:=Nat.ne_of_gt (Heap.lt_size g1)
 have du':=Obj.data_mapFields du (·.setIfInBounds 1 (Value.ref h1.objs.size))
 have gT:(h1.push row).get? h1.objs.size=some row:=Heap.get?_push_size h1 (by rw [<- hrow]; rfl)
 have old : ∀ b o,b ≠ e->h1.get? b=some o->((h1.push row).update e (Obj.mapFields (·.setIfInBounds 1 (Value.ref h1.objs.size)))).get? b=some o:=fun b o nb q=>by
  rw [Heap.get?_update_other _ _ (Ne.symm nb)]
  exact Heap.get?_push_of_some row q
 have nofld : ∀ b o,s.heap.get? b=some o->(∀ vs,o.data ≠ .fields vs)->b ≠ e:=fun b o q nf z=>by
  subst z
  cases ge.symm.trans q
  exact nf us du
 refine wpAny_setField g2 du sz (k _ ⟨fun b o q=>old b o ?_ (st1 b o q),no,ff.of_keeps fun b o q nf => ?_,?_⟩ fun b o q nf => ?_)
 ·rintro rfl
  rw [no] at q
  cases q
 ·obtain ⟨sl,z⟩:=only.2.2 b o q
  exact ⟨_,old b _ (nofld b o q nf) z,rfl⟩
 ·refine ⟨_,row,_,([head,.ref L,.none,rawInt L,.none] ++ (if pl.isEmpty then List.replicate 6 Value.none else pl)).toArray,h1.objs.size,⟨Heap.get?_update_self _ g2 (Obj.isFreed_of_fields du'),du',Obj.cls_mapFields _ _,vU _ _⟩,by simp [sz],⟨?_,Tne⟩,?_,by rw [<- hrow],by simp⟩
  ·cases z:base.get? h1.objs.size with
   | none=>rfl
   | some o=>exact absurd (Heap.lt_size (st1 _ _ z)) (Nat.lt_irrefl _)
  ·rw [Heap.get?_update_other _ _ (Ne.symm Tne)]
   exact gT
 ·obtain ⟨sl,z⟩:=only.2.2 b o q
  exact ⟨sl,old b _ (nofld b o q nf) z⟩
theorem pL {l:List Env}{fl:Value}(F:FlyD base l e cls dd fl s.heap)(k : ∀ h',FlyD base l e cls dd .none h'->s.heap.UpToSlots h'->Q () { s with heap:=h' }):wpAny M A (setFlight (.ref e) none) Q E s:=by
 obtain ⟨st,no,ff,ob,tb,us,ts,T,⟨ge,du,cc,cd⟩,u1,⟨nT,Tne⟩,gT,dt,t3⟩:=F
 unfold setFlight
 refine wpAny_bind (wpAny_field ge du u1 ?_)
 rw [if_pos (show (Value.ref T != Value.none)=true from rfl)]
 have z3:3 < ts.size:=(Array.getElem?_eq_some_iff.mp t3).1
 have dt':=Obj.data_mapFields dt (·.setIfInBounds 3 ((none:Option Addr).elim Value.none fun f=>rawInt f))
 have old : ∀ b,b ≠ T->(s.heap.update T (Obj.mapFields (·.setIfInBounds 3 ((none:Option Addr).elim Value.none fun f=>rawInt f)))).get? b=s.heap.get? b:=fun b nb=>Heap.get?_update_other _ _ (Ne.symm nb)
 have nofld : ∀ b o,s.heap.get? b=some o->(∀ vs,o.data ≠ .fields vs)->b ≠ T:=fun b o q nf z=>by
  subst z
  cases gT.symm.trans q
  exact nf ts dt
 refine wpAny_setField gT dt z3 (k _ ⟨fun b o q => ?_,no,ff.of_keeps fun b o q nf=>⟨o,(old b (nofld b o q nf)).trans q,rfl⟩,?_⟩ fun b o q nf=>⟨o.slots,(old b (nofld b o q nf)).trans q⟩)
 ·refine (old b ?_).trans (st b o q)
  rintro rfl
  rw [nT] at q
  cases q
 ·exact ⟨ob,_,us,_,T,⟨(old e (Ne.symm Tne)).trans ge,du,cc,cd⟩,u1,⟨nT,Tne⟩,Heap.get?_update_self _ gT (Obj.isFreed_of_fields dt'),dt',by simp [z3]⟩
theorem aE4 {ob:Obj}{us:Array Value}(frs:A.frames=some (env :: outer))(ff:s.heap.FunFrames base (env :: outer))(fL:env.frame=some L)
  (ge:s.heap.get? e=some ob) (st:base.StaysIn s.heap) (no:base.get? e=none) (du:ob.data = .fields us) (u1:us[1]?=some .none)
  (k : ∀ h',FlyD base (env :: outer) e ob.cls ob.dict (rawInt L) h'->s.heap.UpToSlots h'->Q () { s with heap:=h' }):wpAny M A (noteFrame (.ref e) env) Q E s:=by
 unfold noteFrame
 simp only [fL]
 refine wpAny_bind (wpAny_field ge du u1 ?_)
 rw [if_neg (by decide)]
 exact aAp frs ff fL ge st no du (Array.getElem?_eq_some_iff.mp u1).1 k
theorem aGd (frs:A.frames=some (env :: outer))(fL:env.frame=some L)(F:FlyD base (env :: outer) e cls dd .none s.heap)
  (k : ∀ h',FlyD base (env :: outer) e cls dd (rawInt L) h'->s.heap.UpToSlots h'->Q () { s with heap:=h' }):wpAny M A (noteFrame (.ref e) env) Q E s:=by
 obtain ⟨st,no,ff,ob,tb,us,ts,T,⟨ge,du,cc,cd⟩,u1,⟨nT,Tne⟩,gT,dt,t3⟩:=F
 subst cc cd
 unfold noteFrame
 simp only [fL]
 refine wpAny_bind (wpAny_field ge du u1 ?_)
 rw [if_pos (show (Value.ref T != Value.none)=true from rfl)]
 refine wpAny_bind (wpAny_field gT dt t3 ?_)
 rw [if_neg (show ¬ ((Value.none == rawInt L)=true) from by simp [rawInt])]
 have z3:3 < ts.size:=(Array.getElem?_eq_some_iff.mp t3).1
 have old : ∀ b,b ≠ T->(s.heap.update T (Obj.mapFields (·.setIfInBounds 3 Value.none))).get? b=s.heap.get? b:=fun b nb=>Heap.get?_update_other _ _ (Ne.symm nb)
 have nofld : ∀ b o,s.heap.get? b=some o->(∀ vs,o.data ≠ .fields vs)->b ≠ T:=fun b o q nf z=>by
  subst z
  cases gT.symm.trans q
  exact nf ts dt
 refine wpAny_bind (wpAny_setField gT dt z3 ?_)
 refine aAp frs (ff.of_keeps fun b o q nf=>⟨o,(old b (nofld b o q nf)).trans q,rfl⟩) fL ((old e (Ne.symm Tne)).trans ge) (fun b o q => ?_) no du (Array.getElem?_eq_some_iff.mp u1).1 fun h' F' up=>k h' F' fun b o q nf=>up b o ((old b (nofld b o q nf)).trans q) nf
 refine (old b ?_).trans (st b o q)
 rintro rfl
 rw [nT] at q
 cases q
theorem FlyD.tail {h:Heap}{fl:Value}(F:FlyD base (env :: outer) e cls dd fl h):FlyD base outer e cls dd fl h:=⟨F.st,F.no,F.fr.2.2,F.tr⟩
theorem aCr {ob:Obj}{us:Array Value}(frs:A.frames=some (env :: outer))(ff:s.heap.FunFrames base (env :: outer))(fL:env.frame=some L)
  (ge:s.heap.get? e=some ob) (st:base.StaysIn s.heap) (no:base.get? e=none) (du:ob.data = .fields us) (u1:us[1]?=some .none)
  (k : ∀ h',FlyD base outer e ob.cls ob.dict .none h'->s.heap.UpToSlots h'->Q () { s with heap:=h' }):wpAny M A (leaving env (.ref e)) Q E s:=by
 unfold leaving
 exact wpAny_bind (aE4 frs ff fL ge st no du u1 fun h' F' up=>pL F' fun h'' F'' up'=>k h'' F''.tail (up.trans up'))
end
structure Flx (P:Program)(w:World)(outer:List Env)(H:Hp)(s:Shared)(H':Hp)(ea:Addr)(cls:Value)(dd:Option Addr)(s':Shared):Prop where
 os:s'.os=s.os
 bare:AllBare s'.gens
 un:Un (frs outer) [] H H' s.heap s'.heap
 fl : ∃ B:Heap,HOk P w H' B/\FlyD B outer ea cls dd .none s'.heap/\(∀ b o,s.heap.get? b=some o->H b=none->b ∉ frs outer->B.get? b=some o)/\(∀ b o,s.heap.get? b=some o->b ∉ frs outer->∃ o',B.get? b=some o')
def CXg (P:Program)(w:World):CXT:=fun outer H s E e s'=>∃ (ea C:Addr) (dd:Option Addr) (H':Hp),e = .ref ea/\Flx P w outer H s H' ea (.ref C) dd s'/\E (.ref C) dd H'
structure OwnF (X:Cx):Prop where
 stk:X.stack=X.env :: X.outer
 fr:X.env.frame=some X.env.locals
 ex:X.ex=[]
section
variable {X:Cx}{pins:List (Addr × Obj)}{σ:St}{H H':Hp}{s s':Shared}
theorem aAk (O:OwnF X)(I:Inv X pins σ H s){b:Addr}{o:Obj}(e:X.s₀.heap.get? b=some o)(hb:b ∉ frs X.outer):b ∉ frs X.stack:=by
 rw [O.stk]
 intro z
 unfold frs at z hb
 rw [List.filterMap_cons,O.fr] at z
 rcases List.mem_cons.mp z with z | z
 ·exact absurd (Nat.lt_of_lt_of_le (Heap.lt_size e) I.ok.above) (by rw [z]; exact Nat.lt_irrefl _)
 ·exact hb z
theorem aGi (O:OwnF X){b:Addr}(hb:b ∈ frs X.outer):b ∈ frs X.stack:=by
 rw [O.stk]
 unfold frs at *
 rw [List.filterMap_cons,O.fr]
 exact List.mem_cons_of_mem _ hb
theorem aFv (O:OwnF X)(I:Inv X pins σ H s){B h':Heap}(u:Un (frs X.stack) [] H H' s.heap s'.heap)(bk : ∀ b o,X.s₀.heap.get? b=some o->X.H₀ b=none->b ∉ frs X.outer->B.get? b=some o)
  (th : ∀ b o,X.s₀.heap.get? b=some o->b ∉ frs X.outer->∃ o',B.get? b=some o') (st:B.StaysIn h') (up:s'.heap.UpToSlots h'):Un (frs X.outer) [] X.H₀ H' X.s₀.heap h':=by
 have noex : ∀ b:Addr,b ∉ X.ex:=fun b z=>by rw [O.ex] at z; cases z
 have slot : ∀ b o,X.s₀.heap.get? b=some o->X.H₀ b=none->b ∈ frs X.outer->∃ sl,h'.get? b=some { o with slots:=sl }:=fun b o e n hb=>by
  obtain ⟨sl,e1⟩:=I.base.slot b o e n hb (noex b)
  have n1:=I.base.free b o e n (noex b)
  obtain ⟨sl2,e2⟩:=u.slot b _ e1 n1 (aGi O hb) (by simp)
  obtain ⟨_,o',ho',hnf⟩:=I.ok.funs.mem hb
  rw [e] at ho'
  cases ho'
  obtain ⟨sl3,e3⟩:=up b _ e2 (fun vs q=>hnf vs q)
  exact ⟨sl3,e3⟩
 refine ⟨fun b o e n hb _=>st b o (bk b o e n hb),fun b o e n hb _=>slot b o e n hb,fun b o e n _ => ?_,fun b o e _ => ?_,fun b xs e=>u.tups _ _ (I.base.tups _ _ e),fun b o x e=>u.frzs _ _ _ (I.base.frzs _ _ _ e),fun b ps e => ?_⟩
 ·obtain ⟨o1,e1⟩:=I.base.there b o e (noex b)
  exact u.free b o1 e1 (I.base.free b o e n (noex b)) (by simp)
 ·by_cases hb:b ∈ frs X.outer
  ·obtain ⟨sl,q⟩:=slot b o e (I.ok.frf b hb) hb
   exact ⟨_,q⟩
  ·obtain ⟨o2,e2⟩:=th b o e hb
   exact ⟨o2,st b o2 e2⟩
 ·obtain ⟨m1,e1⟩:=I.base.tbls b ps e
  obtain ⟨m2,e2⟩:=u.tbls _ _ e1
  exact ⟨m1 ++ m2,by rw [e2,Array.append_assoc]⟩
theorem aGr (I:Inv X pins σ H s){ea:Addr}(hea:H ea=none):HOk X.prog X.w H (hideAll s.heap (ea :: frs X.stack)):=fun a o e=>(I.hok a o e).stay (fun b u hb q=>hideAll_get _ q fun z=>by
 have n:H b=none:=by
  rcases List.mem_cons.mp z with z | z
  ·rw [z]; exact hea
  ·exact I.stkFree b z
 rcases hb with hb | hb
 ·rw [<- hb] at e; rw [e] at n; cases n
 ·rw [hb] at n; cases n) (fun _ h=>h) (fun _ _ h=>h)
theorem vR (O:OwnF X)(I:Inv X pins σ H s){ea C:Addr}{dd:Option Addr}{ob:Obj}{us:Array Value}{E':Value->Shared->Prop}{Q:Unit->Shared->Prop}(hea:H ea=none)(n0:X.s₀.heap.get? ea=none)(ge:s.heap.get? ea=some ob)
  (hc:ob.cls = .ref C) (hdd:ob.dict=dd) (du:ob.data = .fields us) (u1:us[1]?=some .none)
  (k : ∀ h',Flx X.prog X.w X.outer X.H₀ X.s₀ H ea (.ref C) dd { s with heap:=h' }->Q () { s with heap:=h' }):wpAny (model X.prog X.w) X.A (leaving X.env (.ref ea)) Q E' s:=by
 have nfr:ea ∉ frs X.stack:=fun z=>by
  obtain ⟨_,o',ho',hnf⟩:=I.stack.mem z
  rw [ge] at ho'
  cases ho'
  exact hnf us du
 have hin : ∀ env ∈ X.stack,∀ b,env.frame=some b->b ∈ ea :: frs X.stack:=fun env he b hb=>List.mem_cons_of_mem _ (List.mem_filterMap.mpr ⟨env,he,hb⟩)
 have hfr:X.A.frames=some (X.env :: X.outer):=by rw [<- O.stk]; exact I.ok.frames
 have hl:s.heap.FunFrames (hideAll s.heap (ea :: frs X.stack)) (X.env :: X.outer):=by rw [<- O.stk]; exact funFrames_hide I.stack hin
 have nB:(hideAll s.heap (ea :: frs X.stack)).get? ea=none:=hideAll_none _ (List.mem_cons_self ..)
 have bk : ∀ b o,X.s₀.heap.get? b=some o->X.H₀ b=none->b ∉ frs X.outer->(hideAll s.heap (ea :: frs X.stack)).get? b=some o:=fun b o e n hb=>by
  refine hideAll_get _ (I.base.keep b o e n hb (by rw [O.ex]; simp)) fun z => ?_
  rcases List.mem_cons.mp z with z | z
  ·rw [z,n0] at e; cases e
  ·exact aAk O I e hb z
 have th : ∀ b o,X.s₀.heap.get? b=some o->b ∉ frs X.outer->∃ o',(hideAll s.heap (ea :: frs X.stack)).get? b=some o':=fun b o e hb=>by
  obtain ⟨o1,e1⟩:=I.base.there b o e (by rw [O.ex]; simp)
  refine ⟨o1,hideAll_get _ e1 fun z => ?_⟩
  rcases List.mem_cons.mp z with z | z
  ·rw [z,n0] at e; cases e
  ·exact aAk O I e hb z
 refine aCr (base:=hideAll s.heap (ea :: frs X.stack)) hfr hl O.fr ge (fun b o q=>of_hideAll _ q) nB du u1 fun h' F' up=>k h' ⟨I.os,I.bare,?_,hideAll s.heap (ea :: frs X.stack),aGr I hea,by rw [<- hc,<- hdd]; exact F',bk,th⟩
 exact aFv (s':=s) O I Un.refl bk th F'.st up
end
abbrev cxF (P:Program)(w:World)(K:Frag)(mg:Str->Option Value)(base:Heap)(N:List Str)(qual:Str)(scope:Scope)(f:Addr)(cd:Value)(A:Around)(outer:List Env)(s:Shared)(H:Hp)(E:XK):Cx:=cxOf (CXg P w) P w K mg base N qual scope f cd A outer s H E
section
variable {P:Program}{w:World}{K:Frag}{mg:Str->Option Value}{base:Heap}{N:List Str}{qual:Str}{scope:Scope}{f:Addr}{cd:Value}{A:Around}{outer:List Env}{s:Shared}{H:Hp}{E:XK}
theorem aB2:OwnF (cxF P w K mg base N qual scope f cd A outer s H E):=⟨rfl,rfl,rfl⟩
def XeOk (X:Cx)(E:XK):Prop:=∀ (pins:List (Addr × Obj)) (σ:St) (H:Hp) (s:Shared) (ea C:Addr) (ob:Obj) (us:Array Value),Inv X pins σ H s->H ea=none->X.s₀.heap.get? ea=none->s.heap.get? ea=some ob->ob.cls = .ref C->ob.data = .fields us->us[1]?=some .none->E (.ref C) ob.dict H->X.xe (.ref ea) s
theorem xe_f:XeOk (cxF P w K mg base N qual scope f cd A outer s H E) E:=by
 intro pins σ Hc sc ea C ob us I hea n0 ge hc du u1 hE
 exact vR (X:=cxF P w K mg base N qual scope f cd A outer s H E) aB2 I hea n0 ge hc rfl du u1 fun h'' F'=>⟨ea,C,ob.dict,Hc,rfl,F',hE⟩
end
structure CtK (K:Frag)(D:Addr):Prop where
 ty:typeIn K (.ref D)=some (.type "type")
 ci:(clsIn K D).isSome=true
 sb:subIn K (.ref D) (.type "BaseException")=some true
theorem pN {M:Model}{A:Around}{E:Value->Shared->Prop}{h:Heap}{g:Array GenState}{d:Drawn}{t:Nat}{os:OsState}{e C D:Addr}{o:Obj}{K:Frag}{Q:Bool->Shared->Prop}(X:K.In h)(I:ExAt h e o C)(F:CtK K D)(hs:subIn K (.ref C) (.ref D)=some true)
  (hq:Q true ⟨h,g,d,t,os⟩):wpAny M A (excMatches (.ref e) (.ref D)) Q E ⟨h,g,d,t,os⟩:=by
 have L1:=looks_typeIn (M:=M) X F.ty
 have L2':Looks M h (isType (.ref D)) true:=by
  have hcD:=F.ci
  unfold clsIn at hcD
  split at hcD
  ·rename_i c' d' cd' sl' ho
   intro A' Q' E' s' k q
   unfold isType loadHead
   exact wpAny_bind (wpAny_loadPart (k _ _ (X _ _ ho)) (wpAny_pure q))
  ·cases hcD
 have L3:=looks_subIn (M:=M) X F.sb
 have L4:=looks_subIn (M:=M) X hs
 have L5:=I.type (M:=M)
 have f:=tc_notTuple
 unfold excMatches isInstance
 repeat (first | with_reducible refine L1.at ?_ | with_reducible refine L2'.at ?_ | with_reducible refine L3.at ?_ | with_reducible refine L4.at ?_ | with_reducible refine L5.at ?_ | wp_step)
 exact hq
abbrev bmV:List Value:=[.type "ValueError",.type "Exception",.type "BaseException",.type "object"]
structure ClsObj (h:Heap)(C:Addr)(bmB:List Value)(newId:String):Prop where
 ex : ∃ (nm q:Str) (N:Addr) (bs bm:List Value) (hdct:Bool) (sn:List Str) (sub:List Value) (ab:Bool) (col:Option Bool) (dd:Option Addr) (k0 k1 k2 k3 k5:Option Value) (mN:Str->Option Value),
  h.get? C=some (excClassObj nm q C N bs bm hdct sn sub ab col dd k0 k1 k2 k3 k5 newId)/\h.Ns N mN/\mN "__init__" = none/\OwnTail h bmB bm
theorem yM {P:Program}{w:World}{H:Hp}{h:Heap}{a:Addr}{o:HO}(x:ObjOk P w H h a o) : ∃ ob,h.get? a=some ob:=by
 cases o with
 | lst xs=>obtain ⟨_,_,_,_,e⟩:=x; exact ⟨_,e⟩
 | tup xs=>obtain ⟨_,_,_,ob,e,_⟩:=x; exact ⟨_,e⟩
 | dK kvs=>obtain ⟨_,_,_,_,ob,_,_,e,_⟩:=x; exact ⟨_,e⟩
 | dT kvs=>obtain ⟨_,_,_,_,ob,_,_,e,_⟩:=x; exact ⟨_,e⟩
 | set S n=>obtain ⟨ob,_,_,_,e,_⟩:=x; exact ⟨_,e⟩
 | ins C dx fs=>obtain ⟨_,_,_,e,_⟩:=x; exact ⟨_,e⟩
 | own y=>obtain ⟨_,e⟩:=x; exact ⟨_,e⟩
 | xd fs=>obtain ⟨_,⟨_,_,_,e,_⟩,_⟩:=x; exact ⟨_,e⟩
 | rng lo hi=>obtain ⟨_,_,_,e⟩:=x; exact ⟨_,e⟩
 | frz ob u=>obtain ⟨e,_⟩:=x; exact ⟨_,e⟩
 | tbl ps=>exact ⟨_,(show h.get? a=some _ from x)⟩
 | met f y=>exact ⟨_,(show h.get? a=some _ from x)⟩
 | ext φ=>obtain ⟨_,⟨_,e⟩,_⟩:=x; exact ⟨_,e⟩
def excD (a C:Addr)(dd:Option Addr):HO:=.ext fun h=>∃ o,ExAt h a o C/\o.dict=dd/\∃ us,o.data = .fields us
theorem Inv.absent0 {X:Cx}{pins:List (Addr × Obj)}{σ:St}{H:Hp}{s:Shared}(I:Inv X pins σ H s){e:Addr}(hex:X.ex=[])(n:s.heap.get? e=none):X.s₀.heap.get? e=none:=by
 cases q:X.s₀.heap.get? e with
 | none=>rfl
 | some o =>
  obtain ⟨ob,z⟩:=I.base.there e o q (by rw [hex]; simp)
  rw [n] at z
  cases z
def tRaise (C:Addr)(E:XK)(t:TA):TS:=fun _ σ H=>t σ H fun vs H1=>vs.length<=sizeLine/\E (.ref C) none H1
section
variable {X:Cx}
theorem dD:hZ X (.builtin "isinstance") (fun xs H Q=>∃ a C dd c v b,xs=[.ref a,v]/\H a=some (excD a C dd)/\ExK X.K C/\RelV v c/\kitOne X.K (.ref C) c=some b/\Q (.bl b) H):=by
 intro pins s σ H xs us Q I r h
 obtain ⟨a,C,dd,c,v,b,rfl,hH,F,rc,hk,q⟩:=h
 obtain ⟨u,w',rfl,rx,ry⟩:=wS r
 cases rx
 obtain ⟨⟨o,hi,_⟩,_⟩:=I.hok a _ hH
 have e:w'=c:=by
  have:=ry
  cases v with
  | ref z=>cases ry; cases rc; rfl
  | ty z=>cases ry; cases rc; rfl
  | non=>cases ry; cases rc; rfl
  | bl z=>cases ry; cases rc; rfl
  | int z=>obtain ⟨_,rfl⟩:=rc; simp [kitOne,kitCls] at hk
  | str z=>obtain ⟨_,rfl⟩:=rc; simp [kitOne,kitCls] at hk
  | byt z=>obtain ⟨_,rfl⟩:=rc; simp [kitOne,kitCls] at hk
  | flt z=>obtain ⟨_,rfl⟩:=rc; simp [kitOne,kitCls] at hk
 subst e
 exact kia_one (yT F) I.kIn hi hk (by intro z; cases z) fun tk=>⟨.bl b,H,I.tok _,rfl,q⟩
end
abbrev Cx.within (X:Cx)(v:Value):Cx:={ X with A:=X.A.mark (some v),calm:=false,xe:=fun _ _=>False }
abbrev Cx.trying (X:Cx)(pins:List (Addr × Obj))(E:Value->Shared->Prop):Cx:={ X with pn:=X.pn ++ pins,xe:=E }
section
variable {X:Cx}{pins:List (Addr × Obj)}{σ:St}{H H':Hp}{s s':Shared}
theorem Inv.within (I:Inv X pins σ H s)(v:Value):Inv (X.within v) pins σ H s :=
 ⟨⟨I.ok.mod,I.ok.kind,I.ok.glob,I.ok.blt,I.ok.above,I.ok.inj,I.ok.has,I.ok.cab,(fun h=>(by cases h)),I.ok.frames,I.ok.stk,I.ok.exf,I.ok.bs,I.ok.bsz,I.ok.noex,I.ok.exfs,I.ok.funs,I.ok.frf⟩,I.os,I.bare,I.base,I.loc,I.cell,I.free,I.freeC,I.pin,I.hok,I.len⟩
theorem Inv.without {v:Value}(ok:X.Ok)(I:Inv (X.within v) pins σ H s):Inv X pins σ H s:=⟨ok,I.os,I.bare,I.base,I.loc,I.cell,I.free,I.freeC,I.pin,I.hok,I.len⟩
theorem Inv.trying (I:Inv X pins σ H s)(E:Value->Shared->Prop):Inv (X.trying pins E) [] σ H s :=
 ⟨⟨I.ok.mod,I.ok.kind,I.ok.glob,I.ok.blt,I.ok.above,I.ok.inj,I.ok.has,I.ok.cab,I.ok.hd,I.ok.frames,I.ok.stk,I.ok.exf,I.ok.bs,I.ok.bsz,I.ok.noex,I.ok.exfs,I.ok.funs,I.ok.frf⟩,I.os,I.bare,I.base,I.loc,I.cell,I.free,I.freeC,fun p hp=>I.pin p (by rwa [List.append_nil] at hp),I.hok,I.len⟩
theorem Inv.tried {E:Value->Shared->Prop}{pl:List (Addr × Obj)}(I:Inv (X.trying pins E) pl σ H s):Inv X pins σ H s :=
 ⟨⟨I.ok.mod,I.ok.kind,I.ok.glob,I.ok.blt,I.ok.above,I.ok.inj,I.ok.has,I.ok.cab,I.ok.hd,I.ok.frames,I.ok.stk,I.ok.exf,I.ok.bs,I.ok.bsz,I.ok.noex,I.ok.exfs,I.ok.funs,I.ok.frf⟩,I.os,I.bare,I.base,I.loc,I.cell,I.free,I.freeC,fun p hp=>I.pin p (List.mem_append_left _ hp),I.hok,I.len⟩
theorem SP.tried {E:Value->Shared->Prop}{D:Ends}{f:Flow}(h:SP (X.trying pins E) [] D f s):SP X pins D f s:=by
 cases f with
 | next=>obtain ⟨σ',H',I,q⟩:=h; exact ⟨σ',H',I.tried,q⟩
 | brk=>obtain ⟨σ',H',I,q⟩:=h; exact ⟨σ',H',I.tried,q⟩
 | cont=>obtain ⟨σ',H',I,q⟩:=h; exact ⟨σ',H',I.tried,q⟩
 | ret u=>obtain ⟨v,σ',H',I,r,q⟩:=h; exact ⟨v,σ',H',I.tried,r,q⟩
theorem Inv.track (I:Inv X pins σ H s){a:Addr}{u:HO}(hn:H a=none)(h0:X.s₀.heap.get? a=none)(hL:a ≠ X.env.locals)(hc : ∀ x c,X.env.cells.lookup x=some c->c ≠ a)(hp : ∀ p ∈ X.pn ++ pins,p.1 ≠ a)
  (ok:ObjOk X.prog X.w (upd H a u) s.heap a u):Inv X pins σ (upd H a u) s:=by
 have old : ∀ b o,X.s₀.heap.get? b=some o->b ≠ a:=fun b o e z=>by rw [z,h0] at e; cases e
 have trk : ∀ b o,H b=some o->b ≠ a:=fun b o e=>cH e hn
 refine ⟨I.ok,I.os,I.bare,⟨I.base.keep,I.base.slot,fun b o e n hx => ?_,I.base.there,fun b xs e => ?_,fun b o x e => ?_,fun b ps e => ?_⟩,I.loc,I.cell,?_,fun x c e => ?_,fun p q => ?_,fun b o e => ?_,I.len⟩
 ·rw [aL (old b o e)]
  exact I.base.free b o e n hx
 ·have z:=I.base.tups b xs e
  rw [aL (trk _ _ z)]
  exact z
 ·have z:=I.base.frzs b o x e
  rw [aL (trk _ _ z)]
  exact z
 ·obtain ⟨m,z⟩:=I.base.tbls b ps e
  exact ⟨m,by rw [aL (trk _ _ z)]; exact z⟩
 ·rw [aL (Ne.symm hL)]
  exact I.free
 ·rw [aL (hc x c e)]
  exact I.freeC x c e
 ·obtain ⟨a1,a2,a3⟩:=I.pin p q
  exact ⟨a1,by rw [aL (hp p q)]; exact a2,a3⟩
 ·by_cases hb:b=a
  ·subst hb
   rw [aB] at e
   cases e
   exact ok
  ·rw [aL hb] at e
   exact (I.hok b o e).stay (fun _ _ _ q=>q) (fun c q=>by rw [aL (trk _ _ q)]; exact q) (fun c xs q=>by rw [aL (trk _ _ q)]; exact q)
theorem aA2 (I:Inv X pins σ H s){B h':Heap}(u:Un (frs X.stack) [] H H' s.heap s'.heap)(bk : ∀ b o,s.heap.get? b=some o->H b=none->b ∉ frs X.stack->B.get? b=some o)
  (th : ∀ b o,s.heap.get? b=some o->b ∉ frs X.stack->∃ o',B.get? b=some o') (st:B.StaysIn h') (up:s'.heap.UpToSlots h'):Un (frs X.stack) [] H H' s.heap h':=by
 have slot : ∀ b o,s.heap.get? b=some o->H b=none->b ∈ frs X.stack->∃ sl,h'.get? b=some { o with slots:=sl }:=fun b o e n hb=>by
  obtain ⟨sl,e1⟩:=u.slot b o e n hb (by simp)
  obtain ⟨_,o',ho',hnf⟩:=I.stack.mem hb
  rw [e] at ho'
  cases ho'
  obtain ⟨sl3,e3⟩:=up b _ e1 (fun vs q=>hnf vs q)
  exact ⟨sl3,e3⟩
 refine ⟨fun b o e n hb _=>st b o (bk b o e n hb),fun b o e n hb _=>slot b o e n hb,u.free,fun b o e _ => ?_,u.tups,u.frzs,u.tbls⟩
 by_cases hb:b ∈ frs X.stack
 ·obtain ⟨sl,q⟩:=slot b o e (I.stkFree b hb) hb
  exact ⟨_,q⟩
 ·obtain ⟨o2,e2⟩:=th b o e hb
  exact ⟨o2,st b o2 e2⟩
theorem uX {M:Model}{A:Around}{E:Value->Shared->Prop}{i:Nat}{n:Str}{pos:Pos}{Q:Unit->Shared->Prop}(I:Inv X pins σ H s)(hN:X.N.Nodup)(hi:X.N[i]?=some n)(hk:X.env.scope.names.lookup n=some .local)
  (h : ∀ s',Inv X pins (σ.set i none) H s'->Q () s'):wpAny M A (do bindName X.env n .none; unbindBehindTheSuite X.env n pos) Q E s:=by
 obtain ⟨m,hn,hl⟩:=id I.loc
 have hcls:(X.env.scope.kind == .class || (X.env.scope.kind == .module && X.env.locals != X.env.globals))=false:=by rw [I.ok.kind]; rfl
 have hiσ:i < σ.length:=by rw [I.len]; exact (List.getElem?_eq_some_iff.mp hi).1
 refine wpAny_nameGoes_keeps hk hn hcls fun h' v hn' hs => ?_
 have ne : ∀ b o,X.s₀.heap.get? b=some o->b ≠ X.env.locals:=fun b o e=>Nat.ne_of_lt (Nat.lt_of_lt_of_le (Heap.lt_size e) I.ok.above)
 refine h _ ⟨I.ok,I.os,I.bare,⟨fun b o e n hb hx=>(hs.2 b (ne b o e)).trans (I.base.keep b o e n hb hx),fun b o e n hb hx => ?_,I.base.free,fun b o e hx => ?_,I.base.tups,I.base.frzs,I.base.tbls⟩,⟨_,hn',fun j y v' e1 e2 e3 => ?_⟩,fun y c e => ?_,I.free,I.freeC,fun p hp => ?_,fun b ob e => ?_,by rw [List.length_set]; exact I.len⟩
 ·obtain ⟨sl,e1⟩:=I.base.slot b o e n hb hx
  exact ⟨sl,(hs.2 b (ne b o e)).trans e1⟩
 ·obtain ⟨o',e1⟩:=I.base.there b o e hx
  exact ⟨o',(hs.2 b (ne b o e)).trans e1⟩
 ·by_cases hj:j=i
  ·subst hj
   rw [List.getElem?_set_self hiσ] at e2
   cases e2
  ·rw [List.getElem?_set_ne (Ne.symm hj)] at e2
   obtain ⟨u',r',q⟩:=hl j y v' e1 e2 e3
   refine ⟨u',r',?_⟩
   rcases q with ⟨k,e⟩ | ⟨k,c,e,z⟩
   ·refine .inl ⟨k,?_⟩
    have ny:y ≠ n:=fun e=>hj (lR hN e1 (e ▸ hi))
    simp [ny,e]
   ·exact .inr ⟨k,c,e,z.sameBut hs (I.cne y c e)⟩
 ·obtain ⟨v',q⟩:=I.cell y c e
  exact ⟨v',q.sameBut hs (I.cne y c e)⟩
 ·obtain ⟨a1,a2,a3,a4⟩:=I.pin p hp
  exact ⟨(hs.2 p.1 a3).trans a1,a2,a3,a4⟩
 ·refine (I.hok b ob e).stay (fun c w' hc q=>(hs.2 c ?_).trans q) (fun _ q=>q) fun _ _ q=>q
  intro z
  rw [z] at hc
  rcases hc with hc | hc
  ·rw [<- hc,I.free] at e
   cases e
  ·rw [I.free] at hc
   cases hc
theorem xQ {P:Program}{w:World}{X:Cx}:gG (CXg P w) X E0:=fun _ _ _ _ _ _ _ h=>by
 obtain ⟨_,_,_,_,_,_,z⟩:=h
 exact z.elim
def tTry (K:Frag)(N j:Nat)(Dc:Addr)(tb:XK->TS):TS:=fun D σ H=>tb (fun cls dd H'=>∃ C,cls = .ref C/\ExK K C/\subIn K (.ref C) (.ref Dc)=some true/\∀ a,H' a=none->D.nx ((List.replicate N none).set j (some (.ref a))) (upd H' a (excD a C dd))) D σ H
end
def xiIn (K:Frag)(C P f:Addr):Bool:=match K.lookup C with
 | some ⟨.type "type",_,.cls cd,sl⟩=>(match cd.mro,sl.toList with
  | .ref C' :: .ref P' :: bm,[_,_,_,_,some (.builtin n),_]=>C' == C && P' == P && n == "ValueError.__new__" && !cd.hasDel && cd.hasDict && tailIn K bmV (.ref P' :: bm) && nsOkIn K cd.ns && nsIn K cd.ns "__init__" == some (some (.ref f)) && bm == bmV
  | _,_=>false)
 | _=>false
structure ClsI (h:Heap)(C P f:Addr):Prop where
 ex : ∃ (nm q:Str) (N:Addr) (bs:List Value) (sn:List Str) (sub:List Value) (ab:Bool) (col:Option Bool) (dd:Option Addr) (k0 k1 k2 k3 k5:Option Value) (mN:Str->Option Value),
  h.get? C=some (excClassObj nm q C N bs (.ref P :: bmV) true sn sub ab col dd k0 k1 k2 k3 k5 "ValueError.__new__")/\h.Ns N mN/\mN "__init__" = some (.ref f)/\OwnTail h bmV (.ref P :: bmV)
theorem jA {K:Frag}{h:Heap}{N:Addr}{x:Str}{v:Value}(X:K.In h)(hok:nsOkIn K N=true)(e:nsIn K N x=some (some v)):h.nsMap N x=some v:=by
 have G:h.Ns N (h.nsMap N):=.of_isNs (isNs_of_in X hok)
 obtain ⟨o,es,ep,ho,hd,_,hf⟩:=G
 unfold nsIn at e
 split at e
 ·rename_i c d es' n' sl q
  have z:=X _ _ q
  rw [ho] at z
  cases z
  cases hd
  split at e
  ·rename_i en he
   cases e
   rw [<- hf]
   unfold nsFind findBy
   rw [<- Array.find?_toList,he]
   rfl
  ·split at e <;> cases e
 ·cases e
theorem lY {K:Frag}{h:Heap}{C P f:Addr}(X:K.In h)(q:xiIn K C P f=true):ClsI h C P f:=by
 unfold xiIn at q
 split at q
 case h_2=>cases q
 case h_1 dd cd sl ho =>
  split at q
  case h_2=>cases q
  case h_1 C' P' bm k0 k1 k2 k3 n k5 hm hs =>
   simp only [Bool.and_eq_true,beq_iff_eq,Bool.not_eq_true'] at q
   obtain ⟨⟨⟨⟨⟨⟨⟨⟨e1,e0⟩,e2⟩,hdel⟩,hdi⟩,ht⟩,hok⟩,hni⟩,e3⟩:=q
   cases e1
   cases e0
   cases e2
   cases e3
   obtain ⟨nm,bs,mro,ns,qn,hd,sn,sub,ab,col,del⟩:=cd
   obtain ⟨sl⟩:=sl
   dsimp only at hm hdel hok hni hs hdi
   subst hm hdel hs hdi
   exact ⟨nm,qn,ns,bs,sn,sub,ab,col,dd,k0,k1,k2,k3,k5,_,X _ _ ho,.of_isNs (isNs_of_in X hok),jA X hok hni,tail_of_in X ht⟩
section
variable {prog:Program}{w:World}{A:Around}{E:Value->Shared->Prop}{h:Heap}{g:Array GenState}{d:Drawn}{t:Nat}{os:OsState}{K:Frag}{C P f:Addr}
abbrev iI (h:Heap)(C:Addr)(rest:List Value):Heap:=(h.push { cls:=.type "tuple",data:=.seq rest.toArray }).push { cls:=.ref C,data:=.fields #[.ref h.objs.size,.none,.none,.none,.bool false,.none] }
theorem lV {rest:List Value}{Q:Fin->Shared->Prop}(X:K.In h)(I:ClsI h C P f)(hf:typeIn K (.ref f)=some (.type "function"))(hrest:rest.length<=sizeLine)
  (hq:codeAny (model prog w) A (.call (.ref f) ⟨.ref (h.objs.size+1) :: rest,[]⟩) (fun r s'=>match r with
   | .ok (.ret v)=>v = .none/\Q (.done (.ret (.ref (h.objs.size+1)))) s'
   | .ok _=>False
   | .error e=>E e s') ⟨iI h C rest,g,d,t,os⟩) :
  wpAny (model prog w) A (Builtin.«type.__call__» ⟨.ref C :: rest,[]⟩) Q E ⟨h,g,d,t,os⟩:=by
 obtain ⟨nm,q,N,bs,sn,sub,ab,col,dd,k0,k1,k2,k3,k5,mN,hC,hn,hni,T⟩:=I.ex
 have F:=PySem.F.excBase_ValueError
 repeat (first | with_reducible refine wpAny_loadPart_at hC ?_ | with_reducible refine wpAny_madeBy_exc hC ?_ | wp_step)
 refine codeAny_call_builtin_code (Code.quiet_builtin _ F.quiet) (wpAny_check_new_subU F F.hasB T hC ?_)
 refine codeAny_exc_new_subU F F.hasB F T hC ?_ hrest
 show wpAny _ _ _ _ _ _
 have keep : ∀ b o,h.get? b=some o->(iI h C rest).get? b=some o:=fun b o e=>Heap.get?_push_of_some _ (Heap.get?_push_of_some _ e)
 have hC1:=keep _ _ hC
 have hn1:(iI h C rest).Ns N mN:=hn.keeps keep
 have hget:(iI h C rest).get? (h.objs.size+1)=some { cls:=.ref C,data:=.fields #[.ref h.objs.size,.none,.none,.none,.bool false,.none] }:=by unfold iI; heap_get
 have hcC:(Value.ref C :: Value.ref P :: bmV).contains (.ref C)=true:=by simp
 have T1:=T.keeps keep
 have B1:=bind_fn (M:=model prog w) (X.keeps keep) (.ref (h.objs.size+1)) hf
 unfold isInstance
 repeat (first | with_reducible refine wpAny_loadPart_at hget ?_ | (with_reducible refine wpAny_isSubtype_exc hC1 ?_; rw [hcC]) | wp_step)
 show wpAny _ _ (typeLookup (.ref C) _) _ _ _
 refine wpAny_typeLookup_tail hC1 hn1 T1 F.mroIs F.init.lookup ?_
 rw [hni]
 refine wpAny_holding (wpAny_bind (B1.at ?_))
 refine wpAny_bind (wpAny_call (codeAny_mono hq fun r s' z => ?_))
 cases r with
 | error e=>exact z
 | ok fl =>
  cases fl with
  | ret v =>
   obtain ⟨rfl,z⟩:=z
   exact wpAny_pure (wpAny_pure z)
  | next=>exact z.elim
  | brk=>exact z.elim
  | cont=>exact z.elim
theorem zM {rest:List Value}{R:Result->Shared->Prop}(X:K.In h)(I:ClsI h C P f)(hf:typeIn K (.ref f)=some (.type "function"))(hrest:rest.length<=sizeLine)
  (hq:codeAny (model prog w) (A.under (.builtin "type.__call__" ⟨.ref C :: rest,[]⟩)) (.call (.ref f) ⟨.ref (h.objs.size+1) :: rest,[]⟩) (InitBack (h.objs.size+1) R) ⟨iI h C rest,g,d,t,os⟩) :
  codeAny (model prog w) A (.call (.ref C) ⟨rest,[]⟩) R ⟨h,g,d,t,os⟩:=by
 obtain ⟨nm,q,N,bs,sn,sub,ab,col,dd,k0,k1,k2,k3,k5,mN,hC,hn,hni,T⟩:=id I.ex
 have f1:=tc_lookup
 have f2:=tc_bind (.ref C)
 have hT:(⟨h,g,d,t,os⟩:Shared).TypeIs (.ref C) "type" := ⟨_,hC,rfl⟩
 refine codeAny_of_tree ?_
 show wpAny _ _ (callAny (.ref C) _) _ _ _
 repeat (any_goals (first | assumption | with_reducible refine wpAny_loadPart_at hC ?_ | wp_step))
 refine ⟨rfl,?_⟩
 refine codeAny_call_builtin_at (Code.quiet_builtin _ (by decide +kernel)) entry_typeCall (wpAny_check_type_call_sub hC (lV X I hf hrest (codeAny_mono hq fun r s' z => ?_)))
 cases r with
 | error e=>exact z
 | ok fl =>
  cases fl with
  | ret v=>exact z
  | next=>exact z.elim
  | brk=>exact z.elim
  | cont=>exact z.elim
end
def exN (a C:Addr)(dd:Option Addr):HO:=.ext fun h=>∃ o t,(h.get? a=some o/\o.cls = .ref C/\o.dict=dd)/\o.data = .fields #[t,.none,.none,.none,.bool false,.none]
def rem (H:Hp)(a:Addr):Hp:=fun b=>if b=a then none else H b
theorem mT {H:Hp}{a b:Addr}(h:b ≠ a):rem H a b=H b:=by unfold rem; rw [if_neg h]
theorem lM {H:Hp}{a:Addr}:rem H a a=none:=by unfold rem; rw [if_pos rfl]
section
variable {X:Cx}{pins:List (Addr × Obj)}{σ:St}{H:Hp}{s:Shared}
theorem Inv.drop (I:Inv X pins σ H s){a:Addr}{φ:Heap->Prop}(ha:H a=some (.ext φ)):Inv X pins σ (rem H a) s:=by
 have nn : ∀ b,H b=none->rem H a b=none:=fun b h=>by
  by_cases z:b=a
  ·rw [z]; exact lM
  ·rw [mT z]; exact h
 have oo : ∀ b o,H b=some o->(∀ ψ,o ≠ .ext ψ)->rem H a b=some o:=fun b o h n=>by
  by_cases z:b=a
  ·subst z; rw [h] at ha; cases ha; exact absurd rfl (n φ)
  ·rw [mT z]; exact h
 refine ⟨I.ok,I.os,I.bare,⟨I.base.keep,I.base.slot,fun b o e n hx=>nn b (I.base.free b o e n hx),I.base.there,fun b xs e=>oo b _ (I.base.tups b xs e) (fun _ z=>by cases z),fun b o x e=>oo b _ (I.base.frzs b o x e) (fun _ z=>by cases z),fun b ps e => ?_⟩,I.loc,I.cell,nn _ I.free,fun x c e=>nn _ (I.freeC x c e),fun p hp => ?_,fun b o e => ?_,I.len⟩
 ·obtain ⟨m,z⟩:=I.base.tbls b ps e
  exact ⟨m,oo b _ z (fun _ q=>by cases q)⟩
 ·obtain ⟨a1,a2,a3⟩:=I.pin p hp
  exact ⟨a1,nn _ a2,a3⟩
 ·by_cases z:b=a
  ·rw [z,lM] at e; cases e
  ·rw [mT z] at e
   exact (I.hok b o e).stay (fun _ _ _ q=>q) (fun c q=>oo c _ q (fun _ z=>by cases z)) (fun c xs q=>oo c _ q (fun _ z=>by cases z))
theorem Inv.exnew (I:Inv X pins σ H s)(C:Addr)(us:List Value):Inv X pins σ (upd H (s.heap.objs.size+1) (exN (s.heap.objs.size+1) C none)) { s with heap:=iI s.heap C us }:=by
 refine I.laid (a:=s.heap.objs.size+1) (t':=s.toks) (fun b u e=>Heap.get?_push_of_some _ (Heap.get?_push_of_some _ e)) (Nat.le_succ _) ?_
 have hget:(iI s.heap C us).get? (s.heap.objs.size+1)=some { cls:=.ref C,data:=.fields #[.ref s.heap.objs.size,.none,.none,.none,.bool false,.none] }:=by unfold iI; heap_get
 exact ⟨⟨_,_,⟨hget,rfl,rfl⟩,rfl⟩,⟨_,hget⟩,fun h1 h2 ⟨o,t,⟨e1,e2,e3⟩,e4⟩ k=>⟨o,t,⟨k o e1,e2,e3⟩,e4⟩⟩
theorem rN {M:Model}{A:Around}{E:Value->Shared->Prop}{env:Env}{x:Sem Value}{C:Addr}{K:Frag}{s:Shared}{Q:Flow->Shared->Prop}(hh:A.handled=none)(F:ExK K C)(hk : ∃ oC,K.lookup C=some oC/\oC.cls = .type "type")
  (h:wpAny M A x (fun v s₁=>K.In s₁.heap/\∃ e ob us,v = .ref e/\s₁.heap.get? e=some ob/\ob.cls = .ref C/\ob.data = .fields us/\us[1]?=some .none/\E (.ref e) s₁) E s):wpAny M A (raiseStmt env (some x) none) Q E s:=by
 unfold raiseStmt
 refine wpAny_bind (wpAny_mono h (fun v s₁ h₁ => ?_) fun _ _ x=>x)
 obtain ⟨KX,e,ob,us,rfl,he,hc,hd,h1,hE⟩:=h₁
 obtain ⟨hp,g,d,tk,os⟩:=s₁
 have L1:=looks_subIn (M:=M) KX F.sb
 obtain ⟨⟨cC,dC,tC,sC⟩,hkC,hkc⟩:=hk
 have hC:=KX _ _ hkC
 dsimp only at hkc
 subst hkc
 obtain ⟨oc,od,odt,osl⟩:=ob
 dsimp only at hc hd
 subst hc hd
 have h1':=h1
 repeat (first | with_reducible refine wpAny_loadPart_at he ?_ | with_reducible refine wpAny_loadPart_at hC ?_ | with_reducible refine L1.at ?_ | wp_step)
 rw [h1]
 refine wpAny_pure ?_
 rw [if_neg (by decide)]
 exact wpAny_pure (wpAny_raiseNew_none hh hE)
end
theorem wR {K:Frag}{C P f:Addr}(q:xiIn K C P f=true) : ∃ oC,K.lookup C=some oC/\oC.cls = .type "type" := by
 unfold xiIn at q
 split at q
 ·rename_i ho
  exact ⟨_,ho,rfl⟩
 ·cases q
structure ExI (K:Frag)(C P f:Addr):Prop where
 xi:xiIn K C P f=true
 fn:typeIn K (.ref f)=some (.type "function")
 kp:keepIn K (.ref C)=true
 k:ExK K C
def aA6 (C:Addr)(sp:Sp)(E:XK)(t:TA):TS:=fun _ σ H=>t σ H fun vs H1=>vs.length<=sizeLine/\∀ e,H1 e=none ->
 sp (.ref e :: vs) (upd H1 e (exN e C none)) (fun v H2=>v = .non/\∃ dd,H2 e=some (exN e C dd)/\E (.ref C) dd (rem H2 e)) E0
section
variable {X:Cx}
theorem uF {x:Str}{C P f:Addr}{fd:FuncData}{ps:List Str}{sp:Sp}{k:Nat}{e₀:Expr}{es:List Expr}{t:TA}{E:XK}{np cpos pos:Pos}(hex:X.ex=[])(hX:XeOk X E)(hc:X.calm=true)(hr:Room (k+1) X.A)(hg:Gl X x)(hm:X.mg x=some (.ref C))(hei:ExI X.K C P f)
  (F:FnOk X.prog X.w X.K X.mg X.base CX0 k f fd ps sp) (hb:Binds X.K fd ps []) (ha:PA X (e₀ :: es) t)
  (hdb:(x == ("__debug__" : Str))=false:=by decide) (he:starEach (e₀ :: es) X.env=(false,eval e₀ X.env) :: starEach es X.env:=by rfl) (hpl:(backTo cpos (starEach es X.env)).any (·.1)=false:=by rfl) :
  PS X (.Raise (some (.Call (.Name x np) (e₀ :: es) [] cpos)) none pos) (aA6 C sp E t):=by
 intro pins s σ H D I h
 rw [arm_exec_Raise]
 refine wpAny_bind (wpAny_standAt (rN (C:=C) (K:=X.K) (I.ok.hd hc) hei.k (wR hei.xi) ?_))
 refine wpAny_bind (thn (Q:=fun v s₁=>X.K.In s₁.heap/\∃ e ob us,v=Value.ref e/\s₁.heap.get? e=some ob/\ob.cls = .ref C/\ob.data = .fields us/\us[1]?=some .none/\X.xe (.ref e) s₁) ?_ fun v s1 q=>wpAny_bind (wpAny_standAt (wpAny_pure q)))
 refine wpAny_Call_Name_kw (fN I hg hm ?_ hdb)
 refine PySem.W.callWith_K (h₀:=X.base) I.ok.mod.kin hei.kp (thn (ha cpos pins s σ H _ I h) fun us s1 ⟨vs,H1,I1,r,hl,q⟩=>⟨I1.kIn,?_⟩) he hpl
 have hn:H1 (s1.heap.objs.size+1)=none:=I1.hok.fresh (Nat.le_succ _)
 have hq:=q (s1.heap.objs.size+1) hn
 have I2:=I1.exnew C us
 have r2:Vals (V.ref (s1.heap.objs.size+1) :: vs) (Value.ref (s1.heap.objs.size+1) :: us):=.cons rfl r
 have hlen:(Value.ref (s1.heap.objs.size+1) :: us ++ []).length=ps.length:=by
  have e:=r2.length
  rw [F.len _ _ _ _ hq] at e
  rw [List.append_nil]
  exact e.symm
 have n0:X.s₀.heap.get? (s1.heap.objs.size+1)=none:=I1.absent0 hex (Heap.get?_none_of_le (Nat.le_succ _))
 obtain ⟨hh,g,d,tk,os⟩:=s1
 refine wpAny_call (zM (f:=f) (P:=P) I1.kIn (lY I1.kIn hei.xi) hei.fn (by show us.length<=sizeLine; rw [<- r.length]; exact hl) (codeAny_mono (F.run _ X.stack _ _ ⟨Value.ref (hh.objs.size+1) :: us,[]⟩ (Value.ref (hh.objs.size+1) :: us) _ _ E0 (hr.make C us [])
  (I2.env0.make C us []) (by have z:=hb _ (Value.ref (hh.objs.size+1) :: us) I2.kIn hlen; rw [List.append_nil] at z; exact z) r2 hq) fun r s' hq' => ?_))
 cases r with
 | error e=>exact hq'.elim
 | ok fl =>
  cases fl with
  | ret u =>
   obtain ⟨v,H',I3,rv,ev,dd,hd,hE⟩:=I2.after hq'
   subst ev
   refine ⟨rv,?_⟩
   obtain ⟨⟨o,t',⟨o1,o2,o3⟩,o4⟩,_⟩:=I3.hok _ _ hd
   exact ⟨I3.kIn,_,o,_,rfl,o1,o2,o4,rfl,hX pins σ _ s' _ C o _ (I3.drop hd) lM n0 o1 o2 o4 rfl (by rw [o3]; exact hE)⟩
  | next=>exact hq'.elim
  | brk=>exact hq'.elim
  | cont=>exact hq'.elim
end
end L2
namespace L2
open PySem PySem.Spec PyProof.Rows PySem.W PySem.Builtin PySem.Builtin.ObjectAttr
theorem rM (self:Value):refuseLoop self "__setattr__" bmV=pure ():=by
 kernel_rfl
section
variable {prog:Program}{w:World}{A:Around}{E:Value->Shared->Prop}{h:Heap}{g:Array GenState}{d:Drawn}{t:Nat}{os:OsState}{K:Frag}{C P f a:Addr}{o:Obj}{name:Str}{v:Value}
theorem nS {Q:Unit->Shared->Prop}(X:K.In h)(I:ClsI h C P f)(F:ExK K C)(sa:findIn K (.ref C) "__setattr__" = some (some (.builtin "object.__setattr__")))(nn:findIn K (.ref C) name=some none)(O:ExAt h a o C)
  (hq : ∀ A' tk,wpAny (model prog w) A' (storeInOwnDict (.ref a) (.ref C) (.str name tk) name v false) (fun fin s'=>∃ u,fin = .done (.ret u)/\Q () s') (fun _ _=>False) ⟨h,g,d,t+1,os⟩) :
  wpAny (model prog w) A (setAttr (.ref a) name v) Q E ⟨h,g,d,t,os⟩:=by
 obtain ⟨nm,q,N,bs,sn,sub,ab,col,dd,k0,k1,k2,k3,k5,mN,hC,hn,hni,T⟩:=I.ex
 have SF:=PySem.F.store_object
 have L1:=O.type (M:=model prog w)
 have L2':=looks_findIn (M:=model prog w) X sa
 have L3:=looks_findIn (M:=model prog w) X nn
 have L4:Looks (model prog w) h (isInstance (.ref a) (.type "object")) true:=L1.andThen (looks_subIn X F.so)
 refine wpAny_bind (wpAny_mkText (wpAny_bind (wpAny_bind (wpAny_bind (L1 _ _ _ _ (fun _ _ e=>e) (L2' _ _ _ _ (fun _ _ e=>e) (wpAny_holding ?_)))))))
 rw [SF.slot.bind]
 refine wpAny_bind (wpAny_pure (wpAny_bind (wpAny_call ?_)))
 refine codeAny_call_builtin SF.slot.plain SF.entry (@check_slot (model prog w) _ _ _ "object.__setattr__" "object" "__setattr__" (.ref a) [.str name t,v] [] _ SF.kind SF.split L4 (SF.args (.ref a) (.str name t) v) ?_)
 show wpAny _ _ (Builtin.«object.__setattr__» ⟨[.ref a,.str name t,v],[]⟩) _ _ _
 rw [osa_eq,refuse_eq]
 refine wpAny_bind (wpAny_bind (L1.here (wpAny_bind (wpAny_mroOf_exc hC ?_))))
 rw [refuseLoop_ref,refuseLoop_ref,rM]
 refine wpAny_pure (wpAny_bind (L1.here (wpAny_bind (L3.here (wpAny_bind (wpAny_pure ?_))))))
 refine wpAny_mono (hq _ t) (fun fin s' z => ?_) fun _ _ z=>z.elim
 obtain ⟨u,rfl,z⟩:=z
 exact wpAny_pure (wpAny_pure z)
theorem vJ {Q:Option Addr->Shared->Prop}(I:ClsI h C P f)(O:ExAt h a o C)(hd:o.dict=none){us:Array Value}(hf:o.data = .fields us)
  (hq:Q (some h.objs.size) ⟨(h.push { cls:=.type "dict",data:=.dict #[] }).update a fun ob=>{ ob with dict:=some h.objs.size },g,d,t,os⟩):wpAny (model prog w) A (instanceDict a true) Q E ⟨h,g,d,t,os⟩:=by
 obtain ⟨nm,q,N,bs,sn,sub,ab,col,dd,k0,k1,k2,k3,k5,mN,hC,hn,hni,T⟩:=I.ex
 have hx:=O.at_
 obtain ⟨oc,od,odt,osl⟩:=o
 have hc:=O.cls
 dsimp only at hd hf hc
 subst hd hf hc
 have hx1:(h.push { cls:=.type "dict",data:=.dict #[] }).get? a=some ⟨.ref C,none,.fields us,osl⟩:=Heap.get?_push_of_some _ hx
 unfold instanceDict
 repeat (first | with_reducible refine wpAny_loadPart_at hx ?_ | with_reducible refine wpAny_loadPart_at hC ?_ | wp_step)
 exact hq
theorem vI {Q:Option Addr->Shared->Prop}{dx:Addr}(I:ClsI h C P f)(O:ExAt h a o C)(hd:o.dict=some dx)(hq:Q (some dx) ⟨h,g,d,t,os⟩)(b:Bool):wpAny (model prog w) A (instanceDict a b) Q E ⟨h,g,d,t,os⟩:=by
 obtain ⟨nm,q,N,bs,sn,sub,ab,col,dd,k0,k1,k2,k3,k5,mN,hC,hn,hni,T⟩:=I.ex
 have hx:=O.at_
 obtain ⟨oc,od,odt,osl⟩:=o
 have hc:=O.cls
 dsimp only at hd hc
 subst hd hc
 unfold instanceDict
 repeat (first | with_reducible refine wpAny_loadPart_at hx ?_ | with_reducible refine wpAny_loadPart_at hC ?_ | wp_step)
 exact hq
theorem wX {Q:Fin->Shared->Prop}{dx:Addr}{mA:Str->Option Value}{ns:List Str}{tk:Tok}(hn:h.Ns1 dx mA)(hw:Within mA ns)(hz:ns.length<=100)
  (hq : ∀ h' tk',h'.Ns1 dx (fun y=>if y=name then some v else mA y)->(∀ b ob,b ≠ dx->h.get? b=some ob->h'.get? b=some ob)->Q (.done (.ret .none)) ⟨h',g,d,tk',os⟩) :
  wpAny (model prog w) A (storeInDict dx (.str name tk) name v) Q E ⟨h,g,d,t,os⟩:=by
 unfold storeInDict newKeyGuard
 refine wpAny_bind (wpAny_pure (wpAny_bind (wpAny_nsSet1 hn fun h' hn' hs => ?_)))
 obtain ⟨oD,esD,epD,hoD,hdD,hcD⟩:=hn'.count (Within.cons name v hw)
 refine wpAny_bind (wpAny_lookBehind hoD (by rw [hdD]; exact pastItsLine_dict (Nat.le_trans hcD (by rw [List.length_cons,sizeLine_eq]; omega))) ?_)
 exact wpAny_pure (hq h' _ hn' fun b ob nb q=>(hs.2 b nb).trans q)
theorem pM {Q:Unit->Shared->Prop}(X:K.In h)(I:ClsI h C P f)(F:ExK K C)(sa:findIn K (.ref C) "__setattr__" = some (some (.builtin "object.__setattr__")))(nn:findIn K (.ref C) name=some none)(O:ExAt h a o C)(hd:o.dict=none){us:Array Value}(hf:o.data = .fields us)
  (hq : ∀ h' tk,h'.Ns1 h.objs.size (fun y=>if y=name then some v else none)->h'.get? a=some { o with dict:=some h.objs.size }->(∀ b ob,b ≠ a->h.get? b=some ob->h'.get? b=some ob)->Q () ⟨h',g,d,tk,os⟩) :
  wpAny (model prog w) A (setAttr (.ref a) name v) Q E ⟨h,g,d,t,os⟩:=by
 refine nS X I F sa nn O fun A' tk => ?_
 have hx:=O.at_
 have ne:a ≠ h.objs.size:=Nat.ne_of_lt (Heap.lt_size hx)
 have hx1:(h.push { cls:=.type "dict",data:=.dict #[] }).get? a=some o:=Heap.get?_push_of_some _ hx
 unfold storeInOwnDict
 refine wpAny_bind (wpAny_pure ?_)
 show wpAny _ _ (ownDictForStores (.ref a) >>= _) _ _ _
 refine wpAny_bind (vJ I O hd hf ?_)
 have hgd:((h.push { cls:=.type "dict",data:=.dict #[] }).update a fun ob=>{ ob with dict:=some h.objs.size }).get? h.objs.size=some { cls:=.type "dict",data:=.dict #[] } :=
  (Heap.get?_update_other _ _ ne).trans (Heap.get?_push_at rfl rfl)
 have hga:((h.push { cls:=.type "dict",data:=.dict #[] }).update a fun ob=>{ ob with dict:=some h.objs.size }).get? a=some { o with dict:=some h.objs.size }:=by
  refine Heap.get?_update_self _ hx1 ?_
  obtain ⟨oc,od,odt,osl⟩:=o
  dsimp only at hf
  subst hf
  rfl
 have hnd:((h.push { cls:=.type "dict",data:=.dict #[] }).update a fun ob=>{ ob with dict:=some h.objs.size }).Ns h.objs.size (fun _=>none):=⟨_,#[],_,hgd,rfl,fun e he=>absurd he (by simp),fun _=>rfl⟩
 refine wX (Heap.Ns1.of_empty hnd) (ns:=[]) Within.nil (by decide) fun h' tk' hn' hk=>⟨_,rfl,hq h' tk' hn' (hk a _ ne hga) fun b ob nb q=>hk b ob (Nat.ne_of_lt (Heap.lt_size q)) ?_⟩
 exact (Heap.get?_update_other _ _ (Ne.symm nb)).trans (Heap.get?_push_of_some _ q)
theorem lW {tk:Tok}{dx:Addr}{mA:Str->Option Value}{Q:Fin->Shared->Prop}(X:K.In h)(I:ClsI h C P f)(nn:findIn K (.ref C) name=some none)(O:ExAt h a o C)(hd:o.dict=some dx){us:Array Value}(hf:o.data = .fields us)(hn:h.Ns dx mA)(hv:mA name=some v)
  (hq:Q (.done (.ret v)) ⟨h,g,d,t,os⟩):wpAny (model prog w) A (Builtin.«object.__getattribute__» ⟨[.ref a,.str name tk],[]⟩) Q E ⟨h,g,d,t,os⟩:=by
 have L1:=O.type (M:=model prog w)
 have L3:=looks_findIn (M:=model prog w) X nn
 have hx:=O.at_
 have hc:=O.cls
 refine wpAny_bind (wpAny_pure (wpAny_bind (wpAny_pure ?_)))
 refine wpAny_bind (L1.here (wpAny_bind ?_))
 unfold find
 refine wpAny_bind (L3.here ?_)
 refine wpAny_bind (wpAny_pure ?_)
 refine wpAny_bind (wpAny_pure ?_)
 unfold ownThenClass inOwnDict ObjectAttr.ownDict
 refine wpAny_bind (wpAny_bind ?_)
 refine wpAny_bind (wpAny_loadPart_at hx ?_)
 rw [hf]
 refine vI I O hd ?_ false
 refine wpAny_nsGet hn ?_
 rw [hv]
 exact wpAny_bind (wpAny_rule (wpAny_pure (wpAny_pure hq)))
theorem nU {tk:Tok}{dx:Addr}{mA:Str->Option Value}{R:Result->Shared->Prop}(X:K.In h)(I:ClsI h C P f)(F:ExK K C)(nn:findIn K (.ref C) name=some none)(O:ExAt h a o C)(hd:o.dict=some dx){us:Array Value}(hf:o.data = .fields us)(hn:h.Ns dx mA)(hv:mA name=some v)
  (hq:R (.ok (.ret v)) ⟨h,g,d,t,os⟩):codeAny (model prog w) A (.call (.builtin "BaseException.__getattribute__") ⟨[.ref a,.str name tk],[]⟩) R ⟨h,g,d,t,os⟩ :=
 codeAny_call_builtin PySem.F.attr_ValueError.ga.plain PySem.F.entry_bexc_ga (iW X F O (lW X I nn O hd hf hn hv hq))
theorem sB {tk:Tok}{fill expr:Bool}{dx:Addr}{mA:Str->Option Value}{Q:Value->Shared->Prop}(X:K.In h)(I:ClsI h C P f)(F:ExK K C)(nn:findIn K (.ref C) name=some none)(O:ExAt h a o C)(hd:o.dict=some dx){us:Array Value}(hf:o.data = .fields us)(hn:h.Ns dx mA)(hv:mA name=some v)(hh:handedIn v=true)
  (hq:Q v ⟨h,g,d,t,os⟩):wpAny (model prog w) A (getAttrBy (.ref a) (.str name tk) fill expr) Q E ⟨h,g,d,t,os⟩:=by
 have f3:=PySem.F.attr_ValueError.ga.bind (.ref a)
 have hx0:(expr && onTheHeap (Value.builtin "BaseException.__getattribute__"))=false:=by cases expr <;> rfl
 have hx2:(Value.builtin "BaseException.__getattribute__" == Value.builtin "object.__getattribute__")=false:=by decide +kernel
 have hx1:(onTheHeap (Value.ref C) && Value.builtin "BaseException.__getattribute__" == Value.builtin "object.__getattribute__")=false:=by rw [hx2]; rfl
 have L1:=looks_findIn (M:=model prog w) X F.ga
 have L2':=looks_findIn (M:=model prog w) X F.gt
 have hx:=O.at_
 have hc:=O.cls
 repeat (any_goals (first | assumption | (with_reducible refine wpAny_loadPart_at hx ?_; rw [hc]) | with_reducible refine L1.at ?_ | with_reducible refine L2'.at ?_ | wp_step))
 refine nU X I F nn O hd hf hn hv ?_
 repeat (any_goals (first | assumption | exact handed_on hh hq | wp_step))
end
structure ExF (K:Frag)(C P f:Addr)(x:Str):Prop where
 i:ExI K C P f
 sa:findIn K (.ref C) "__setattr__" = some (some (.builtin "object.__setattr__"))
 nn:findIn K (.ref C) x=some none
def xdE (a:Addr)(fs:List (Str × V)):HO:=.ext fun h=>∃ mA,h.Ns1 a mA/\(∀ g,RelO (fs.lookup g) (mA g))/\Within mA (fs.map (·.1))
theorem aC8 {P:Program}{w:World}{H:Hp}{h:Heap}{a:Addr}{fs:List (Str × V)}{mA:Str->Option Value}(n:h.Ns1 a mA)(r : ∀ g,RelO (fs.lookup g) (mA g))(wi:Within mA (fs.map (·.1))):ObjOk P w H h a (xdE a fs):=by
 obtain ⟨o,es,ep,e,q⟩:=id n
 exact ⟨⟨mA,n,r,wi⟩,⟨o,e⟩,fun h1 h2 ⟨m,n1,r1,w1⟩ k=>⟨m,n1.at k,r1,w1⟩⟩
theorem aAn {P:Program}{w:World}{H:Hp}{h:Heap}{a C:Addr}{dd:Option Addr}{o:Obj}{t:Value}(e:h.get? a=some o)(c:o.cls = .ref C)(dq:o.dict=dd)(fd:o.data = .fields #[t,.none,.none,.none,.bool false,.none]):ObjOk P w H h a (exN a C dd) :=
 ⟨⟨o,t,⟨e,c,dq⟩,fd⟩,⟨o,e⟩,fun h1 h2 ⟨o,t,⟨e1,e2,e3⟩,e4⟩ k=>⟨o,t,⟨k o e1,e2,e3⟩,e4⟩⟩
section
variable {X:Cx}{pins:List (Addr × Obj)}{σ:St}{H:Hp}{s:Shared}{o e value:Expr}{x:Str}{pos pos':Pos}{ta tv:TE}{C P f:Addr}
theorem Inv.trackNew {s':Shared}{H':Hp}(I:Inv X pins σ H s)(I':Inv X pins σ H' s'){a:Addr}{u:HO}(hex:X.ex=[])(n:s.heap.get? a=none)(hn:H' a=none)(ok:ObjOk X.prog X.w (upd H' a u) s'.heap a u):Inv X pins σ (upd H' a u) s':=by
 refine I'.track hn (I.absent0 hex n) (fun z => ?_) (fun y c q z => ?_) (fun p q z => ?_) ok
 ·obtain ⟨m,⟨oL,_,_,hoL,_⟩,_⟩:=I.loc
  rw [<- z,n] at hoL
  cases hoL
 ·obtain ⟨v,o,ho,_⟩:=I.cell y c q
  rw [z,n] at ho
  cases ho
 ·have:=(I.pin p q).1
  rw [z,n] at this
  cases this
def sExN (K:Frag)(C P f:Addr)(ta tv:TE)(x:Str):TS:=fun D σ H=>tv σ H fun y H1=>ta σ H1 fun z H2=>∃ a,z = .ref a/\H2 a=some (exN a C none)/\ExF K C P f x /\
 ∀ dx,H2 dx=none->dx ≠ a->D.nx σ (upd (upd H2 a (exN a C (some dx))) dx (xdE dx [(x,y)]))
theorem aEk (hex:X.ex=[])(ha:PE X o ta)(hv:PE X value tv)(hs:swapsWith value (some (.Attribute o x pos')) pos.line X.env=pure false):PS X (.Assign [.Attribute o x pos'] value pos) (sExN X.K C P f ta tv x):=by
 intro pins s σ H D I h
 refine plainObj_wpAny_Assign_Attribute (thn (hv pins s σ H _ I h) fun u s1 ⟨y,H1,I1,ry,q⟩=>thn (ha pins s1 σ H1 _ I1 q) fun ov s2 ⟨z,H2,I2,rx,a,ez,ea,F,q2⟩ => ?_) hs
 subst ez
 obtain rfl:ov=Value.ref a:=rx
 obtain ⟨⟨ob,t',⟨o1,o2,o3⟩,o4⟩,_⟩:=I2.hok _ _ ea
 have nz:s2.heap.get? s2.heap.objs.size=none:=Heap.get?_none_of_le (Nat.le_refl _)
 have Hz:H2 s2.heap.objs.size=none:=I2.hok.fresh (Nat.le_refl _)
 have ne:s2.heap.objs.size ≠ a:=Nat.ne_of_gt (Heap.lt_size o1)
 obtain ⟨hh,g,d,tk,os⟩:=s2
 refine pM I2.kIn (lY I2.kIn F.i.xi) F.i.k F.sa F.nn ⟨o1,o2⟩ o3 o4 fun h' tk' hn' ga ks => ?_
 have J1:Inv X pins σ (upd H2 a (exN a C (some hh.objs.size))) ⟨h',g,d,tk',os⟩:=by
  refine I2.write (x:=a) (e:=a) (t':=tk') (by rw [ea]; exact True.intro) (.inl rfl) ks ⟨_,ga⟩ ?_
  exact aAn ga o2 rfl o4
 have J2:=I2.trackNew J1 (a:=hh.objs.size) (u:=xdE hh.objs.size [(x,y)]) hex nz (by rw [aL ne]; exact Hz) (aC8 hn' (fun g => ?_) (fun g hg => ?_))
 ·exact ⟨σ,_,J2,q2 _ Hz ne⟩
 ·by_cases z:g=x
  ·subst z
   simp only [List.lookup,beq_self_eq_true,if_true]
   exact ry
  ·have:([(x,y)]:List (Str × V)).lookup g=none:=by
    simp only [List.lookup]
    rw [beq_eq_false_iff_ne.mpr z]
   rw [this,if_neg z]
   exact True.intro
 ·by_cases z:g=x
  ·rw [z]; simp
  ·rw [if_neg z] at hg
   exact absurd rfl hg
end
section
variable {prog:Program}{w:World}{A:Around}{E:Value->Shared->Prop}{h:Heap}{g:Array GenState}{d:Drawn}{t:Nat}{os:OsState}{K:Frag}{C P f a:Addr}{o:Obj}{v:Value}
theorem sM {Q:Value->Shared->Prop}{rest:List Value}{us:Array Value}{a0:Value}(I:ClsI h C P f)(O:ExAt h a o C)(hf:o.data = .fields us)(h0:us[0]?=some a0)(hz:rest.length<=sizeLine)
  (hq:Q .none ⟨(h.push { cls:=.type "tuple",data:=.seq rest.toArray }).update a (Obj.mapFields (·.setIfInBounds 0 (.ref h.objs.size))),g,d,t,os⟩) :
  wpAny (model prog w) A (call (.builtin "ValueError.__init__") (.ref a :: rest)) Q E ⟨h,g,d,t,os⟩:=by
 obtain ⟨nm,q,N,bs,sn,sub,ab,col,dd,k0,k1,k2,k3,k5,mN,hC,hn,hni,T⟩:=I.ex
 have F:=PySem.F.excBase_ValueError
 have z0:0 < us.size:=(Array.getElem?_eq_some_iff.mp h0).1
 have g1:=Heap.get?_push_of_some (h:=h) { cls:=.type "tuple",data:=.seq rest.toArray } O.at_
 refine wpAny_call (codeAny_call_builtin F.init.plain F.initEntry (wpAny_check_init_subU F T hC O.at_ O.cls ?_))
 unfold Builtin.«BaseException.__init__»
 dsimp only
 rw [if_neg (by simp)]
 unfold newTuple Builtin.BaseException.bexcPut
 refine wpAny_bind (wpAny_newObj_type ?_ (by show rest.toArray.size<=sizeLine; rw [List.size_toArray]; exact hz))
 refine wpAny_bind (wpAny_bind (wpAny_field g1 hf h0 (wpAny_bind (wpAny_setField g1 hf z0 ?_))))
 split
 ·refine wpAny_letGo ?_
  exact wpAny_pure hq
 ·exact wpAny_pure (wpAny_pure hq)
end
structure BaseI (K:Frag)(P:Addr):Prop where
 rd:readsIn K P (.type "type")=true
 fc:findCls K (.ref P) (.type "type") "__init__" = some (.val (.builtin "ValueError.__init__"))
 ga:specialIn K (.ref P) "__getattribute__" = some (some (.builtin "type.__getattribute__"))
section
variable {X:Cx}{C P f:Addr}{x:Str}{p apos pos:Pos}{e₁ e₂:Expr}{t:TA}
def aDq (K:Frag)(P:Addr)(t:TA):TE:=fun σ H Q=>t σ H fun vs H1=>∃ a C dd f txt,vs=[.ref a,.str txt]/\H1 a=some (exN a C dd)/\ExI K C P f/\Q .non H1
theorem aDf {H:Hp}{a:Addr}{o:HO}(h:H a=some o):upd H a o=H:=by
 funext b
 by_cases z:b=a
 ·rw [z,aB,h]
 ·rw [aL z]
theorem xP {pl:Sem Bool}(hg:Gl X x)(hm:X.mg x=some (.ref P))(B:BaseI X.K P)(ha:PA X [e₁,e₂] t)(hdb:(x == ("__debug__" : Str))=false:=by decide)
  (hst:starEach [e₁,e₂] X.env=(false,eval e₁ X.env) :: starEach [e₂] X.env:=by rfl) (hpl:(backTo pos (starEach [e₂] X.env)).any (·.1)=false:=by rfl)
  (ht:eval (.Call (.Attribute (.Name x p) "__init__" apos) [e₁,e₂] [] pos) X.env=(do
   let ov <- eval (.Name x p) X.env
   standAt apos.atName
   let (f,first) <- holding [ov] (getMethod ov "__init__" pl)
   callWith pos f first (backTo pos (starEach [e₁,e₂] X.env)) (backToKw pos (keywordEach [] X.env))):=by rfl) :
  PE X (.Call (.Attribute (.Name x p) "__init__" apos) [e₁,e₂] [] pos) (aDq X.K P t):=by
 intro pins s σ H Q I h
 refine PySem.W.methodCall_KW (pl:=pl) (fN I hg hm ?_ hdb) ht
 refine method_cls I.kIn B.ga (cls_value I.kIn B.rd B.fc rfl ?_)
 have I0:=I.tok (s.toks+1)
 have hA:=ha pos pins _ σ H _ I0 h
 rw [hst] at hA ⊢
 refine Calls.callWith_builtin (by show (false || (backTo pos (starEach [e₂] X.env)).any (·.1))=false; rw [hpl] <;> rfl) (Calls.evalArgs_plain (thn hA fun us s2 ⟨vs,H2,I2,r2,a,C,dd,f,txt,e1,ea,F,q2⟩ => ?_))
 subst e1
 obtain ⟨u1,u2,rfl,ra,rt⟩:=r2.two
 obtain rfl:u1=Value.ref a:=ra
 obtain ⟨⟨ob,t',⟨o1,o2,o3⟩,o4⟩,_⟩:=I2.hok _ _ ea
 obtain ⟨hh,g,d,tk,os⟩:=s2
 refine sM (lY I2.kIn F.xi) ⟨o1,o2⟩ o4 rfl (by show 1<=sizeLine; decide) ?_
 have g1:=Heap.get?_push_of_some (h:=hh) { cls:=.type "tuple",data:=.seq [u2].toArray } o1
 have d1:=Obj.data_mapFields o4 (·.setIfInBounds 0 (Value.ref hh.objs.size))
 have g2:=Heap.get?_update_self (Obj.mapFields (·.setIfInBounds 0 (Value.ref hh.objs.size))) g1 (Obj.isFreed_of_fields d1)
 have J:Inv X pins σ (upd H2 a (exN a C dd)) ⟨(hh.push { cls:=.type "tuple",data:=.seq [u2].toArray }).update a (Obj.mapFields (·.setIfInBounds 0 (.ref hh.objs.size))),g,d,tk,os⟩:=by
  refine I2.write (x:=a) (e:=a) (t':=tk) (by rw [ea]; exact True.intro) (.inl rfl) (fun b u nb q => ?_) ⟨_,g2⟩ ?_
  ·exact (Heap.get?_update_other _ _ (Ne.symm nb)).trans (Heap.get?_push_of_some _ q)
  ·exact aAn g2 ((Obj.cls_mapFields _ _).trans o2) ((vU _ _).trans o3) d1
 rw [aDf ea] at J
 exact ⟨.non,H2,J,rfl,q2⟩
def tExF (K:Frag)(ta:TE)(x:Str):TE:=fun σ H Q=>ta σ H fun z H1=>∃ a C P f dx fs v,z = .ref a/\H1 a=some (excD a C (some dx))/\H1 dx=some (xdE dx fs)/\ExF K C P f x/\fs.lookup x=some v/\Q v H1
theorem aAf {e:Expr}{ta:TE}(he:PE X e ta)(hb:attributeBase e x X.env (eval e X.env)=eval e X.env):PE X (.Attribute e x pos) (tExF X.K ta x):=by
 intro pins s σ H Q I h
 refine aC2 hb (thn (he pins s σ H _ I h) fun u s1 ⟨z,H1,I1,rx,a,C,P,f,dx,fs,v,ez,ea,ed,F,l,q⟩ => ?_)
 subst ez
 obtain rfl:u=Value.ref a:=rx
 obtain ⟨⟨ob,O,od,us,ou⟩,_⟩:=I1.hok _ _ ea
 obtain ⟨⟨mA,n1,r1,_⟩,_⟩:=I1.hok _ _ ed
 obtain ⟨w',hw,rw'⟩:=RelO.some_of (by rw [<- l]; exact r1 x)
 unfold getAttr
 refine wpAny_bind (wpAny_mkText ?_)
 have I2:=I1.tok (s1.toks+1)
 obtain ⟨hh,g,d,tk,os⟩:=s1
 exact sB I1.kIn (lY I1.kIn F.i.xi) F.i.k F.nn O od ou n1.ns hw (vM rw') ⟨v,H1,I2,rw',q⟩
end
end L2
namespace L2
open PySem PySem.Spec PyProof.Rows PySem.W
def FmtV:V->Str->Prop
 | .int i,x=>i.natAbs.log2 < 1920/\x=(toString i:String)
 | .str y,x=>y.length<=sizeLine/\x=y
 | .non,x=>x = "None"
 | _,_=>False
def tFmt (ta:TE):TE:=fun σ H Q=>ta σ H fun v H1=>∃ x,FmtV v x/\Q (.str x) H1
abbrev TJ:=Str->St->Hp->(Str->Hp->Prop)->Prop
def PJ (X:Cx)(es:List Expr)(t:TJ):Prop :=
 ∀ (acc:Str) (pins:List (Addr × Obj)) (s:Shared) (σ:St) (H:Hp) (Q:Str->Hp->Prop),Inv X pins σ H s->t acc σ H Q->wpAny (model X.prog X.w) X.A (joinParts acc (evalEach es X.env)) (EP X pins σ fun v H'=>∃ x,v = .str x/\Q x H') X.xe s
def jNil:TJ:=fun acc _ H Q=>acc.length<=sizeLine/\Q acc H
def jCons (te:TE)(tr:TJ):TJ:=fun acc σ H Q=>te σ H fun v H1=>∃ x,v = .str x/\(acc ++ x).length<=sizeLine/\tr (acc ++ x) σ H1 Q
def tJoin (t:TJ):TE:=fun σ H Q=>t Str.empty σ H fun x H'=>Q (.str x) H'
section
variable {X:Cx}{value e e':Expr}{es:List Expr}{ta te:TE}{tr t:TJ}{pos:Pos}
end
def Its (x:Str):It:=⟨fun i _=>∃ c,x.cps[i]?=some c,fun i H v H'=>H'=H/\∃ c,x.cps[i]?=some c/\v = .str ⟨#[c]⟩,fun i _=>x.cps[i]?=none⟩
def iStr (tl:TE):TI:=fun σ H R=>tl σ H fun v H1=>∃ x,v = .str x/\R (Its x) H1
section
variable {X:Cx}
end
def rPart:V->List V->Hp->VK->Prop:=fun z vs H Q=>∃ x y,z = .str x/\vs=[.str y]/\(y.length == 0)=false/\x.length<=sizeLine/\∀ p,H p=none->Q (.ref p) (upd H p (.tup [.str (Txt.partition x y).1,.str (Txt.partition x y).2.1,.str (Txt.partition x y).2.2]))
def rSplit:V->List V->Hp->VK->Prop:=fun z vs H Q=>∃ x y,z = .str x/\vs=[.str y]/\(y.length == 0)=false/\x.length+2<=sizeLine/\∀ p,H p=none->Q (.ref p) (upd H p (.lst ((Txt.split x y).map V.str)))
section
variable {X:Cx}
end
section
variable {X:Cx}
theorem wV {prog:Program}{w:World}{A:Around}{b:Bool}{s:Shared}{Q:Bool->Shared->Prop}{E:Value->Shared->Prop}(h:Q b s):wpAny (model prog w) A (truthy (.bool b)) Q E s:=by
 cases b <;> exact wpAny_pure h
theorem range_any {bs:List Bool}:(List.range bs.length).any (fun i=>bs.getD i false)=bs.any id:=by
 rw [Bool.eq_iff_iff]
 simp only [List.any_eq_true,List.mem_range,id]
 constructor
 ·rintro ⟨i,hi,h⟩
  exact ⟨bs[i],List.getElem_mem hi,by simpa [List.getD,hi] using h⟩
 ·rintro ⟨b,hb,h⟩
  obtain ⟨i,hi,rfl⟩:=List.getElem_of_mem hb
  exact ⟨i,hi,by simpa [List.getD,hi] using h⟩
theorem uD {bs:List Bool}:(List.range bs.length).all (fun i=>bs.getD i false)=bs.all id:=by
 rw [Bool.eq_iff_iff]
 simp only [List.all_eq_true,List.mem_range,id]
 constructor
 ·intro h b hb
  obtain ⟨i,hi,rfl⟩:=List.getElem_of_mem hb
  simpa [List.getD,hi] using h i hi
 ·intro h i hi
  simpa [List.getD,hi] using h bs[i] (List.getElem_mem hi)
theorem qY {pins:List (Addr × Obj)}{σ:St}{H:Hp}{s:Shared}(I:Inv X pins σ H s)(hc:X.calm=true){p:Addr}{bs:List Bool}(hq:SqL X.K H p (bs.map V.bl)){E:Value->Shared->Prop}{k:(Nat->Bool)->Nat->Bool}{Q:VK}(q:Q (.bl (k (fun i=>bs.getD i false) bs.length)) H) :
  wpAny (model X.prog X.w) X.A.in1 (pyIter (.ref p)) (fun it s₂=>∃ J fp wr n P St tr,it = .ref J/\Walks X.prog X.w X.A.in1 J fp wr n P St/\St 0 s₂.heap/\TruthOf X.prog X.w X.A.in1 P tr /\
   ∀ h' tk,(∀ b o,b ∉ wr->s₂.heap.get? b=some o->h'.get? b=some o)->EP X pins σ Q (.bool (k tr n)) { s₂ with heap:=h',toks:=tk }) E s:=by
 obtain ⟨its,rv,pl,hz⟩:=I.list hq
 have hl:=rv.length
 rw [List.length_map] at hl
 have ne:p ≠ s.heap.objs.size:=by
  obtain ⟨o,n,e,_⟩:=pl
  exact Nat.ne_of_lt (Heap.lt_size e)
 refine wpAny_pyIter_list pl.isList ?_
 have keep : ∀ b o,s.heap.get? b=some o->(s.heap.push { cls:=.type "list_iterator",data:=.fields #[.ref p,.int 0 0] }).get? b=some o:=fun b o e=>Heap.get?_push_of_some _ e
 refine ⟨s.heap.objs.size,_,_,_,_,_,fun i=>bs.getD i false,rfl,Walks.list (A:=X.A.in1) (show X.A.in1.handled=none from I.ok.hd hc) s.heap.objs.size p ne its.toArray,⟨⟨_,Heap.get?_push_size _ rfl,rfl,rfl⟩,pl.isList.at fun o e=>keep p o e⟩,?_,?_⟩
 ·intro i v s' Q' E' hv hQ
  have hv':its[i]?=some v:=by simpa using hv
  have hi:i < bs.length:=by rw [hl]; exact (List.getElem?_eq_some_iff.mp hv').1
  obtain ⟨u,hu,ru⟩:=rv.get (show (bs.map V.bl)[i]?=some (.bl bs[i]) by simp [hi])
  rw [hv'] at hu
  cases hu
  cases ru
  have e:bs.getD i false=bs[i]:=by simp [List.getD,hi]
  dsimp only at hQ
  rw [e] at hQ
  exact wV hQ
 ·intro h' tk kp
  have J:Inv X pins σ H { s with heap:=h',toks:=tk }:=I.kept (t':=tk) fun b o e=>kp b o (by
   have lt:=Heap.lt_size e
   intro z
   have z':b=s.heap.objs.size:=by simpa using z
   rw [z'] at lt
   exact Nat.lt_irrefl _ lt) (keep b o e)
  have es:its.toArray.size=bs.length:=by rw [List.size_toArray]; omega
  rw [es]
  exact ⟨.bl _,H,J,rfl,q⟩
theorem wJ (hc:X.calm=true):hZ X (.builtin "all") (fun xs H Q=>∃ p,∃ bs:List Bool,xs=[.ref p]/\SqL X.K H p (bs.map V.bl)/\Q (.bl (bs.all id)) H):=by
 intro pins s σ H xs us Q I r h
 obtain ⟨p,bs,rfl,hq,q⟩:=h
 obtain ⟨u,rfl,rx⟩:=jL r
 cases rx
 exact call_all_walk (qY I hc hq (k:=fun tr n=>(List.range n).all tr) (by rw [uD]; exact q))
theorem aDv:SlR X (fun x lo hi H Q=>∃ a,x = .str a/\a.length<=sizeLine/\Q (.str (Txt.slice a lo hi)) H):=by
 intro pins s σ H x v vl vu lo hi sl Q I rx hs pl pu h
 obtain ⟨a,rfl,hz,q⟩:=h
 obtain ⟨t,rfl⟩:=rx
 refine ⟨"str",_,PySem.F.slot_str_getitem.lookup,typeIs_str _ _ _,?_⟩
 have fin : ∀ t' k,EP X pins σ Q (.str (Txt.slice a lo hi) t') { s with toks:=k }:=fun t' k=>⟨.str _,H,I.tok _,⟨_,rfl⟩,q⟩
 cases pl with
 | none=>cases pu with
  | none=>exact wpAny_getItem_str_slice (l:=none) (u:=none) (st:=none) hs rfl (post_val_or_str ⟨Nat.le_trans (Txt.slice_le a _ _) hz,fin⟩)
  | int j tj=>exact wpAny_getItem_str_slice (l:=none) (u:=some (j,tj)) (st:=none) hs rfl (post_val_or_str ⟨Nat.le_trans (Txt.slice_le a _ _) hz,fin⟩)
 | int i ti=>cases pu with
  | none=>exact wpAny_getItem_str_slice (l:=some (i,ti)) (u:=none) (st:=none) hs rfl (post_val_or_str ⟨Nat.le_trans (Txt.slice_le a _ _) hz,fin⟩)
  | int j tj=>exact wpAny_getItem_str_slice (l:=some (i,ti)) (u:=some (j,tj)) (st:=none) hs rfl (post_val_or_str ⟨Nat.le_trans (Txt.slice_le a _ _) hz,fin⟩)
theorem aAj (hu:X.A.units+64 < cLine):OpR X (compareOp .Eq) (fun x y H Q=>∃ a b xs,x = .ref a/\y = .ref b/\SqL X.K H a xs/\SqL X.K H b []/\Q (.bl xs.isEmpty) H):=by
 intro pins s σ H x y v u Q I rx ry h
 obtain ⟨a,b,xs,rfl,rfl,ha,hb,q⟩:=h
 cases rx
 cases ry
 obtain ⟨its,r,p,_⟩:=I.list ha
 obtain ⟨its',r',p',_⟩:=I.list hb
 cases r'
 cases r with
 | nil=>exact SeqAt.RcAt.lists (A:=X.A) (e:=fun _=>true) p.isList p'.isList rfl (by omega) (fun j h1=>absurd h1 (by simp)) X.prog X.w X.xe _ ⟨.bl _,H,I,rfl,q⟩
 | cons r t=>exact SeqAt.RcAt.lists_lengths (A:=X.A) p.isList p'.isList rfl (by omega) X.prog X.w X.xe _ ⟨.bl _,H,I,rfl,q⟩
end
end L2
namespace TM
open PySem PySem.NumText
def dg (n:Nat):List Nat:=(Nat.toDigits 10 n).map Char.toNat
structure Fig (cs:List Nat):Prop where
 ne:cs ≠ []
 len:cs.length<=60
 all:AllDigits cs
 no:cs.head?=some 48->cs.length=1
def Reads (L:List Nat)(t b:Nat):Prop :=
 (Fig L/\t=digitsVal L/\b=1)\/∃ p q,L=p ++ 47 :: q/\Fig p/\Fig q/\t=digitsVal p/\b=digitsVal q/\2<=b/\Nat.gcd t b=1
def showL (t b:Nat):List Nat:=if b=1 then dg t else dg t ++ 47 :: dg b
end TM
namespace TM
open PySem PySem.StrLaws PySem.Builtin PySem.Builtin.Str
abbrev cps (x:Str):List Nat:=x.cps.toList
abbrev sl:Str:=⟨#[47]⟩
theorem hJ (x y:Str):cps (x ++ y)=cps x ++ cps y:=by
 show (x.cps ++ y.cps).toList=_
 rw [Array.toList_append]
end TM
namespace L2
open PySem PySem.Spec PyProof.Rows PySem.W
theorem nX {x:V} : ∀ {xs:List V} {us:List Value},Vals xs us->xs.all eY=true->us.countP (eqU x)=xs.countP fun y=>eqV y x
 | _,_,.nil,_=>rfl
 | _,_,.cons r t,h=>by
  simp only [List.all_cons,Bool.and_eq_true] at h
  rw [List.countP_cons,List.countP_cons,nX t h.2,qT r h.1]
def aEg:V->List V->Hp->VK->Prop:=fun x vs H Q=>∃ l xs y,x = .ref l/\vs=[y]/\H l=some (.lst xs)/\eY y=true/\xs.all eY=true/\Q (.int ((xs.countP fun z=>eqV z y:Nat):Int)) H
def aEe:V->List V->Hp->VK->Prop:=fun x vs H Q=>∃ l xs y,∃ j:Nat,∃ z,x = .ref l/\vs=[y]/\H l=some (.lst xs)/\eY y=true/\xs.all eY=true/\xs[j]?=some z/\eqV z y=true /\
 (∀ m z,m < j->xs[m]?=some z->eqV z y=false)/\Q (.int (j:Int)) H
section
variable {X:Cx}
theorem yQ:MtR X "list.count" aEg:=by
 intro pins s σ H x vs v us Q I rx rv h
 obtain ⟨l,xs,y,rfl,rfl,hH,fy,fx,q⟩:=h
 cases rx
 obtain ⟨u,rfl,ru⟩:=rv.one
 obtain ⟨z,its,n,r,hl,e⟩:=I.lstM hH
 refine call_meets PySem.F.slot_list_count ⟨_,e,rfl⟩ PySem.F.entry_list_count (PySem.F.args_list_count_2 _ _) (SeqAt.list_countAt l its.toArray n none #[] u (eqU y)) ⟨e,fun u' hu'=>fM ru fy r fx u' (by simpa using hu'),?_⟩
 rw [show its.toArray.toList=its from rfl,nX r fx]
 exact ⟨.int _,H,I.tok _,⟨_,rfl⟩,q⟩
theorem yP:MtR X "list.index" aEe:=by
 intro pins s σ H x vs v us Q I rx rv h
 obtain ⟨l,xs,y,j,z,rfl,rfl,hH,fy,fx,hz,hit,hno,q⟩:=h
 cases rx
 obtain ⟨u,rfl,ru⟩:=rv.one
 obtain ⟨hs,its,n,r,hl,e⟩:=I.lstM hH
 have hj:j < xs.length:=(List.getElem?_eq_some_iff.mp hz).1
 have fl : ∀ (m:Nat) z,xs[m]?=some z->eY z=true:=fun m z hm=>List.all_eq_true.mp fx z (List.mem_of_getElem? hm)
 have at' : ∀ (m:Nat) z,xs[m]?=some z->∀ hm:m < its.toArray.size,eqU y its.toArray[m]=eqV z y:=fun m z hm hm'=>by
  obtain ⟨u1,hu1,ru1⟩:=r.get hm
  have e1:its.toArray[m]=u1:=by
   have:=(List.getElem?_eq_some_iff.mp hu1).2
   simpa using this
  rw [e1,qT ru1 (fl m z hm)]
 have hj':j < its.toArray.size:=by rw [List.size_toArray,<- hl]; exact hj
 have hsl:sizeLine < 2 ^ 62:=by decide +kernel
 refine call_meets PySem.F.slot_list_index ⟨_,e,rfl⟩ PySem.F.entry_list_index (PySem.F.args_list_index_2 _ _) (SeqAt.list_indexAt l its.toArray n none #[] u (eqU y) j hj' (by omega) ((at' j z hz hj').trans hit) (fun m hm hlt => ?_)) ⟨e,fun u' hu'=>fM ru fy r fx u' (by simpa using hu'),?_⟩
 ·obtain ⟨z',hz'⟩ : ∃ z',xs[m]?=some z':=⟨_,List.getElem?_eq_getElem (by omega)⟩
  rw [at' m z' hz' hm]
  exact hno m z' hlt hz'
 ·exact ⟨.int _,H,I.tok _,⟨_,rfl⟩,q⟩
end
theorem aFn:bootBuiltins "ValueError" = some (.type "ValueError"):=by decide +kernel
def Nx (n i:Nat)(P:Prop):Prop:=∃ m',m' < n - i/\m'=n - (i+1)/\i+1<=n/\P
theorem eM {X:Cx}{scope:Scope}{N':List Str}{cl:List (Str × Addr)}{σ:St}:BlkN X N' scope cl σ (List.replicate N'.length none):=by
 refine ⟨by simp,fun i x v h1 h2 => ?_⟩
 rw [List.getElem?_replicate] at h2
 split at h2 <;> cases h2
end L2
namespace L2
open PySem PySem.Spec PyProof.Rows
def dcE (a:Addr):HO:=.ext fun h=>∃ o,h.get? a=some o/\o.cls = .type "dict"
def tDict0:TE:=fun _ H Q=>∀ p,H p=none->Q (.ref p) (upd H p (dcE p))
section
variable {X:Cx}{pos:Pos}
def IsiD (K:PySem.W.Frag)(H:Hp)(v:V)(T:String)(b:Bool):Prop:=Isi K H v T b\/∃ a,v = .ref a/\H a=some (dcE a)/\T = "str" /\ b=false
end
def rEqL (K:PySem.W.Frag):R2:=fun x y H Q=>∃ a b xs ys,∃ e:Nat->Bool,x = .ref a/\y = .ref b/\SqL K H a xs/\SqL K H b ys/\(∀ (j:Nat) x y,xs[j]?=some x->ys[j]?=some y->DEq K H 40 x y (e j)) /\
 Q (.bl ((List.range (min xs.length ys.length)).all e && xs.length == ys.length)) H
def rNeL (K:PySem.W.Frag):R2:=fun x y H Q=>∃ a b xs ys,∃ e:Nat->Bool,x = .ref a/\y = .ref b/\SqL K H a xs/\SqL K H b ys/\(∀ (j:Nat) x y,xs[j]?=some x->ys[j]?=some y->DEq K H 40 x y (e j)) /\
 Q (.bl (!((List.range (min xs.length ys.length)).all e && xs.length == ys.length))) H
section
variable {X:Cx}
theorem aEt (hu:X.A.units+64 < cLine):OpR X (compareOp .Eq) (rEqL X.K):=by
 intro pins s σ H x y v u Q I rx ry h
 obtain ⟨a,b,xs,ys,e,rfl,rfl,hx,hy,hd,q⟩:=h
 cases rx; cases ry
 exact vB I hx hy (by omega) (fun j x y u v h1 h2 r1 r2=>(hd j x y h1 h2).at I (by show X.A.units+1+40 < cLine; omega) r1 r2) X.prog X.w X.xe _ ⟨.bl _,H,I,rfl,q⟩
end
def Sf (v:V):Prop:=eY v=true\/∃ a,v = .ref a
theorem zN {v:V}(h:eY v=true):eqV v v=true:=by
 cases v <;> simp_all [eY,eqV]
theorem DEq.self {K:PySem.W.Frag}{H:Hp}{n:Nat}{v:V}(h:Sf v):DEq K H n v v true:=by
 rcases h with h | ⟨a,rfl⟩
 ·have:=DEq.flat (K:=K) (H:=H) (n:=n) h h
  rwa [zN h] at this
 ·exact .same
theorem jJ (n:Nat)(m:Nat)(h:n=m):((List.range (min n m)).all (fun _=>true) && n == m)=true:=by
 subst h
 rw [beq_self_eq_true,Bool.and_true,List.all_eq_true]
 exact fun _ _=>rfl
def rNeLs (K:PySem.W.Frag):R2:=fun x y H Q=>∃ a b xs,x = .ref a/\y = .ref b/\SqL K H a xs/\SqL K H b xs/\(∀ v ∈ xs,Sf v)/\Q (.bl false) H
theorem wL:bootBuiltins "dict" = some (.type "dict"):=by decide +kernel
def Tk (H H':Hp):Prop:=∀ b ys,H b=some (.tup ys)->H' b=some (.tup ys)
theorem Same.tk {H H':Hp}(s:Same H H'):Tk H H':=fun b ys e=>s b _ e
theorem Tk.refl {H:Hp}:Tk H H:=fun _ _ e=>e
theorem Tk.trans {H H1 H2:Hp}(h:Tk H H1)(k:Tk H1 H2):Tk H H2:=fun b ys e=>k b ys (h b ys e)
theorem Tk.lst {H:Hp}{l:Addr}{xs:List V}{o:HO}(h:H l=some (.lst xs)):Tk H (upd H l o):=fun b ys e=>by
 have ne:b ≠ l:=fun z=>by rw [z,h] at e; cases e
 rw [aL ne]
 exact e
def starFree:Expr->Bool
 | .Starred .. => false
 | _=>true
inductive Dt where
 | i (n:Int)
 | s (x:Str)
 | b (k:Bool)
 | n
 | t (l:List Dt)
def SqZ (K:PySem.W.Frag)(H:Hp)(a:Addr)(xs:List V):Prop:=H a=some (.tup xs)\/∃ (o:Obj) (its:Array Value) (n:Nat),K.lookup a=some o/\o.cls = .type "tuple" /\ o.data = .seq its n/\its.size<=sizeLine/\Vals xs its.toList
theorem SqZ.of {K:PySem.W.Frag}{H:Hp}{a:Addr}{xs:List V}(h:H a=some (.tup xs)):SqZ K H a xs:=.inl h
theorem SqZ.sq {K:PySem.W.Frag}{H:Hp}{a:Addr}{xs:List V}(h:SqZ K H a xs):SqT K H a xs:=by
 rcases h with h | h
 ·exact .inl (.inl h)
 ·exact .inr h
inductive Dv (K:PySem.W.Frag)(H:Hp):Nat->V->Dt->Prop where
 | i {n m}:Dv K H n (.int m) (.i m)
 | s {n x}:Dv K H n (.str x) (.s x)
 | b {n k}:Dv K H n (.bl k) (.b k)
 | n {n}:Dv K H n .non .n
 | t {n a xs ds}:SqZ K H a xs->xs.length=ds.length->(∀ (j:Nat) x d,xs[j]?=some x->ds[j]?=some d->Dv K H n x d)->Dv K H (n+1) (.ref a) (.t ds)
theorem Dv.eq {K:PySem.W.Frag}{H:Hp}{n:Nat}{x:V}{d:Dt}(h:Dv K H n x d) : ∀ {m:Nat} {y:V},Dv K H m y d->DEq K H n x y true:=by
 induction h with
 | i=>intro m y k; cases k; exact DEq.self (.inl rfl)
 | s=>intro m y k; cases k; exact DEq.self (.inl rfl)
 | b=>intro m y k; cases k; exact DEq.self (.inl rfl)
 | n=>intro m y k; cases k; exact DEq.self (.inl rfl)
 | @t n a xs ds h1 h2 h3 ih =>
  intro m y k
  cases k with
  | @t m b ys _ k1 k2 k3 =>
   by_cases e:a=b
   ·subst e
    exact .same
   ·have q:=DEq.tup (n:=n) (e:=fun _=>true) e h1.sq k1.sq fun j x y hx hy => ?_
    ·rwa [jJ _ _ (h2.trans k2.symm)] at q
    ·obtain ⟨d,hd⟩ : ∃ d,ds[j]?=some d:=⟨_,List.getElem?_eq_getElem (by have:=(List.getElem?_eq_some_iff.mp hx).1; omega)⟩
     exact ih j x d hx hd (k3 j y d hy hd)
def DL (K:PySem.W.Frag)(H:Hp)(n:Nat)(xs:List V)(ds:List Dt):Prop:=xs.length=ds.length/\∀ (j:Nat) x d,xs[j]?=some x->ds[j]?=some d->Dv K H n x d
theorem DL.nil {K:PySem.W.Frag}{H:Hp}{n:Nat}:DL K H n [] []:=⟨rfl,fun j x d h=>by simp at h⟩
theorem DL.cons {K:PySem.W.Frag}{H:Hp}{n:Nat}{x:V}{d:Dt}{xs:List V}{ds:List Dt}(h:Dv K H n x d)(k:DL K H n xs ds):DL K H n (x :: xs) (d :: ds):=by
 refine ⟨by rw [List.length_cons,List.length_cons,k.1],fun j y e hy he => ?_⟩
 cases j with
 | zero =>
  simp at hy he
  subst hy he
  exact h
 | succ j=>exact k.2 j y e (by simpa using hy) (by simpa using he)
def aGb (K:PySem.W.Frag):R2:=fun x y H Q=>∃ a b xs ys ds,x = .ref a/\y = .ref b/\SqL K H a xs/\SqL K H b ys/\DL K H 40 xs ds/\DL K H 40 ys ds/\Q (.bl true) H
def rNeDL (K:PySem.W.Frag):R2:=fun x y H Q=>∃ a b xs ys ds,x = .ref a/\y = .ref b/\SqL K H a xs/\SqL K H b ys/\DL K H 40 xs ds/\DL K H 40 ys ds/\Q (.bl false) H
def aGa (K:PySem.W.Frag):R2:=fun x y H Q=>∃ a b xs ys ds,x = .ref a/\y = .ref b/\SqT K H a xs/\SqT K H b ys/\DL K H 40 xs ds/\DL K H 40 ys ds/\Q (.bl true) H
def aF9 (K:PySem.W.Frag):R2:=fun x y H Q=>∃ a b xs ys ds,x = .ref a/\y = .ref b/\SqT K H a xs/\SqT K H b ys/\DL K H 40 xs ds/\DL K H 40 ys ds/\Q (.bl false) H
theorem DL.deq {K:PySem.W.Frag}{H:Hp}{n m:Nat}{xs ys:List V}{ds:List Dt}(h:DL K H n xs ds)(k:DL K H m ys ds) : ∀ (j:Nat) x y,xs[j]?=some x->ys[j]?=some y->DEq K H n x y true:=fun j x y hx hy=>by
 obtain ⟨d,hd⟩ : ∃ d,ds[j]?=some d:=⟨_,List.getElem?_eq_getElem (by have:=(List.getElem?_eq_some_iff.mp hx).1; have:=h.1; omega)⟩
 exact (h.2 j x d hx hd).eq (k.2 j y d hy hd)
section
variable {X:Cx}
theorem aB6 (hu:X.A.units+64 < cLine):OpR X (compareOp .Eq) (aGb X.K):=by
 intro pins s σ H x y v u Q I rx ry h
 obtain ⟨a,b,xs,ys,ds,rfl,rfl,hx,hy,k1,k2,q⟩:=h
 refine aEt hu pins s σ H _ _ v u Q I rx ry ⟨a,b,xs,ys,fun _=>true,rfl,rfl,hx,hy,k1.deq k2,?_⟩
 rw [jJ _ _ (k1.1.trans k2.1.symm)]
 exact q
theorem aB5 (hu:X.A.units+64 < cLine):OpR X (compareOp .Eq) (aGa X.K):=by
 intro pins s σ H x y v u Q I rx ry h
 obtain ⟨a,b,xs,ys,ds,rfl,rfl,hx,hy,k1,k2,q⟩:=h
 refine aAi hu pins s σ H _ _ v u Q I rx ry ⟨a,b,xs,ys,fun _=>true,rfl,rfl,hx,hy,k1.deq k2,?_⟩
 rw [jJ _ _ (k1.1.trans k2.1.symm)]
 exact q
theorem aB4 (hu:X.A.units+64 < cLine):OpR X (compareOp .NotEq) (aF9 X.K):=by
 intro pins s σ H x y v u Q I rx ry h
 obtain ⟨a,b,xs,ys,ds,rfl,rfl,hx,hy,k1,k2,q⟩:=h
 refine aAg hu pins s σ H _ _ v u Q I rx ry ⟨a,b,xs,ys,fun _=>true,rfl,rfl,hx,hy,k1.deq k2,?_⟩
 rw [jJ _ _ (k1.1.trans k2.1.symm)]
 exact q
end
theorem iS {env:Env} : ∀ (names:List (Str × NameKind)) (acc:List (Str × Addr)),(∀ y ∈ names,y.2=NameKind.free->∃ c,env.cells.lookup y.1=some c)->(∀ x c,acc.lookup x=some c->env.cells.lookup x=some c) ->
  ∃ cl,(forIn (m:=Sem) names acc (fun x r=>do if (x.2 == NameKind.free)=true then do let c <- cellOf env x.1; pure (ForInStep.yield ((x.1,c) :: r)) else pure (ForInStep.yield r)))=pure cl /\
   (∀ x c,cl.lookup x=some c->env.cells.lookup x=some c)/\(∀ y ∈ names,y.2=NameKind.free->∃ c,cl.lookup y.1=some c)/\∀ x,(∃ c,acc.lookup x=some c)->∃ c,cl.lookup x=some c
 | [],acc,_,h2=>⟨acc,rfl,h2,(fun y hy=>by simp at hy),fun _ h=>h⟩
 | y :: r,acc,h1,h2=>by
  by_cases e:y.2=NameKind.free
  ·obtain ⟨c,hc⟩:=h1 y List.mem_cons_self e
   obtain ⟨cl,e1,e2,e3,e4⟩:=iS r ((y.1,c) :: acc) (fun z hz=>h1 z (List.mem_cons_of_mem _ hz)) (fun x d hx=>by
    rw [List.lookup_cons] at hx
    split at hx
    ·rename_i hb
     have:x=y.1:=eq_of_beq hb
     rw [this,hc]
     exact hx
    ·exact h2 x d hx)
   refine ⟨cl,?_,e2,fun z hz ez => ?_,fun x hx=>e4 x ?_⟩
   ·rw [List.forIn_cons,if_pos (by rw [e]; rfl)]
    unfold cellOf
    rw [hc]
    simp only [pure_bind]
    exact e1
   ·rcases List.mem_cons.mp hz with rfl | hz
    ·exact e4 z.1 ⟨c,by rw [List.lookup_cons,beq_self_eq_true]⟩
    ·exact e3 z hz ez
   ·obtain ⟨d,hd⟩:=hx
    rw [List.lookup_cons]
    split
    ·exact ⟨c,rfl⟩
    ·exact ⟨d,hd⟩
  ·obtain ⟨cl,e1,e2,e3,e4⟩:=iS r acc (fun z hz=>h1 z (List.mem_cons_of_mem _ hz)) h2
   refine ⟨cl,?_,e2,fun z hz ez => ?_,e4⟩
   ·rw [List.forIn_cons,if_neg (by intro z; exact e (eq_of_beq z))]
    simp only [pure_bind]
    exact e1
   ·rcases List.mem_cons.mp hz with rfl | hz
    ·exact absurd ez e
    ·exact e3 z hz ez
theorem sH {scope:Scope}{env:Env}(h : ∀ y ∈ scope.names,y.2=NameKind.free->∃ c,env.cells.lookup y.1=some c) :
  ∃ cl,closureFor scope env=pure cl/\(∀ x c,cl.lookup x=some c->env.cells.lookup x=some c)/\∀ y ∈ scope.names,y.2=NameKind.free->∃ c,cl.lookup y.1=some c:=by
 obtain ⟨cl,e1,e2,e3,_⟩:=iS (env:=env) scope.names [] h (fun x c e=>by simp at e)
 refine ⟨cl,?_,e2,e3⟩
 simp only [closureFor]
 rw [show (forIn (m:=Sem) scope.names [] fun x r=>if (x.2 == NameKind.free)=true then (do let c <- cellOf env x.1; pure (ForInStep.yield ((x.1,c) :: r))) else pure (ForInStep.yield r))=pure cl from e1]
 rfl
theorem mU {scope:Scope}{env:Env}{x:Str}(hc : ∀ y ∈ scope.names,y.2 ≠ NameKind.cell)(h:(relabel scope env).names.lookup x=some .cell\/(relabel scope env).names.lookup x=some .free) : ∃ y ∈ scope.names,y.1=x/\y.2=NameKind.free:=by
 have e' : ∃ k,(k=NameKind.cell\/k=NameKind.free)/\(relabel scope env).names.lookup x=some k:=by
  rcases h with e | e
  ·exact ⟨_,.inl rfl,e⟩
  ·exact ⟨_,.inr rfl,e⟩
 obtain ⟨k,hk,e⟩:=e'
 have hm:=PySem.mem_of_lookup e
 obtain ⟨y,hy,hy2⟩:=List.mem_map.mp hm
 obtain ⟨n,kk⟩:=y
 have hn:=hc _ hy
 simp only at hy2 hn
 split at hy2
 ·rename_i hf
  injection hy2 with a1 a2
  subst a1
  simp only [Bool.and_eq_true] at hf
  exact ⟨(n,kk),hy,rfl,eq_of_beq hf.1.1⟩
 ·injection hy2 with a1 a2
  subst a1 a2
  rcases hk with rfl | rfl
  ·exact absurd rfl hn
  ·exact ⟨_,hy,rfl,rfl⟩
theorem wH {X:Cx}(ok:X.Ok){scope:Scope}(hc : ∀ y ∈ scope.names,y.2 ≠ NameKind.cell)(h : ∀ y ∈ scope.names,y.2=NameKind.free->X.env.kindOf y.1=some .cell\/X.env.kindOf y.1=some .free) : ∃ cl,ClOk X scope cl:=by
 obtain ⟨cl,e1,e2,e3⟩:=sH (scope:=scope) (env:=X.env) fun y hy ey=>ok.has y.1 (h y hy ey)
 refine ⟨cl,e1,e2,fun x hx => ?_⟩
 obtain ⟨y,hy,rfl,ey⟩:=mU hc hx
 exact e3 y hy ey
theorem fJ {X:Cx}{elt tg iter:Expr}{ifs:List Expr}{scope:Scope}{pos:Pos}{N':List Str}{wi:TI}{g:TG}{tt:TT}{te:TE}(σf:St->St)
  (hc:X.calm=true) (hkind:scope.kind = .function) (hcell : ∀ y ∈ scope.names,y.2 ≠ .cell) (hnames : ∀ y ∈ scope.names,y.2 = .local->scope.names.lookup y.1=some .local)
  (hk : ∀ y ∈ scope.names,y.2=NameKind.free->X.env.kindOf y.1=some .cell\/X.env.kindOf y.1=some .free)
  (hN : ∀ cl (σ:St),σ.length=X.N.length->BlkN X N' scope cl σ (σf σ)) (hi:PI X tg iter wi)
  (hg : ∀ cl C s₀ H₀ ex pn,PG (blk X N' scope cl C s₀ H₀ ex pn) tg g) (ht : ∀ cl C s₀ H₀ ex pn,PIfs (blk X N' scope cl C s₀ H₀ ex pn) ifs tt) (he : ∀ cl C s₀ H₀ ex pn,PE (blk X N' scope cl C s₀ H₀ ex pn) elt te)
  (hs : ∀ x,foldedSetIterable iter X.env x=pure x:=by intro _; rfl):PE X (.ListComp elt [⟨tg,iter,ifs,0⟩] scope pos) (wW σf wi g tt te):=by
 intro pins s σ H Q I h
 obtain ⟨cl,hcl⟩:=wH I.ok hcell hk
 exact gX σf hc hkind hcell hnames hcl (hN cl) hi (hg cl) (ht cl) (he cl) hs pins s σ H Q I h
theorem lT {X:Cx}{scope sc:Scope}(hs:X.env.scope=sc)(h:(scope.names.all fun y=>y.2 != NameKind.free || sc.names.lookup y.1 == some NameKind.cell || sc.names.lookup y.1 == some NameKind.free)=true) :
  ∀ y ∈ scope.names,y.2=NameKind.free->X.env.kindOf y.1=some .cell\/X.env.kindOf y.1=some .free:=fun y hy ey=>by
 have q:=List.all_eq_true.mp h y hy
 unfold Env.kindOf
 rw [hs]
 rw [ey] at q
 simp only [bne_self_eq_false,Bool.false_or,Bool.or_eq_true] at q
 rcases q with q | q
 ·exact .inl (eq_of_beq q)
 ·exact .inr (eq_of_beq q)
theorem eL {env:Env}{x:Str}(hk:env.scope.kind = .function)(hx:env.kindOf x=some .cell) : ∀ {names:List (Str × NameKind)},names.lookup x=some .free ->
    (names.map fun (n,k)=>if (k == NameKind.free && env.scope.kind == .function && env.kindOf n == some .cell) then (n,NameKind.cell) else (n,k)).lookup x=some .cell
  | [],h=>by simp at h
  | (n,k) :: r,h=>by
    rw [List.map_cons]
    rw [List.lookup_cons] at h
    by_cases e:(x == n)=true
    · rw [e] at h
      have e':x=n:=eq_of_beq e
      subst e'
      have hf:k=NameKind.free:=Option.some.inj h
      subst hf
      have c:(NameKind.free == NameKind.free && env.scope.kind == .function && env.kindOf x == some .cell)=true:=by rw [hk,hx]; rfl
      rw [show (match ((x,NameKind.free):Str × NameKind) with | (n,k)=>if (k == NameKind.free && env.scope.kind == .function && env.kindOf n == some .cell)=true then (n,NameKind.cell) else (n,k))=(x,NameKind.cell) from if_pos c]
      rw [List.lookup_cons,beq_self_eq_true]
    · have e0:(x == n)=false:=by simpa using e
      rw [e0] at h
      have ih:=eL hk hx h
      have en : ∀ q:Str × NameKind,q.1=n->(q :: (r.map fun (n,k)=>if (k == NameKind.free && env.scope.kind == .function && env.kindOf n == some .cell) then (n,NameKind.cell) else (n,k))).lookup x=some .cell:=fun q hq=>by
        obtain ⟨q1,q2⟩:=q
        simp only at hq
        subst hq
        rw [List.lookup_cons,e0]
        exact ih
      refine en _ ?_
      show (if _ then (n,NameKind.cell) else (n,k)).1=n
      split <;> rfl
theorem fR {X:Cx}{N' N:List Str}{scope sc:Scope}{cl:List (Str × Addr)}{σ:St}(ts:List (Option Nat))(hN:X.N=N)(hsc:X.env.scope=sc)(hl:ts.length=N'.length)(hk:sc.kind = .function)
  (h:((ts.zip N').all fun p=>match p.1 with | none=>true | some j=>N[j]? == some p.2 && sc.names.lookup p.2 == some NameKind.cell && scope.names.lookup p.2 == some NameKind.free)=true) :
  BlkN X N' scope cl σ (ts.map fun t=>t.bind fun j=>(σ[j]?).join):=by
 refine ⟨by rw [List.length_map,hl],fun i x v h1 h2 => ?_⟩
 rw [List.getElem?_map] at h2
 cases ht:ts[i]? with
 | none=>rw [ht] at h2; cases h2
 | some t =>
  rw [ht] at h2
  have h2':(t.bind fun j=>(σ[j]?).join)=some v:=Option.some.inj h2
  cases t with
  | none=>cases h2'
  | some j =>
   have hm:(some j,x) ∈ ts.zip N':=List.mem_of_getElem? (by rw [List.getElem?_zip_eq_some]; exact ⟨ht,h1⟩:(ts.zip N')[i]?=some (some j,x))
   have q:=List.all_eq_true.mp h _ hm
   simp only [Bool.and_eq_true] at q
   obtain ⟨⟨q1,q2⟩,q3⟩:=q
   have q1':=eq_of_beq q1
   have q2':=eq_of_beq q2
   have q3':=eq_of_beq q3
   have kd:X.env.kindOf x=some .cell:=by
    unfold Env.kindOf
    rw [hsc]
    exact q2'
   refine ⟨j,by rw [hN]; exact q1',?_,by rw [hsc]; exact .inr (.inl q2'),(by rw [kd]; decide),.inl (eL (by rw [hsc]; exact hk) kd q3')⟩
   have h3:(σ[j]?).join=some v:=h2'
   cases hj:σ[j]? with
   | none=>rw [hj] at h3; cases h3
   | some o=>rw [hj] at h3; cases o with
    | none=>cases h3
    | some u=>cases h3; rfl
section
variable {κ:Type}[DecidableEq κ]
def valV (kvs:List (κ × V))(k:κ):Option V:=(kvs.find? fun kv=>decide (kv.1=k)).map (·.2)
def putK (kvs:List (κ × V))(k:κ)(v:V):List (κ × V) :=
 if (kvs.any fun kv=>decide (kv.1=k))=true then kvs.map (fun kv=>if kv.1=k then (kv.1,v) else kv) else kvs ++ [(k,v)]
def aCz (kvs:List (κ × V))(k:κ):List (κ × V):=kvs.filter fun kv=>decide (kv.1 ≠ k)
theorem dN {p:κ × V}{r:List (κ × V)}{k:κ}(e:p.1=k):valV (p :: r) k=some p.2:=by simp [valV,List.find?_cons,e]
theorem dO {p:κ × V}{r:List (κ × V)}{k:κ}(e : ¬ p.1=k):valV (p :: r) k=valV r k:=by simp [valV,List.find?_cons,e]
theorem eZ (k:κ) : ∀ kvs:List (κ × V),(kvs.any fun kv=>decide (kv.1=k))=(valV kvs k).isSome
 | []=>rfl
 | p :: r=>by
  rw [List.any_cons]
  by_cases e:p.1=k
  ·simp only [dN e,decide_eq_true e,Bool.true_or,Option.isSome_some]
  ·rw [dO e,decide_eq_false e,Bool.false_or]; exact eZ k r
theorem pU (k j:κ)(y:V) : ∀ kvs:List (κ × V),valV (kvs.map fun kv=>if kv.1=k then (kv.1,y) else kv) j=(valV kvs j).map fun x=>if j=k then y else x
 | []=>rfl
 | p :: r=>by
  have ih:=pU k j y r
  rw [List.map_cons]
  by_cases h:p.1=k
  ·rw [if_pos h]
   by_cases e:p.1=j
   ·rw [dN (p:=(p.1,y)) e,dN e,Option.map_some,if_pos (e.symm.trans h)]
   ·rw [dO (p:=(p.1,y)) e,dO e,ih]
  ·rw [if_neg h]
   by_cases e:p.1=j
   ·rw [dN (p:=p) e,dN e,Option.map_some,if_neg (fun z=>h (e.trans z))]
   ·rw [dO (p:=p) e,dO e,ih]
theorem mG (k j:κ)(y:V) : ∀ kvs:List (κ × V),valV kvs k=none->valV (kvs ++ [(k,y)]) j=if j=k then some y else valV kvs j
 | [],_=>by
  by_cases e:k=j
  ·rw [if_pos e.symm]; exact dN (p:=(k,y)) e
  ·rw [if_neg (fun z=>e z.symm)]; exact dO (p:=(k,y)) e
 | p :: r,hn=>by
  rw [List.cons_append]
  have hk : ¬ p.1=k:=fun z=>by rw [dN z] at hn; cases hn
  rw [dO hk] at hn
  have ih:=mG k j y r hn
  by_cases e:p.1=j
  ·rw [dN e,dN e,if_neg (fun z=>hk (e.trans z))]
  ·rw [dO e,dO e,ih]
theorem kY (kvs:List (κ × V))(k j:κ)(y:V):valV (putK kvs k y) j=if j=k then some y else valV kvs j:=by
 unfold putK
 by_cases a:(kvs.any fun kv=>decide (kv.1=k))=true
 ·rw [if_pos a,pU]
  rw [eZ] at a
  by_cases e:j=k
  ·obtain ⟨x,hx⟩:=Option.isSome_iff_exists.mp a
   rw [if_pos e,e,hx,Option.map_some,if_pos rfl]
  ·rw [if_neg e]
   cases valV kvs j with
   | none=>rfl
   | some x=>rw [Option.map_some,if_neg e]
 ·rw [if_neg a]
  refine mG k j y kvs ?_
  rw [eZ] at a
  cases q:valV kvs k with
  | none=>rfl
  | some x=>rw [q] at a; exact (a rfl).elim
theorem gY (kvs:List (κ × V))(k:κ)(v:V):(putK kvs k v).length<=kvs.length+1:=by
 unfold putK
 split
 ·rw [List.length_map]; omega
 ·rw [List.length_append,List.length_cons,List.length_nil]; omega
theorem RelO.isSome_eq {o:Option V}{u:Option Value}(r:RelO o u):o.isSome=u.isSome:=by
 cases o with
 | none=>cases u with
  | none=>rfl
  | some _=>exact (show False from r).elim
 | some _=>cases u with
  | none=>exact (show False from r).elim
  | some _=>rfl
theorem RelO.getD {o:Option V}{u:Option Value}{d:V}{d':Value}(r:RelO o u)(rd:RelV d d'):RelV (o.getD d) (u.getD d'):=by
 cases o with
 | none=>cases u with
  | none=>exact rd
  | some _=>exact (show False from r).elim
 | some _=>cases u with
  | none=>exact (show False from r).elim
  | some _=>exact r
theorem KV.val {kvs:List (κ × V)}{vs:List (κ × Value)}(r:KV kvs vs)(k:κ):RelO (valV kvs k) (valueAt vs k):=by
 unfold KV at r
 induction r with
 | nil=>exact True.intro
 | @cons p q ps qs h t ih =>
  obtain ⟨h1,h2⟩:=h
  by_cases e:p.1=k
  ·have e':q.1=k:=h1.symm.trans e
   have b:valueAt (q :: qs) k=some q.2:=by simp [valueAt,List.find?_cons,e']
   rw [dN e,b]; exact h2
  ·have e' : ¬ q.1=k:=fun z=>e (h1.trans z)
   have b:valueAt (q :: qs) k=valueAt qs k:=by simp [valueAt,List.find?_cons,e']
   rw [dO e,b]; exact ih
theorem KV.any {kvs:List (κ × V)}{vs:List (κ × Value)}(r:KV kvs vs)(k:κ):(kvs.any fun kv=>decide (kv.1=k))=vs.any fun kv=>decide (kv.1=k):=by
 unfold KV at r
 induction r with
 | nil=>rfl
 | cons h t ih=>rw [List.any_cons,List.any_cons,ih,h.1]
theorem KV.repl {kvs:List (κ × V)}{vs:List (κ × Value)}(r:KV kvs vs)(k:κ){y:V}{u:Value}(ry:RelV y u) :
  KV (kvs.map fun kv=>if kv.1=k then (kv.1,y) else kv) (vs.map fun kv=>if kv.1=k then (kv.1,u) else kv):=by
 unfold KV at r ⊢
 induction r with
 | nil=>exact .nil
 | @cons p q ps qs h t ih =>
  rw [List.map_cons,List.map_cons]
  refine .cons ?_ ih
  obtain ⟨h1,h2⟩:=h
  by_cases e:p.1=k
  ·rw [if_pos e,if_pos (h1.symm.trans e)]; exact ⟨h1,ry⟩
  ·rw [if_neg e,if_neg (fun z=>e (h1.trans z))]; exact ⟨h1,h2⟩
theorem KV.put {kvs:List (κ × V)}{vs:List (κ × Value)}(r:KV kvs vs)(k:κ){y:V}{u:Value}(ry:RelV y u):KV (putK kvs k y) (stored vs k u):=by
 unfold putK stored
 rw [r.any k]
 by_cases e:(vs.any fun kv=>decide (kv.1=k))=true
 ·rw [if_pos e,if_pos e]; exact r.repl k ry
 ·rw [if_neg e,if_neg e]; exact Paired.snoc r ⟨rfl,ry⟩
theorem KV.keys {kvs:List (κ × V)}{vs:List (κ × Value)}(r:KV kvs vs):kvs.map (·.1)=vs.map (·.1):=by
 unfold KV at r
 induction r with
 | nil=>rfl
 | cons h t ih=>rw [List.map_cons,List.map_cons,ih,h.1]
theorem KV.length {kvs:List (κ × V)}{vs:List (κ × Value)}(r:KV kvs vs):kvs.length=vs.length:=Paired.length r
end
theorem vF {P:Program}{w:World}{k:Key}{u:Value}(r:RelV (kV k) u):(bR P w).is k u=true:=by
 cases k with
 | inl i=>obtain ⟨t,e⟩:=(show ∃ t,u=Value.int i t from r); subst e; exact pJ P w i t
 | inr x=>obtain ⟨t,e⟩:=(show ∃ t,u=Value.str x t from r); subst e; exact pI P w x t
theorem nK {P:Program}{w:World} : ∀ {ks:List Key} {us:List Value},Vals (ks.map kV) us->ItemsAre (bR P w) ks us
 | [],_,r=>by rw [List.map_nil] at r; cases r; exact .nil
 | k :: ks,_,r=>by
  rw [List.map_cons] at r
  cases r with
  | cons h t=>exact .cons (vF h) (nK t)
abbrev KT (H:Hp):List (List Key × V)->List (List Key × Addr × Value)->Prop:=Paired fun p q=>p.1=q.1/\H q.2.1=some (.tup (p.1.map kV))/\RelV p.2 q.2.2
theorem KT.val {H:Hp}{kvs:List (List Key × V)}{xs:List (List Key × Addr × Value)}(r:KT H kvs xs)(k:List Key):RelO (valV kvs k) ((atKey xs k).map (·.2)):=by
 induction r with
 | nil=>exact True.intro
 | @cons p q ps qs h t ih =>
  obtain ⟨h1,_,h2⟩:=h
  by_cases e:p.1=k
  ·have e':q.1=k:=h1.symm.trans e
   have b:atKey (q :: qs) k=some q.2:=by simp [atKey,List.find?_cons,e']
   rw [dN e,b]; exact h2
  ·have e' : ¬ q.1=k:=fun z=>e (h1.trans z)
   have b:atKey (q :: qs) k=atKey qs k:=by simp [atKey,List.find?_cons,e']
   rw [dO e,b]; exact ih
theorem KT.repl {H:Hp}{kvs:List (List Key × V)}{xs:List (List Key × Addr × Value)}(r:KT H kvs xs)(k:List Key){y:V}{u:Value}(ry:RelV y u) :
  KT H (kvs.map fun kv=>if kv.1=k then (kv.1,y) else kv) (xs.map (putAt k u)):=by
 induction r with
 | nil=>exact .nil
 | @cons p q ps qs h t ih =>
  rw [List.map_cons,List.map_cons]
  refine .cons ?_ ih
  obtain ⟨h1,h2,h3⟩:=h
  unfold putAt
  by_cases e:p.1=k
  ·rw [if_pos e,if_pos (h1.symm.trans e)]; exact ⟨h1,h2,ry⟩
  ·rw [if_neg e,if_neg (fun z=>e (h1.trans z))]; exact ⟨h1,h2,h3⟩
theorem KT.put {H:Hp}{kvs:List (List Key × V)}{xs:List (List Key × Addr × Value)}(r:KT H kvs xs)(k:List Key){b:Addr}{y:V}{u:Value}(hb:H b=some (.tup (k.map kV)))(ry:RelV y u) :
  KT H (putK kvs k y) (storedH xs k b u):=by
 have e:(kvs.any fun kv=>decide (kv.1=k))=(atKey xs k).isSome:=by
  rw [eZ,(r.val k).isSome_eq,Option.isSome_map]
 unfold putK storedH
 rw [e]
 by_cases q:(atKey xs k).isSome=true
 ·rw [if_pos q,if_pos q]; exact r.repl k ry
 ·rw [if_neg q,if_neg q]; exact Paired.snoc r ⟨rfl,hb,ry⟩
theorem KT.keeps {H H':Hp}{kvs:List (List Key × V)}{xs:List (List Key × Addr × Value)}(r:KT H kvs xs)(ht : ∀ b ys,H b=some (.tup ys)->H' b=some (.tup ys)):KT H' kvs xs :=
 Paired.mapP r fun _ _ z=>⟨z.1,ht _ _ z.2.1,z.2.2⟩
section
variable {P:Program}{w:World}{H:Hp}{h:Heap}{a:Addr}
theorem aD8 {u:HO}(ok:HOk P w H h)(e:Rd H a u):ObjOk P w H h a u:=e.ok ok
theorem sE {kvs:List (Key × V)}(ok:HOk P w H h)(e:Rd H a (.dK kvs)):kvs.length<=sizeLine/\(a == sysModules)=false/\∃ vs,KV kvs vs/\h.DictOf (bR P w) a vs :=
 show ObjOk P w H h a (.dK kvs) from aD8 ok e
theorem aC0 {kvs:List (Key × V)}(ok:HOk P w H h)(e:H a=some (.dK kvs)):kvs.length<=sizeLine/\(a == sysModules)=false/\∃ vs,KV kvs vs/\h.DictOf (bR P w) a vs:=sE ok (.inl e)
theorem qO {ks:List Key}(ok:HOk P w H h)(e:H a=some (.tup (ks.map kV))):(tupleKind (bR P w)).is h ks a:=by
 obtain ⟨_,its,r,o,h1,h2,n,h3⟩:=(show ObjOk P w H h a (.tup (ks.map kV)) from ok a _ e)
 exact ⟨o,its.toArray,n,h1,h2,h3,by simpa using nK r⟩
theorem vT {kvs:List (List Key × V)}(ok:HOk P w H h)(e:Rd H a (.dT kvs)):kvs.length<=sizeLine/\(a == sysModules)=false /\
  ∃ xs,KT H kvs xs/\h.DictOfH (tupleKind (bR P w)) a xs:=by
 obtain ⟨z,y,xs,r,o,es,ep,h1,h2,h3,h4,h5⟩:=(show ObjOk P w H h a (.dT kvs) from aD8 ok e)
 refine ⟨z,y,xs,r,o,es,ep,h1,h2,h3,h4,fun x hx => ?_,h5⟩
 have all : ∀ {l:List (List Key × V)} {m:List (List Key × Addr × Value)},KT H l m->∀ x ∈ m,(tupleKind (bR P w)).is h x.1 x.2.1:=by
  intro l m q
  induction q with
  | nil=>intro x hx; exact nomatch hx
  | @cons p q ps qs hq t ih =>
   intro x hx
   rcases List.mem_cons.mp hx with e | hx
   ·subst e
    exact qO ok (by rw [<- hq.1]; exact hq.2.1)
   ·exact ih x hx
 exact all r x hx
theorem aGs {kvs:List (List Key × V)}(ok:HOk P w H h)(e:H a=some (.dT kvs)):kvs.length<=sizeLine/\(a == sysModules)=false /\
  ∃ xs,KT H kvs xs/\h.DictOfH (tupleKind (bR P w)) a xs:=vT ok (.inl e)
end
def DGet (H:Hp)(a:Addr)(y:V)(r:Option V):Prop :=
 (∃ kvs k,Rd H a (.dK kvs)/\y=kV k/\r=valV kvs k)\/∃ kvs k b,Rd H a (.dT kvs)/\y = .ref b/\H b=some (.tup (k.map kV))/\r=valV kvs k
def DPut (H:Hp)(a:Addr)(y v:V)(H':Hp):Prop :=
 (∃ kvs k,H a=some (.dK kvs)/\y=kV k/\kvs.length < sizeLine/\H'=upd H a (.dK (putK kvs k v))) \/
 ∃ kvs k b,H a=some (.dT kvs)/\y = .ref b/\H b=some (.tup (k.map kV))/\kvs.length < sizeLine/\H'=upd H a (.dT (putK kvs k v))
theorem DGet.k {H:Hp}{a:Addr}{kvs:List (Key × V)}{k:Key}(e:H a=some (.dK kvs)):DGet H a (kV k) (valV kvs k):=.inl ⟨kvs,k,.inl e,rfl,rfl⟩
theorem DPut.k {H:Hp}{a:Addr}{kvs:List (Key × V)}{k:Key}{v:V}(e:H a=some (.dK kvs))(hl:kvs.length < sizeLine):DPut H a (kV k) v (upd H a (.dK (putK kvs k v))):=.inl ⟨kvs,k,e,rfl,hl,rfl⟩
section
variable {X:Cx}{pins:List (Addr × Obj)}{σ:St}{H:Hp}{s:Shared}{a:Addr}{y v:V}{u r:Value}{o:Option V}{A:Around}{E:Value->Shared->Prop}
theorem Inv.big (I:Inv X pins σ H s):sysModules < s.heap.objs.size:=by
 have h:mainGlobals < s.heap.objs.size:=(I.mod.glob.keeps I.bk).lt
 exact Nat.lt_trans (by decide) h
theorem wD {Q:Value->Shared->Prop}(hu:A.units+1 < cLine)(I:Inv X pins σ H s)(g:DGet H a y (some v))(ry:RelV y u)(h : ∀ w' s',Inv X pins σ H s'->RelV v w'->Q w' s') :
  wpAny (model X.prog X.w) A (getItem (.ref a) u) Q E s:=by
 rcases g with ⟨kvs,k,e,ey,l⟩ | ⟨kvs,k,b,e,ey,eb,l⟩
 ·subst ey
  obtain ⟨z,hd,vs,rel,dd⟩:=sE I.hok e
  obtain ⟨w',hw,rw'⟩:=RelO.some_of (v:=v) (o:=valueAt vs k) (by rw [l]; exact rel.val k)
  exact wpAny_getItem_of (vF ry) dd.mapOf hw (h w' _ (I.tok _) rw')
 ·subst ey
  cases (show u=Value.ref b from ry)
  obtain ⟨z,hd,xs,rel,dd⟩:=vT I.hok e
  obtain ⟨w',hw,rw'⟩:=RelO.some_of (v:=v) (o:=(atKey xs k).map (·.2)) (by rw [l]; exact rel.val k)
  obtain ⟨p,hp,hp2⟩:=Option.map_eq_some_iff.mp hw
  refine wpAny_getItem_heap (tupleKind_room_in1 hu) (qO I.hok eb) dd hp ?_
  rw [hp2]
  exact h w' _ (I.tok _) rw'
theorem vY {h':Heap}{t':Nat}{ob:HO}(I:Inv X pins σ H s)(mu:Mut (H a))(hs:Heap.SameBut a s.heap h')(he : ∃ q,h'.get? a=some q)(new:ObjOk X.prog X.w (upd H a ob) h' a ob) :
  Inv X pins σ (upd H a ob) { s with heap:=h',toks:=t' } :=
 I.write (x:=a) (e:=a) mu (.inl rfl) (fun b q hb z=>(hs.2 b hb).trans z) he new
theorem aFk {P:Program}{w:World}{H':Hp}{h':Heap}{kvs:List (Key × V)}{vs:List (Key × Value)}(z:kvs.length<=sizeLine)(hd:(a == sysModules)=false)(rel:KV kvs vs)(dd:h'.DictOf (bR P w) a vs) :
  ObjOk P w H' h' a (.dK kvs):=⟨z,hd,vs,rel,dd⟩
theorem vZ {H':Hp}{Q:Unit->Shared->Prop}(hu:A.units+1 < cLine)(I:Inv X pins σ H s)(g:DPut H a y v H')(ry:RelV y u)(rv:RelV v r)(h : ∀ s',Inv X pins σ H' s'->Q () s') :
  wpAny (model X.prog X.w) A (setItem (.ref a) u r) Q E s:=by
 rcases g with ⟨kvs,k,e,ey,l,eH⟩ | ⟨kvs,k,b,e,ey,eb,l,eH⟩
 ·subst ey eH
  obtain ⟨z,hd,vs,rel,dd⟩:=aC0 I.hok e
  have hz:vs.length<=sizeLine:=by rw [<- rel.length]; exact z
  have hl:(putK kvs k v).length<=sizeLine:=by have:=gY kvs k v; omega
  refine wpAny_setItem_pairs (hsz:=hz) (vF ry) dd fun h' dd' hs=>h _ ?_
  have he : ∃ q,h'.get? a=some q:=let ⟨q,_,_,hq,_⟩:=dd'; ⟨q,hq⟩
  exact vY I (by rw [e]; exact True.intro) hs he (aFk hl hd (rel.put k rv) dd')
 ·subst ey eH
  cases (show u=Value.ref b from ry)
  obtain ⟨z,hd,xs,rel,dd⟩:=aGs I.hok e
  have hz:xs.length<=sizeLine:=by rw [<- Paired.length rel]; exact z
  have hl:(putK kvs k v).length<=sizeLine:=by have:=gY kvs k v; omega
  refine wpAny_setItem_heap (hsz:=hz) (tupleKind_room_in1 hu) (qO I.hok eb) dd fun h' dd' hs=>h _ ?_
  obtain ⟨q,es,ep,hq,h2,h3,h4,_,h5⟩:=dd'
  refine vY I (by rw [e]; exact True.intro) hs ⟨q,hq⟩ ⟨hl,hd,_,(rel.put k eb rv).keeps fun c ys ec => ?_,q,es,ep,hq,h2,h3,h4,h5⟩
  rw [aL (aGe ec e (fun z=>nomatch z))]
  exact ec
end
section
variable {X:Cx}{pins:List (Addr × Obj)}{σ:St}{H:Hp}{s:Shared}{a:Addr}{kvs:List (Key × V)}{k:Key}{u:Value}{A:Around}{E:Value->Shared->Prop}
theorem aGt {Q:Value->Shared->Prop}(I:Inv X pins σ H s)(e:Rd H a (.dK kvs))(h : ∀ t s',Inv X pins σ H s'->Q (.int kvs.length t) s'):wpAny (model X.prog X.w) A (call (.builtin "len") [.ref a]) Q E s:=by
 obtain ⟨z,hd,vs,rel,dd⟩:=sE I.hok e
 refine call_len_dict hd dd (by rw [<- rel.length]; rw [sizeLine_eq] at z; omega) ?_
 rw [<- rel.length]
 exact h _ _ (I.tok _)
end
def NoSl (i:Expr):Prop:=∀ ov iv,subscripted i false ov iv=operate [ov,iv] (getItem ov iv)
theorem aBa {prog:Program}{w:World}{A:Around}{E:Value->Shared->Prop}{s:Shared}{env:Env}{value slice:Expr}{pos:Pos}{T id:String}{Q:Value->Shared->Prop}
  (hl:typeLookup (.type T) "__getitem__" = pure (some (.builtin id))) (hs:NoSl slice)
  (h:wpAny (model prog w) A (eval value env) (fun o s₁=>wpAny (model prog w) A (eval slice env) (fun i s₂=>s₂.TypeIs o T/\wpAny (model prog w) A (getItem o i) Q E s₂) E s₁) E s) :
  wpAny (model prog w) A (eval (.Subscript value slice pos) env) Q E s:=by
 refine Subscript_ (wpAny_mono h (fun o s₁ h₁=>wpAny_mono h₁ (fun i s₂ h₂ => ?_) fun _ _ x=>x) fun _ _ x=>x)
 obtain ⟨hT,h₂⟩:=h₂
 unfold subscriptTail
 refine wpAny_bind ?_
 rw [getitemInPython_of_ne hT.not_modules]
 refine wpAny_bind (wpAny_specialOf hT hl ?_)
 have fin:wpAny (model prog w) A (subscripted slice false o i) (fun r s₃=>wpAny (model prog w) A (letTemporaryGo value o r >>= fun _=>pure r) Q E s₃) E s₂:=by
  rw [hs o i]
  exact wpAny_operating (wpAny_mono h₂ (fun r s₃ h₃=>wpAny_bind (wpAny_letTemporaryGo (wpAny_pure h₃))) fun _ _ x=>x)
 first
  | exact wpAny_pure (wpAny_bind fin)
  | exact wpAny_bind (wpAny_pure (wpAny_bind fin))
  | exact wpAny_bind fin
theorem pO {X:Cx}{pins:List (Addr × Obj)}{σ:St}{H:Hp}{s:Shared}{a:Addr}{y:V}{o:Option V}(I:Inv X pins σ H s)(g:DGet H a y o):s.TypeIs (.ref a) "dict" := by
 rcases g with ⟨kvs,k,e,_,_⟩ | ⟨kvs,k,b,e,_,_,_⟩
 ·obtain ⟨_,_,vs,_,dd⟩:=sE I.hok e
  exact dd.typeIs
 ·obtain ⟨_,_,xs,_,dd⟩:=vT I.hok e
  exact dd.typeIs
def aF2 (td ty:TE):TE:=fun σ H Q=>td σ H fun x H1=>ty σ H1 fun y H2=>∃ a v,x = .ref a/\DGet H2 a y (some v)/\Q v H2
def tDIn (ty td:TE):TE:=fun σ H Q=>ty σ H fun y H1=>td σ H1 fun x H2=>∃ a o,x = .ref a/\DGet H2 a y o/\Q (.bl o.isSome) H2
def tDNotIn (ty td:TE):TE:=fun σ H Q=>ty σ H fun y H1=>td σ H1 fun x H2=>∃ a o,x = .ref a/\DGet H2 a y o/\Q (.bl (!o.isSome)) H2
def aF7 (td ty tv:TE):TS:=fun D σ H=>tv σ H fun v H1=>td σ H1 fun x H2=>ty σ H2 fun y H3=>∃ a H4,x = .ref a/\DPut H3 a y v H4/\D.nx σ H4
def sDAug (td ty tv:TE)(rd:V->V->Hp->VK->Prop):TS:=fun D σ H=>td σ H fun x H1=>ty σ H1 fun y H2=>∃ a v,x = .ref a/\DGet H2 a y (some v) /\
 tv σ H2 fun y2 H3=>rd v y2 H3 fun z H4=>∃ H5,DPut H4 a y z H5/\D.nx σ H5
def sDDel (td ty:TE):TS:=fun D σ H=>td σ H fun x H1=>ty σ H1 fun y H2=>∃ a kvs k,x = .ref a/\H2 a=some (.dK kvs)/\y=kV k/\(valV kvs k).isSome=true/\D.nx σ (upd H2 a (.dK (aCz kvs k)))
section
variable {X:Cx}{o i e value:Expr}{pos pos' tpos:Pos}{td ty tv:TE}
theorem eK (hu:X.A.units+1 < cLine)(ho:PE X o td)(hi:PE X i ty)(hs:NoSl i):PE X (.Subscript o i pos) (aF2 td ty):=by
 intro pins s σ H Q I h
 refine aBa PySem.F.slot_dict_getitem.lookup hs (thn (ho pins s σ H _ I h) fun u s1 ⟨x,H1,I1,rx,q1⟩=>thn (hi pins s1 σ H1 _ I1 q1) fun iv s2 ⟨y,H2,I2,ry,a,v,ex,g,q2⟩ => ?_)
 subst ex
 obtain rfl:u=Value.ref a:=rx
 exact ⟨pO I2 g,wD hu I2 g ry fun w' s3 I3 rw'=>⟨v,H2,I3,rw',q2⟩⟩
theorem iM (hu:X.A.units+1 < cLine)(ho:PE X o td)(hi:PE X i ty)(hv:PE X value tv)(hs:swapsWith value (some (.Subscript o i pos')) pos.line X.env=pure false) :
  PS X (.Assign [.Subscript o i pos'] value pos) (aF7 td ty tv):=by
 intro pins s σ H D I h
 refine wpAny_Assign_Subscript (thn (hv pins s σ H _ I h) fun r s1 ⟨v,H1,I1,rv,q1⟩=>thn (ho pins s1 σ H1 _ I1 q1) fun u s2 ⟨x,H2,I2,rx,q2⟩=>thn (hi pins s2 σ H2 _ I2 q2) fun iv s3 ⟨y,H3,I3,ry,a,H4,ex,g,q3⟩ => ?_) hs
 subst ex
 obtain rfl:u=Value.ref a:=rx
 exact vZ hu I3 g ry rv fun s4 I4=>⟨σ,H4,I4,q3⟩
end
theorem zO {P:Program}{w:World}{H:Hp}(h:Heap)(hb:sysModules < h.objs.size):ObjOk P w H (h.push { cls:=.type "dict",data:=.dict #[] }) h.objs.size (.dK []) :=
 ⟨Nat.zero_le _,beq_eq_false_iff_ne.mpr (Ne.symm (Nat.ne_of_lt hb)),[],.nil,Heap.DictOf.new h⟩
def aDm:TE:=fun _ H Q=>∀ p,H p=none->Q (.ref p) (upd H p (.dK []))
def tDNewT:TE:=fun _ H Q=>∀ p,H p=none->Q (.ref p) (upd H p (.dT []))
section
variable {X:Cx}{pos:Pos}
theorem lP:PE X (.Dict [] [] pos) aDm:=fun pins s σ H Q I h =>
 wpAny_Dict_empty ⟨.ref s.heap.objs.size,_,I.laid (a:=s.heap.objs.size) (o:=.dK []) (t':=s.toks) (fun _ _ q=>Heap.get?_push_of_some _ q) (Nat.le_refl _) (zO s.heap I.big),rfl,h _ (I.hok.fresh (Nat.le_refl _))⟩
end
def tG:List (TE × TE)->St->Hp->(List (V × V)->Hp->Prop)->Prop
  | [],_,H,Q=>Q [] H
  | (tk,tv) :: r,σ,H,Q=>tk σ H fun x H1=>tv σ H1 fun y H2=>tG r σ H2 fun ps H3=>Q ((x,y) :: ps) H3
abbrev VV:List (V × V)->List (Value × Value)->Prop:=Paired fun p q=>RelV p.1 q.1/\RelV p.2 q.2
def PPs (X:Cx)(pos:Pos)(keys:List (Option Expr))(values:List Expr)(trs:List (TE × TE)):Prop :=
 ∀ (pins:List (Addr × Obj)) (s:Shared) (σ:St) (H:Hp) (Q:List (V × V)->Hp->Prop),Inv X pins σ H s->tG trs σ H Q ->
  wpAny (model X.prog X.w) X.A (evalPairs (pairTrees keys values X.env pos)) (fun vs s'=>∃ ps H',Inv X pins σ H' s'/\VV ps vs/\Q ps H') X.xe s
def aAl (kvs more:List (Key × V)):List (Key × V):=more.foldl (fun acc kv=>putK acc kv.1 kv.2) kvs
def tDisp (trs:List (TE × TE)):TE:=fun σ H Q=>∀ p,H p=none->tG trs σ (upd H p (.dK [])) fun ps H2=>H2 p=some (.dK [])/\∃ kvs:List (Key × V),ps=kvs.map (fun kv=>(kV kv.1,kv.2))/\kvs.length<=15/\Q (.ref p) (upd H2 p (.dK (aAl [] kvs)))
structure M1 (X:Cx)(o:Expr)(m:Str)(apos:Pos)(e:Expr)(cpos:Pos):Prop where
 base:attributeBase o m X.env (eval o X.env)=eval o X.env
 few:((backTo cpos (starEach [e] X.env)).all (fun x => !x.1) && (backToKw cpos (keywordEach [] X.env)).all (fun x=>x.1.isSome)
  && decide (([e]:List Expr).length+([]:List Keyword).length+(if ([]:List Keyword).isEmpty then 0 else 1) < 30))=true
 line:(apos.endLine == cpos.line)=true
 trees:backTo cpos (starEach [e] X.env)=[(false,eval e X.env)]
structure M2 (X:Cx)(o:Expr)(m:Str)(apos:Pos)(e f:Expr)(cpos:Pos):Prop where
 base:attributeBase o m X.env (eval o X.env)=eval o X.env
 few:((backTo cpos (starEach [e,f] X.env)).all (fun x => !x.1) && (backToKw cpos (keywordEach [] X.env)).all (fun x=>x.1.isSome)
  && decide (([e,f]:List Expr).length+([]:List Keyword).length+(if ([]:List Keyword).isEmpty then 0 else 1) < 30))=true
 line:(apos.endLine == cpos.line)=true
 trees:backTo cpos (starEach [e,f] X.env)=[(false,eval e X.env),(false,eval f X.env)]
def IsD (H:Hp)(a:Addr):Prop:=(∃ kvs,Rd H a (.dK kvs))\/∃ kvs,Rd H a (.dT kvs)
theorem aFg {X:Cx}{pins:List (Addr × Obj)}{σ:St}{H:Hp}{s:Shared}{a:Addr}(I:Inv X pins σ H s)(d:IsD H a) :
  s.TypeIs (.ref a) "dict" /\ (∀ b,Value.ref a = .ref b->∃ ob,s.heap.get? b=some ob/\ob.dict=none)/\(a == sysModules)=false:=by
 rcases d with ⟨kvs,e⟩ | ⟨kvs,e⟩
 ·obtain ⟨_,hd,vs,_,dd⟩:=sE I.hok e
  refine ⟨dd.typeIs,fun b q => ?_,hd⟩
  cases q
  obtain ⟨ob,_,_,h1,h2,_⟩:=dd
  exact ⟨ob,h1,h2.2.1⟩
 ·obtain ⟨_,hd,xs,_,dd⟩:=vT I.hok e
  refine ⟨dd.typeIs,fun b q => ?_,hd⟩
  cases q
  obtain ⟨ob,_,_,h1,h2,_⟩:=dd
  exact ⟨ob,h1,h2.2.1⟩
section
variable {X:Cx}{pins:List (Addr × Obj)}{σ:St}{H:Hp}{s:Shared}{a:Addr}{y d:V}{u r:Value}{o:Option V}{A:Around}{E:Value->Shared->Prop}
theorem aFl {Q:Value->Shared->Prop}(hu:A.units+1 < cLine)(I:Inv X pins σ H s)(g:DGet H a y o)(ry:RelV y u)(rd:RelV d r)(h : ∀ w' s',Inv X pins σ H s'->RelV (o.getD d) w'->Q w' s') :
  wpAny (model X.prog X.w) A (call (.builtin "dict.get") [.ref a,u,r]) Q E s:=by
 rcases g with ⟨kvs,k,e,ey,l⟩ | ⟨kvs,k,b,e,ey,eb,l⟩
 ·subst ey
  obtain ⟨z,hd,vs,rel,dd⟩:=sE I.hok e
  refine call_meetsIn PySem.F.slot_dict_get dd.typeIs PySem.F.entry_dict_get (PySem.F.args_dict_get_3 _ _ _) (meets_dict_get_default (bR X.prog X.w) a (vF ry) hd r) ⟨_,dd.mapOf,h _ _ (I.tok _) ?_⟩
  rw [l]
  exact (rel.val k).getD rd
 ·subst ey
  cases (show u=Value.ref b from ry)
  obtain ⟨z,hd,xs,rel,dd⟩:=vT I.hok e
  refine call_meetsIn PySem.F.slot_dict_get dd.typeIs PySem.F.entry_dict_get (PySem.F.args_dict_get_3 _ _ _) (meetsH_dict_get_default (tupleKind (bR X.prog X.w)) a b hd r) ⟨tupleKind_room_in1 hu,k,xs,qO I.hok eb,dd,h _ _ (I.tok _) ?_⟩
  rw [l]
  exact (rel.val k).getD rd
end
def tDGet1 (td ty:TE):TE:=fun σ H Q=>td σ H fun x H1=>∃ a,x = .ref a/\IsD H1 a/\ty σ H1 fun y H2=>∃ o,DGet H2 a y o/\Q (o.getD .non) H2
def aDn (td ty tx:TE):TE:=fun σ H Q=>td σ H fun x H1=>∃ a,x = .ref a/\IsD H1 a/\ty σ H1 fun y H2=>tx σ H2 fun z H3=>∃ o,DGet H3 a y o/\Q (o.getD z) H3
def tDPop1 (td ty:TE):TE:=fun σ H Q=>td σ H fun x H1=>∃ a,x = .ref a/\IsD H1 a/\ty σ H1 fun y H2=>∃ kvs k v,H2 a=some (.dK kvs)/\y=kV k/\valV kvs k=some v/\Q v (upd H2 a (.dK (aCz kvs k)))
def tDPop2 (td ty tx:TE):TE:=fun σ H Q=>td σ H fun x H1=>∃ a,x = .ref a/\IsD H1 a/\ty σ H1 fun y H2=>tx σ H2 fun z H3=>∃ kvs k,H3 a=some (.dK kvs)/\y=kV k /\
 (∀ v,valV kvs k=some v->Q v (upd H3 a (.dK (aCz kvs k))))/\(valV kvs k=none->Q z H3)
section
variable {X:Cx}{o e f:Expr}{apos cpos:Pos}{td ty tx:TE}
theorem qJ (hu:X.A.units+1 < cLine)(ho:PE X o td)(he:PE X e ty)(hf:PE X f tx)(m:M2 X o "get" apos e f cpos):PE X (.Call (.Attribute o "get" apos) [e,f] [] cpos) (aDn td ty tx):=by
 intro pins s σ H Q I h
 refine wpAny_Call_method m.base m.few m.line PySem.F.plainAttrs_dict PySem.F.slot_dict_get PySem.F.type_dict_get (thn (ho pins s σ H _ I h) fun u s1 ⟨x,H1,I1,rx,a,ex,d,q1⟩ => ?_)
 subst ex
 obtain rfl:u=Value.ref a:=rx
 obtain ⟨t1,t2,_⟩:=aFg I1 d
 refine ⟨t1,t2,?_⟩
 rw [m.trees]
 refine Calls.callWith_builtin rfl (Calls.evalArgs_plain (Calls.spliced_cons (thn (he pins s1 σ H1 _ I1 q1) fun iv s2 ⟨y,H2,I2,ry,q2⟩ =>
  Calls.spliced_cons (thn (hf pins s2 σ H2 _ I2 q2) fun fv s3 ⟨z,H3,I3,rz,ov,g,q3⟩=>Calls.spliced_nil ?_))))
 exact aFl hu I3 g ry rz fun w' s4 I4 rw'=>⟨_,H3,I4,rw',q3⟩
end
section
variable {X:Cx}{pins:List (Addr × Obj)}{σ:St}{H:Hp}{s:Shared}{a:Addr}{kvs:List (Key × V)}{A:Around}{E:Value->Shared->Prop}
end
section
variable {X:Cx}{pins:List (Addr × Obj)}{σ:St}{H:Hp}{s:Shared}{a:Addr}{y:V}{u:Value}{A:Around}{E:Value->Shared->Prop}
end
section
variable {X:Cx}
def rSortS (K:PySem.W.Frag):List V->Hp->VK->Prop:=fun xs H Q=>∃ a,∃ ss:List Str,xs=[.ref a]/\SqL K H a (ss.map V.str)/\ss.length < 64/\∀ (p:Addr) (ss':List Str),ss'.Perm ss->sortedS ss'=true->H p=none->Q (.ref p) (upd H p (.lst (ss'.map V.str)))
def rSortI (K:PySem.W.Frag):List V->Hp->VK->Prop:=fun xs H Q=>∃ a,∃ ns:List Int,xs=[.ref a]/\SqL K H a (ns.map V.int)/\ns.length < 64/\∀ (p:Addr) (ns':List Int),ns'.Perm ns->ns'.Pairwise (· <= ·)->H p=none->Q (.ref p) (upd H p (.lst (ns'.map V.int)))
theorem nI {P:Program}{w:World} : ∀ {ss:List Str} {vs:List (Key × Value)} {acc:List Value},vs.map (·.1)=ss.map Sum.inr->acc.length=vs.length->(∀ (j:Nat) (v:Value),acc[j]?=some v->∃ k x,vs[j]?=some (k,x)/\(bR P w).is k v=true)->StrsAre acc ss
 | [],[],[],_,_,_=>.nil
 | [],_ :: _,_,e,_,_=>by simp at e
 | _ :: _,[],_,e,_,_=>by simp at e
 | [],[],_ :: _,_,l,_=>by simp at l
 | _ :: _,_ :: _,[],_,l,_=>by simp at l
 | x :: ss,(k,y) :: vs,v :: acc,e,l,h=>by
  simp only [List.map_cons,List.cons.injEq] at e
  obtain ⟨e1,e2⟩:=e
  obtain ⟨k',x',h1,h2⟩:=h 0 v rfl
  simp at h1
  obtain ⟨rfl,rfl⟩:=h1
  subst e1
  obtain ⟨t,rfl⟩:=Value.isStrOf_shape (x:=x) (v:=v) h2
  exact .cons _ _ (nI e2 (by simpa using l) fun j v hv=>h (j+1) v (by simpa using hv))
def rSortDS:List V->Hp->VK->Prop:=fun xs H Q=>∃ a kvs,∃ ss:List Str,xs=[.ref a]/\H a=some (.dK kvs)/\kvs.map (·.1)=ss.map Sum.inr/\kvs.length < 64/\∀ (p:Addr) (ss':List Str),ss'.Perm ss->sortedS ss'=true->H p=none->Q (.ref p) (upd H p (.lst (ss'.map V.str)))
def rSortDI:List V->Hp->VK->Prop:=fun xs H Q=>∃ a kvs,∃ ns:List Int,xs=[.ref a]/\H a=some (.dK kvs)/\kvs.map (·.1)=ns.map Sum.inl/\kvs.length < 64/\∀ (p:Addr) (ns':List Int),ns'.Perm ns->ns'.Pairwise (· <= ·)->H p=none->Q (.ref p) (upd H p (.lst (ns'.map V.int)))
end
theorem uG {X:Cx}{iy:Nat}{y:Str}{py spos:Pos}{elt tg iter:Expr}{ifs:List Expr}{scope:Scope}{pos:Pos}{N':List Str}{cl:List (Str × Addr)}{wi:TI}{g:TG}{tt:TT}{te:TE}(σf:St->St)
  (hc:X.calm=true) (hkind:scope.kind = .function) (hcell : ∀ y ∈ scope.names,y.2 ≠ .cell) (hnames : ∀ y ∈ scope.names,y.2 = .local->scope.names.lookup y.1=some .local) (hcl:ClOk X scope cl)
  (hN : ∀ σ:St,σ.length=X.N.length->BlkN X N' scope cl σ (σf σ)) (hi:PI X tg iter wi)
  (hg : ∀ C s₀ H₀ ex pn,PG (blk X N' scope cl C s₀ H₀ ex pn) tg g) (ht : ∀ C s₀ H₀ ex pn,PIfs (blk X N' scope cl C s₀ H₀ ex pn) ifs tt) (he : ∀ C s₀ H₀ ex pn,PE (blk X N' scope cl C s₀ H₀ ex pn) elt te)
  (hnd:X.N.Nodup) (hiy:X.N[iy]?=some y) (hy:Loc X.env.scope y) (hfy:X.fn y=true\/X.env.scope.names.lookup y=some .local)
  (hsw:swapsWith (.ListComp elt [⟨tg,iter,ifs,0⟩] scope pos) (some (.Name y py)) spos.line X.env=pure true)
  (hs : ∀ x,foldedSetIterable iter X.env x=pure x:=by intro _; rfl):PS X (.Assign [.Name y py] (.ListComp elt [⟨tg,iter,ifs,0⟩] scope pos) spos) (tAsg (wW σf wi g tt te) (dA iy)):=by
 intro pins s σ H Dn I h
 rw [exec_Assign_Name_used _ _ _ _ hsw]
 refine wpAny_bind (wpAny_standAt (wpAny_bind ?_))
 show wpAny _ X.A (do let _ <- comprehension (.ListComp elt [⟨tg,iter,ifs,0⟩] scope pos) scope X.env _ (newList []) false (eval iter X.env) (some (assign (.Name y py) X.env))) _ _ s
 refine wpAny_bind (wpAny_mono (wpAny_comprehension_free (use:=some (assign (.Name y py) X.env)) (Q:=fun _ s'=>SP X pins Dn .next s') rfl hs hcl.run hkind hnames
  (thn (hi pins s σ H _ I h) fun v s1 h1=>thn h1 fun itv s2 h2 => ?_)) (fun _ s' hq=>wpAny_pure (wpAny_pure hq)) fun _ _ e=>e)
 obtain ⟨it,fp,tn,J,H2,rfl,I2,T,st2,f2,q⟩:=h2
 refine wpAny_newObj_type (wpAny_newFunctionEnv hcell (by intro y hy; simp at hy) (fun h₁ hns₁ hsb₁ => ?_) hkind)
 dsimp only at hns₁ hsb₁ ⊢
 have hfo : ∀ b ∈ fp,b < s2.heap.objs.size:=fun b hb=>by
  obtain ⟨o,e,_⟩:=T.obj _ _ st2 b hb
  exact Heap.lt_size e
 have hDf:H2 s2.heap.objs.size=none:=I2.hok.fresh (Nat.le_refl _)
 obtain ⟨W,⟨m0,w0⟩,turn⟩:=q s2.heap.objs.size hDf
 have I3:Inv X pins σ (upd H2 s2.heap.objs.size (.lst [])) { s2 with heap:=s2.heap.push { cls:=.type "list",data:=.seq ([]:List Value).toArray } }:=I2.lnew (its:=[]) (t':=s2.toks) .nil (Nat.zero_le _)
 have f3 : ∀ b ∈ fp,FpOk X pins (upd H2 s2.heap.objs.size (.lst [])) b:=fun b hb=>⟨by rw [aL (Nat.ne_of_lt (hfo b hb))]; exact (f2 b hb).1,(f2 b hb).2⟩
 generalize hD:s2.heap.objs.size=D at *
 generalize hs3:({ s2 with heap:=s2.heap.push { cls:=.type "list",data:=.seq ([]:List Value).toArray } }:Shared)=s3 at *
 have hh3:s3.heap=s2.heap.push { cls:=.type "list",data:=.seq ([]:List Value).toArray }:=by rw [<- hs3]
 have hsz3:s2.heap.objs.size < s3.heap.objs.size:=by rw [hh3,Heap.size_push]; exact Nat.lt_succ_self _
 have e3 : ∀ h t,({ s2 with heap:=h,toks:=t }:Shared)={ s3 with heap:=h,toks:=t }:=fun h t=>by rw [<- hs3]
 rw [<- hh3] at hns₁ hsb₁ ⊢
 have hk3 : ∀ b o,s3.heap.get? b=some o->h₁.get? b=some o:=fun b o e=>hsb₁.extBut b o (Nat.ne_of_lt (Heap.lt_size e)) (Heap.get?_push_of_some _ e)
 have I4:=oB (t':=s3.toks) I3 hkind hcl (hN σ I.len) f3 (fun b hb=>Nat.lt_trans (hfo b hb) (hD ▸ hsz3)) (hns:=by simpa using hns₁) hk3
 generalize hB:blk X N' scope cl s3.heap.objs.size s3 (upd H2 D (.lst [])) fp (X.pn ++ pins)=B at *
 have hBp:B.prog=X.prog:=by rw [<- hB]; rfl
 have hBw:B.w=X.w:=by rw [<- hB]; rfl
 have hBK:B.K=X.K:=by rw [<- hB]; rfl
 have hBA:B.A=X.A:=by rw [<- hB]; rfl
 have hBc:B.calm=true:=by rw [<- hB]; exact hc
 have hBe:B.env=compEnvC scope cl s3.heap.objs.size X.env:=by rw [<- hB]; rfl
 have hBx:B.xe=fun _ _=>False:=by rw [<- hB]; rfl
 have hGB:PG B tg g:=hB ▸ hg _ _ _ _ _
 have hTB:PIfs B ifs tt:=hB ▸ ht _ _ _ _ _
 have hEB:PE B elt te:=hB ▸ he _ _ _ _ _
 have stat : ∀ {H':Hp},(∀ b ∈ fp,H' b=none)->∀ b ∈ fp,FpOk B [] H' b:=fun {H'} hn b hb=>by
  obtain ⟨f0,f1,f2',f3',f4,f5⟩:=f3 b hb
  rw [<- hB]
  refine ⟨hn b hb,Nat.ne_of_lt (Nat.lt_trans (hfo b hb) (hD ▸ hsz3)),fun z => ?_,.inl hb,fun x c e=>f4 x c (hcl.sub x c e),fun p hp => ?_⟩
  ·rcases List.mem_cons.mp (I.stkSub b z) with z | z
   ·exact f1 z
   ·exact f2' z
  ·rw [show (blk X N' scope cl s3.heap.objs.size s3 (upd H2 D (.lst [])) fp (X.pn ++ pins)).pn=X.pn ++ pins from rfl,List.append_nil] at hp
   exact f5 p hp
 have loop : ∀ s4:Shared,Inv B [] (σf σ) (upd H2 D (.lst [])) s4->tn 0 s4.heap ->
   codeAny (model X.prog X.w) X.A (.compLoop (.ListComp elt [⟨tg,iter,ifs,0⟩] scope pos) 0 (.ref it) (.ref D) (compEnvC scope cl s3.heap.objs.size X.env)) (compPost (model X.prog X.w) X.A X.xe (some (assign (.Name y py) X.env)) (fun _ s'=>SP X pins Dn .next s') (.ref D) s3.heap.objs.size) s4:=by
  intro s4 I4 st4
  refine iX (I:=fun n s'=>∃ i ys H',Inv B [] (σf σ) H' s'/\tn i s'.heap/\(∀ b ∈ fp,H' b=none)/\W i n ys H') ?_ m0 ⟨0,[],_,I4,st4,fun b hb=>(f3 b hb).1,w0⟩
  rintro n s5 ⟨i,ys,H5,I5,st5,fr5,w5⟩
  obtain ⟨hD5,hlen5,alt⟩:=turn i n ys H5 w5
  rcases alt with ⟨stop,qn⟩ | ⟨go,step⟩
  ·have z:=T.done B hBp hBw hBK hBc i [] s5 (σf σ) H5 (fun _ _=>False) I5 (stat fr5) st5 stop
   rw [hBA] at z
   refine thn z fun r s6 ⟨hr,I6⟩ => ?_
   subst hr
   obtain ⟨m6,hn6,_⟩:=I6.loc
   rw [hBe] at hn6
   subst hB
   have I6x:Inv X pins σ H5 s6:=wM I3 f3 I6 (h'':=s6.heap) ⟨rfl,fun _ _=>rfl⟩
   have fC:FpOk X pins H5 s3.heap.objs.size:=I3.fpOk (Nat.le_refl _) I6.free
   obtain ⟨g0,g1,g2,g3,g4,g5⟩:=id fC
   obtain ⟨oC,es,ep,hoC,hdC,rest⟩:=hn6
   have I6p:=I6x.pinned (fp:=[s3.heap.objs.size]) (fun b hb=>by rw [List.mem_singleton.mp hb]; exact fC) (fun b hb=>⟨oC,by rw [List.mem_singleton.mp hb]; exact hoC,fun v e=>by rw [hdC] at e; cases e⟩)
   show wpAny (model X.prog X.w) X.A (assign (.Name y py) X.env (.ref D)) _ X.xe s6
   refine thn (aJ (i:=iy) (pos:=py) hnd hiy hy hfy _ s6 σ H5 (.ref D) (.ref D) (fun σ' H'=>Dn.nx σ' H') I6p rfl qn) fun _ s7 ⟨σ7,H7,I7,q7⟩ => ?_
   have pc:=I7.pin (s3.heap.objs.size,oC) (List.mem_append_right _ (List.mem_append_right _ (dY (by simp) hoC)))
   refine ⟨m6,⟨oC,es,ep,pc.1,hdC,rest⟩,fun h' hs'=>⟨σ7,H7,?_,q7⟩⟩
   exact I7.unpinned.turned (t':=s7.toks) (fun b o hb e=>hs'.extBut b o hb e) pc.2.1 g1 g3 g4 g5
  ·have z:=T.item B hBp hBw hBK hBc i [] s5 (σf σ) H5 (fun _ _=>False) I5 (stat fr5) st5 go
   rw [hBA] at z
   refine thn z fun r s6 ⟨u,hr,h6⟩ => ?_
   subst hr
   refine thn h6 fun _ s7 ⟨x,H7,I7,r7,y7,st7,fr7⟩ => ?_
   have I7':=I7.pinned (stat fr7) (T.obj _ _ st7)
   have z8:=hGB _ s7 (σf σ) H7 x u _ I7' r7 (step x H7 y7)
   rw [hBp,hBw,hBA,hBe,hBx] at z8
   refine thn z8 fun _ s8 ⟨σ8,H8,I8,k8,q8⟩ => ?_
   have z9:=hTB _ s8 σ8 H8 _ I8 q8
   rw [hBp,hBw,hBA,hBe,hBx] at z9
   refine thn z9 fun ok s9 ⟨H9,I9,q9⟩ => ?_
   have again : ∀ {ys':List V} {H':Hp} {s':Shared},Inv B ([] ++ kQ fp s7.heap) σ8 H' s'->(∃ m',m' < n/\W (i+1) m' ys' H')->∃ m,m < n/\∃ i ys H',Inv B [] (σf σ) H' s'/\tn i s'.heap/\(∀ b ∈ fp,H' b=none)/\W i m ys H':=fun {ys' H' s'} J ⟨m',hm,w'⟩=>by
    refine ⟨m',hm,i+1,ys',H',J.unpinned.weak k8.len.symm k8.at',T.keep _ _ _ st7 fun b hb o e=>(J.pin (b,o) (List.mem_append_right _ (List.mem_append_right _ (dY hb e)))).1,fun b hb => ?_,w'⟩
    obtain ⟨o,e,d⟩:=T.obj _ _ st7 b hb
    exact (J.pin (b,o) (List.mem_append_right _ (List.mem_append_right _ (dY hb e)))).2.1
   cases ok with
   | false=>exact again I9 q9
   | true =>
    have z10:=hEB _ s9 σ8 H9 _ I9 q9
    rw [hBp,hBw,hBA,hBe,hBx] at z10
    refine thn z10 fun y10 s10 ⟨y,H10,I10,r10,hD10,q10⟩ => ?_
    have z11:=bY (X:=B) _ s10 σ8 H10 (.ref D) [y] (.ref D) [y10] (fun _ H'=>∃ m',m' < n/\W (i+1) m' (ys ++ [y]) H') I10 rfl (.cons r10 .nil) ⟨D,ys,y,rfl,rfl,hD10,hlen5,q10⟩
    rw [hBp,hBw,hBA,hBx] at z11
    refine thn z11 fun _ s11 ⟨_,H11,I11,_,q11⟩=>again I11 q11
 have st4:tn 0 ({ s3 with heap:=h₁,toks:=s3.toks }:Shared).heap:=T.keep _ _ _ st2 fun b hb o e=>hk3 b o (by rw [hh3]; exact Heap.get?_push_of_some _ e)
 have L4:=loop _ I4 st4
 subst hs3
 exact codeAny_compStart_list L4 (T.self _ 0 _ _ _ st4 L4)
theorem qF {X:Cx}{iy:Nat}{y:Str}{py spos:Pos}{elt tg iter:Expr}{ifs:List Expr}{scope:Scope}{pos:Pos}{N':List Str}{wi:TI}{g:TG}{tt:TT}{te:TE}(σf:St->St)
  (hc:X.calm=true) (hkind:scope.kind = .function) (hcell : ∀ y ∈ scope.names,y.2 ≠ .cell) (hnames : ∀ y ∈ scope.names,y.2 = .local->scope.names.lookup y.1=some .local)
  (hk : ∀ y ∈ scope.names,y.2=NameKind.free->X.env.kindOf y.1=some .cell\/X.env.kindOf y.1=some .free)
  (hN : ∀ cl (σ:St),σ.length=X.N.length->BlkN X N' scope cl σ (σf σ)) (hi:PI X tg iter wi)
  (hg : ∀ cl C s₀ H₀ ex pn,PG (blk X N' scope cl C s₀ H₀ ex pn) tg g) (ht : ∀ cl C s₀ H₀ ex pn,PIfs (blk X N' scope cl C s₀ H₀ ex pn) ifs tt) (he : ∀ cl C s₀ H₀ ex pn,PE (blk X N' scope cl C s₀ H₀ ex pn) elt te)
  (hnd:X.N.Nodup) (hiy:X.N[iy]?=some y) (hy:Loc X.env.scope y) (hfy:X.fn y=true\/X.env.scope.names.lookup y=some .local)
  (hsw:swapsWith (.ListComp elt [⟨tg,iter,ifs,0⟩] scope pos) (some (.Name y py)) spos.line X.env=pure true)
  (hs : ∀ x,foldedSetIterable iter X.env x=pure x:=by intro _; rfl):PS X (.Assign [.Name y py] (.ListComp elt [⟨tg,iter,ifs,0⟩] scope pos) spos) (tAsg (wW σf wi g tt te) (dA iy)):=by
 intro pins s σ H D I h
 obtain ⟨cl,hcl⟩:=wH I.ok hcell hk
 exact uG σf hc hkind hcell hnames hcl (hN cl) hi (hg cl) (ht cl) (he cl) hnd hiy hy hfy hsw hs pins s σ H D I h
structure Ys (J:It)(xs:List V)(H1:Hp):Prop where
 go : ∀ i H,Same H1 H->i < xs.length->J.go i H
 yld : ∀ i H x H',Same H1 H->i < xs.length->J.yld i H x H'->H'=H/\xs[i]?=some x
 stop : ∀ i H,Same H1 H->xs.length<=i->J.stop i H
theorem Ys.list {K:PySem.W.Frag}{a:Addr}{xs:List V}{H1:Hp}(h:SqL K H1 a xs):Ys (Itl K a) xs H1 where
 go:=fun i H s hi=>⟨xs,xs[i],s.seq h,List.getElem?_eq_getElem hi⟩
 yld:=fun i H x H' s _ y=>⟨y.1,y.2 xs (s.seq h)⟩
 stop:=fun i H s hi=>⟨xs,s.seq h,hi⟩
theorem Ys.tup {K:PySem.W.Frag}{a:Addr}{xs:List V}{H1:Hp}(h:SqT K H1 a xs):Ys (Itt K a) xs H1 where
 go:=fun i H s hi=>⟨xs,xs[i],s.tup h,List.getElem?_eq_getElem hi⟩
 yld:=fun i H x H' s _ y=>⟨y.1,y.2 xs (s.tup h)⟩
 stop:=fun i H s hi=>⟨xs,s.tup h,hi⟩
def rngV (lo:Int)(n:Nat):List V:=(List.range n).map fun (i:Nat)=>V.int (lo+(i:Int))
theorem gL (lo:Int)(n:Nat):(rngV lo n).length=n:=by unfold rngV; rw [List.length_map,List.length_range]
theorem xE {lo:Int}{n i:Nat}{x:V}(h:(rngV lo n)[i]?=some x):i < n/\x = .int (lo+i):=by
 have hi:i < n:=by rw [<- gL lo n]; exact (List.getElem?_eq_some_iff.mp h).1
 unfold rngV at h
 rw [List.getElem?_map,List.getElem?_range hi] at h
 exact ⟨hi,(Option.some.inj h).symm⟩
theorem Ys.rng {lo:Int}{n:Nat}{H1:Hp}:Ys (Itr lo n) (rngV lo n) H1 where
 go:=fun i H _ hi=>by rw [gL] at hi; exact hi
 yld:=fun i H x H' _ hi y=>⟨y.1,by
  obtain ⟨_,rfl⟩:=y
  rw [gL] at hi
  unfold rngV
  rw [List.getElem?_map,List.getElem?_range hi]
  rfl⟩
 stop:=fun i H _ hi=>by rw [gL] at hi; exact hi
theorem eB {α:Type}{ys:List α}{y z:α}{j:Nat}(h:(ys ++ [y])[j]?=some z):(j < ys.length/\ys[j]?=some z)\/(j=ys.length/\z=y):=by
 by_cases hj:j < ys.length
 ·rw [List.getElem?_append_left hj] at h
  exact .inl ⟨hj,h⟩
 ·rw [List.getElem?_append_right (by omega)] at h
  have e0:j - ys.length=0:=by
   cases hz:j - ys.length with
   | zero=>rfl
   | succ n=>rw [hz] at h; simp at h
  rw [e0] at h
  exact .inr ⟨by omega,by simpa using h.symm⟩
theorem dP {J:It}{xs:List V}{D:Addr}{g:TG}{te:TE}{σ0:St}{QD:Hp->Prop}{H1:Hp}(Y:Ys J xs H1)(Pr:Nat->V->V->Hp->Prop)(hP : ∀ i x y H H',Pr i x y H->Tk H H'->Pr i x y H')(hD:H1 D=none)(hl:xs.length<=1000)
  (hs : ∀ i x H' (R:VK),xs[i]?=some x->Same H1 H'->(∀ y H4,Same H' H4->Pr i x y H4->R y H4)->g x σ0 H' fun σ2 H2=>Keep σ0 σ2/\te σ2 H2 R)
  (hd : ∀ ys H',Same H1 H'->H' D=some (.lst ys)->ys.length=xs.length->(∀ i x y,xs[i]?=some x->ys[i]?=some y->Pr i x y H')->QD H') :
  ∃ W:Nat->Nat->List V->Hp->Prop,(∃ m,W 0 m [] (upd H1 D (.lst [])))/\∀ i m ys H,W i m ys H->H D=some (.lst ys)/\ys.length < sizeLine /\
   ((J.stop i H/\QD H)\/(J.go i H/\∀ x H',J.yld i H x H'->g x σ0 H' fun σ2 H2=>Keep σ0 σ2/\aA8 σ2 H2 fun b H3 =>
    if b=true then te σ2 H3 fun y H4=>H4 D=some (.lst ys)/\∃ m',m' < m/\W (i+1) m' (ys ++ [y]) (upd H4 D (.lst (ys ++ [y]))) else ∃ m',m' < m/\W (i+1) m' ys H3)):=by
 refine ⟨fun i m ys H=>m=xs.length - i/\i<=xs.length/\Same H1 H/\H D=some (.lst ys)/\ys.length=i/\∀ j x y,xs[j]?=some x->ys[j]?=some y->Pr j x y H,
  ⟨_,rfl,Nat.zero_le _,Same.upd hD,aB,rfl,fun j x y _ h=>by simp at h⟩,?_⟩
 rintro i m ys H ⟨rfl,hi,sm,hDH,yl,pr⟩
 refine ⟨hDH,aX (by omega),?_⟩
 by_cases hlt:i < xs.length
 ·refine .inr ⟨Y.go i H sm hlt,fun x H' y => ?_⟩
  obtain ⟨rfl,hx⟩:=Y.yld i H x H' sm hlt y
  refine hs i x H' _ hx sm fun y H4 s4 py => ?_
  have hD4:=s4 _ _ hDH
  have tk:Tk H4 (upd H4 D (.lst (ys ++ [y]))):=Tk.lst hD4
  refine ⟨hD4,xs.length - (i+1),by omega,rfl,hlt,fun b o hb => ?_,aB,by rw [List.length_append,yl]; rfl,fun j x' y' hx' hy' => ?_⟩
  ·rw [aL (cH hb hD)]
   exact s4 _ _ (sm _ _ hb)
  ·rcases eB hy' with ⟨_,hy'⟩ | ⟨e,e'⟩
   ·exact hP _ _ _ _ _ (hP _ _ _ _ _ (pr j x' y' hx' hy') (Same.tk s4)) tk
   ·subst e'
    have:j=i:=by omega
    subst this
    rw [hx] at hx'
    cases hx'
    exact hP _ _ _ _ _ py tk
 ·have e:i=xs.length:=by omega
  subst e
  exact .inl ⟨Y.stop _ H sm (Nat.le_refl _),hd ys H sm hDH yl pr⟩
theorem kG {J:It}{xs:List V}{D:Addr}{g:TG}{tt:TT}{te:TE}{σ0:St}{QD:Hp->Prop}{H1:Hp}(Y:Ys J xs H1)(p:V->Bool)(Pr:V->V->Hp->Prop)(hP : ∀ x y H H',Pr x y H->Tk H H'->Pr x y H')(hD:H1 D=none)(hl:xs.length<=1000)
  (hs : ∀ (i:Nat) x H' (R1:VK) (R2:Hp->Prop),xs[i]?=some x->Same H1 H'->(p x=true->∀ y H4,Same H' H4->Pr x y H4->R1 y H4)->(p x=false->∀ H4,Same H' H4->R2 H4)->g x σ0 H' fun σ2 H2=>Keep σ0 σ2/\tt σ2 H2 fun b H3=>if b=true then te σ2 H3 R1 else R2 H3)
  (hd : ∀ ys H',Same H1 H'->H' D=some (.lst ys)->ys.length=(xs.filter p).length->(∀ (i:Nat) x y,(xs.filter p)[i]?=some x->ys[i]?=some y->Pr x y H')->QD H') :
  ∃ W:Nat->Nat->List V->Hp->Prop,(∃ m,W 0 m [] (upd H1 D (.lst [])))/\∀ i m ys H,W i m ys H->H D=some (.lst ys)/\ys.length < sizeLine /\
   ((J.stop i H/\QD H)\/(J.go i H/\∀ x H',J.yld i H x H'->g x σ0 H' fun σ2 H2=>Keep σ0 σ2/\tt σ2 H2 fun b H3 =>
    if b=true then te σ2 H3 fun y H4=>H4 D=some (.lst ys)/\∃ m',m' < m/\W (i+1) m' (ys ++ [y]) (upd H4 D (.lst (ys ++ [y]))) else ∃ m',m' < m/\W (i+1) m' ys H3)):=by
 refine ⟨fun i m ys H=>m=xs.length - i/\i<=xs.length/\Same H1 H/\H D=some (.lst ys)/\ys.length=((xs.take i).filter p).length/\∀ (j:Nat) x y,((xs.take i).filter p)[j]?=some x->ys[j]?=some y->Pr x y H,
  ⟨_,rfl,Nat.zero_le _,Same.upd hD,aB,rfl,fun j x y _ h=>by simp at h⟩,?_⟩
 rintro i m ys H ⟨rfl,hi,sm,hDH,yl,pr⟩
 have yl':ys.length<=xs.length:=by
  rw [yl]
  exact Nat.le_trans (List.length_filter_le _ _) (by rw [List.length_take]; omega)
 refine ⟨hDH,aX (by omega),?_⟩
 by_cases hlt:i < xs.length
 ·refine .inr ⟨Y.go i H sm hlt,fun x H' y => ?_⟩
  obtain ⟨rfl,hx⟩:=Y.yld i H x H' sm hlt y
  have et:xs.take (i+1)=xs.take i ++ [x]:=by rw [List.take_add_one,hx]; rfl
  refine hs i x H' _ _ hx sm (fun px y H4 s4 py => ?_) (fun px H4 s4 => ?_)
  ·have hD4:=s4 _ _ hDH
   have tk:Tk H4 (upd H4 D (.lst (ys ++ [y]))):=Tk.lst hD4
   refine ⟨hD4,xs.length - (i+1),by omega,rfl,hlt,fun b o hb => ?_,aB,?_,fun j x' y' hx' hy' => ?_⟩
   ·rw [aL (cH hb hD)]
    exact s4 _ _ (sm _ _ hb)
   ·rw [et,List.filter_append,List.length_append,List.length_append,yl,List.filter_cons_of_pos px]
    rfl
   ·rw [et,List.filter_append,List.filter_cons_of_pos px] at hx'
    rcases eB hx' with ⟨h1,hx'⟩ | ⟨h1,hx'⟩
    ·rcases eB hy' with ⟨_,hy'⟩ | ⟨e,_⟩
     ·exact hP _ _ _ _ (hP _ _ _ _ (pr j x' y' hx' hy') (Same.tk s4)) tk
     ·omega
    ·rcases eB hy' with ⟨h2,_⟩ | ⟨_,hy'⟩
     ·omega
     ·subst hx' hy'
      exact hP _ _ _ _ py tk
  ·refine ⟨xs.length - (i+1),by omega,rfl,hlt,sm.trans s4,s4 _ _ hDH,?_,fun j x' y' hx' hy' => ?_⟩
   ·rw [et,List.filter_append,List.filter_cons_of_neg (by rw [px]; exact Bool.false_ne_true),List.filter_nil,List.append_nil,yl]
   ·rw [et,List.filter_append,List.filter_cons_of_neg (by rw [px]; exact Bool.false_ne_true),List.filter_nil,List.append_nil] at hx'
    exact hP _ _ _ _ (pr j x' y' hx' hy') (Same.tk s4)
 ·have e:i=xs.length:=by omega
  subst e
  rw [List.take_length] at yl pr
  exact .inl ⟨Y.stop _ H sm (Nat.le_refl _),hd ys H sm hDH yl pr⟩
section
variable {prog:Program}{w:World}{A:Around}{E:Value->Shared->Prop}{s:Shared}
theorem aA4 {it t:Addr}{i:Nat}{its:Array Value}{x:Value}{Q:Value->Shared->Prop}(st:s.heap.IsTupleIter it t i)(hl:s.heap.IsTuple t its)(hx:its[i]?=some x)
  (q : ∀ g,g.IsTupleIter it t (i+1)->Heap.SameBut it s.heap g->Q x { s with heap:=g }):wpAny (model prog w) A (Builtin.SmallTypes.nextOf (.ref it)) Q E s:=by
 obtain ⟨ob,e1,e2,e3⟩:=id st
 obtain ⟨ot,e4,_,m,e5⟩:=hl
 unfold Builtin.SmallTypes.nextOf
 refine wpAny_bind (wpAny_callSpecial?_slot (name:=Str.ofString "__next__") st.typeIs F.slot_tuple_iterator_next (wpAny_call_entry F.slot_tuple_iterator_next st.typeIs F.entry_tuple_iterator_next ?_ (F.args_tuple_iterator_next_1 _)))
 refine wpAny_bind (m:=field (.ref it) 0) (wpAny_field e1 e3 (x:=.ref t) rfl ?_)
 show wpAny _ _ (if (Value.ref t == Value.none)=true then _ else (field (.ref it) 1 >>= _)) _ _ s
 rw [if_neg (show ¬ (Value.ref t == Value.none)=true from (fun z=>nomatch z))]
 refine wpAny_bind (wpAny_field e1 e3 (x:=.int i 0) rfl (wpAny_bind (m:=seqItems? (.ref t)) (wpAny_seqItems e4 e5 ?_)))
 simp only [Int.toNat_natCast,hx]
 refine wpAny_bind (wpAny_setField e1 e3 (by simp) (wpAny_pure ⟨x,rfl,wpAny_pure (q _ ⟨_,Heap.get?_update_self _ e1 (Obj.isFreed_of_fields (Obj.data_mapFields e3 _)),(Obj.cls_mapFields ..).trans e2,?_⟩ (Heap.SameBut.update ..))⟩))
 rw [Obj.data_mapFields e3]
 simp [rawInt]
theorem aA3 {it t:Addr}{i:Nat}{its:Array Value}{Q:Value->Shared->Prop}(hh:A.handled=none)(st:s.heap.IsTupleIter it t i)(hl:s.heap.IsTuple t its)(hx:its[i]?=none)
  (q : ∀ g e,Heap.ExtBut it s.heap g->(∃ o,g.get? e=some o/\o.cls = .type "StopIteration")->E (.ref e) { s with heap:=g }):wpAny (model prog w) A (Builtin.SmallTypes.nextOf (.ref it)) Q E s:=by
 obtain ⟨ob,e1,e2,e3⟩:=id st
 obtain ⟨ot,e4,_,m,e5⟩:=hl
 unfold Builtin.SmallTypes.nextOf
 refine wpAny_bind (wpAny_callSpecial?_slot (name:=Str.ofString "__next__") st.typeIs F.slot_tuple_iterator_next (wpAny_call_entry F.slot_tuple_iterator_next st.typeIs F.entry_tuple_iterator_next ?_ (F.args_tuple_iterator_next_1 _)))
 refine wpAny_bind (m:=field (.ref it) 0) (wpAny_field e1 e3 (x:=.ref t) rfl ?_)
 show wpAny _ _ (if (Value.ref t == Value.none)=true then _ else (field (.ref it) 1 >>= _)) _ _ s
 rw [if_neg (show ¬ (Value.ref t == Value.none)=true from (fun z=>nomatch z))]
 refine wpAny_bind (wpAny_field e1 e3 (x:=.int i 0) rfl (wpAny_bind (m:=seqItems? (.ref t)) (wpAny_seqItems e4 e5 ?_)))
 simp only [Int.toNat_natCast,hx]
 refine wpAny_bind (wpAny_rule (wpAny_bind (wpAny_setField e1 e3 (by simp) (wpAny_bind (m:=newExc (.type "StopIteration") []) ?_))))
 simp only [newExc,newTuple]
 refine wpAny_bind (wpAny_newObj_type (wpAny_bind (m:=firstArgMember _ _) (wpAny_of_eq (a:=Value.none) (by first | rfl | (simp only [firstArgMember]; rfl)) (wpAny_newObj_type ?_ (by size_fits)))) (by size_fits))
 simp only [raiseNew]
 refine wpAny_bind (wpAny_handled ?_)
 first | rw [show A.in1.handled=none from hh] | rw [hh]
 exact wpAny_bind (wpAny_pure (wpAny_throw (q _ _ (((Heap.SameBut.update ..).extBut.push _).push _) ⟨_,Heap.get?_push_size _ rfl,rfl⟩)))
theorem jI (hh:A.handled=none)(it t:Addr)(hne:t ≠ it)(its:Array Value) :
  Draws prog w A it [it,t] its.size (fun i v=>its[i]?=some v) (fun i h=>h.IsTupleIter it t i/\h.IsTuple t its) where
 live:=fun _ _ z=>let ⟨o,e,_⟩:=z.1; ⟨o,e⟩
 frame:=fun _ _ _ z k=>⟨z.1.at fun o e=>k it (by simp) o e,z.2.at fun o e=>k t (by simp) o e⟩
 item:=fun i s Q E hi z k=>aA4 z.1 z.2 (x:=its[i]) (by simp [hi]) fun g z' sb=>k _ g s.toks (by simp [hi]) ⟨z',z.2.extBut sb.extBut hne⟩ sb
 done:=fun s Q E z k=>aA3 hh z.1 z.2 (by simp) k
structure Ap (z TI TO i1 i2:Addr)(f1 f2:List Addr):Prop where
 a1 : ∀ b ∈ f1,b ≠ z/\b ≠ TO/\b ≠ i2
 a2 : ∀ b ∈ f2,b ≠ z/\b ≠ TO/\b ≠ i1
 m1:i1 ∈ f1
 m2:i2 ∈ f2
 tz:TI ≠ z
 tO:TI ≠ TO
 t1:TI ≠ i1
 t2:TI ≠ i2
 oz:TO ≠ z
section
variable {z TI TO i1 i2:Addr}{f1 f2:List Addr}{n1 n2 k:Nat}{P1 P2:Nat->Value->Prop}{S1 S2:Nat->Heap->Prop}{a b:Value}
theorem aAx {Q:Value->Shared->Prop}(D1:Draws prog w A i1 f1 n1 P1 S1)(D2:Draws prog w A i2 f2 n2 P2 S2)(ap:Ap z TI TO i1 i2 f1 f2)(hz:IsZip s.heap z TI TO .none)(hI:IsPair s.heap TI (.ref i1) (.ref i2))(hO:IsPair s.heap TO a b)
  (h1:S1 k s.heap) (h2:S2 k s.heap) (l1:k < n1) (l2:k < n2)
  (q : ∀ x y T g t',P1 k x->P2 k y->T=s.heap.objs.size->IsZip g z TI TO (rawInt T)->IsPair g TO x y->S1 (k+1) g->S2 (k+1) g->IsPair g T x y->(∀ c o,c ≠ z->c ≠ TO->c ≠ i1->c ≠ i2->s.heap.get? c=some o->g.get? c=some o)->Q (.ref T) { s with heap:=g,toks:=t' }) :
  wpAny (model prog w) A (Builtin.«zip.__next__» ⟨[.ref z],[]⟩) (fun fin s'=>∃ v,fin = .done (.ret v)/\Q v s') E s:=by
 have z1:=ap.a1 i1 ap.m1
 have z2:=ap.a2 i2 ap.m2
 refine wpAny_bind (m:=field (.ref z) 2) (wpAny_field hz rfl (x:=.bool false) rfl (wpAny_bind (m:=field (.ref z) 3) (wpAny_field hz rfl (x:=.ref TI) rfl (wpAny_bind (wpAny_seqItems hI rfl (wpAny_bind (m:=Builtin.SmallTypes.ownedTupleIsFree (.ref z)) ?_))))))
 unfold Builtin.SmallTypes.ownedTupleIsFree
 refine wpAny_bind (wpAny_field hz rfl (x:=.none) rfl (wpAny_pure ?_))
 simp only [if_true]
 refine wpAny_bind (wpAny_rule (wpAny_bind (wpAny_field hz rfl (x:=.ref TO) rfl (wpAny_bind (wpAny_setField_rec hz (by simp) fun ga ca sa=>wpAny_bind ?_)))))
 replace ca:IsZip ga z TI TO .ellipsis:=ca
 have ka : ∀ c o,c ≠ z->s.heap.get? c=some o->ga.get? c=some o:=fun c o n e=>sa.extBut _ _ n e
 simp only [List.zipIdx_cons,List.zipIdx_nil,List.forIn_cons,List.forIn_nil]
 refine wpAny_bind (wpAny_bind (wpAny_onRaise (wpAny_bind (m:=Builtin.SmallTypes.nextOf (.ref i1)) (D1.item k _ _ _ l1 (D1.frame _ _ _ h1 fun c hc o e=>ka c o (ap.a1 c hc).1 e) fun x gb tb px sb cb=>wpAny_pure ?_))))
 have kb : ∀ c o,c ≠ z->c ≠ i1->s.heap.get? c=some o->gb.get? c=some o:=fun c o n n' e=>cb.extBut _ _ n' (ka c o n e)
 have hOb:IsPair gb TO a b:=kb _ _ ap.oz (fun e=>z1.2.1 e.symm) hO
 refine wpAny_bind (wpAny_seqItems hOb rfl (wpAny_bind (wpAny_updateSeq_pair hOb fun gc hOc cc=>wpAny_bind (wpAny_letGo (wpAny_pure ?_)))))
 replace hOc:IsPair gc TO x b:=hOc
 have kc : ∀ c o,c ≠ z->c ≠ i1->c ≠ TO->s.heap.get? c=some o->gc.get? c=some o:=fun c o n n' n2 e=>cc.extBut _ _ n2 (kb c o n n' e)
 have sc1:S1 (k+1) gc:=D1.frame _ _ _ sb fun c hc o e=>cc.extBut _ _ (ap.a1 c hc).2.1 e
 refine wpAny_bind (wpAny_bind (wpAny_onRaise (wpAny_bind (m:=Builtin.SmallTypes.nextOf (.ref i2)) (D2.item k _ _ _ l2 (D2.frame _ _ _ h2 fun c hc o e=>kc c o (ap.a2 c hc).1 (ap.a2 c hc).2.2 (ap.a2 c hc).2.1 e) fun y gd td py sd cd=>wpAny_pure ?_))))
 have hOd:IsPair gd TO x b:=cd.extBut _ _ (fun e=>z2.2.1 e.symm) hOc
 refine wpAny_bind (wpAny_seqItems hOd rfl (wpAny_bind (wpAny_updateSeq_pair hOd fun ge hOe ce=>wpAny_bind (wpAny_letGo (wpAny_pure (wpAny_pure ?_))))))
 replace hOe:IsPair ge TO x y:=hOe
 have ke : ∀ c o,c ≠ z->c ≠ TO->c ≠ i1->c ≠ i2->s.heap.get? c=some o->ge.get? c=some o:=fun c o n n1 n2 n3 e=>ce.extBut _ _ n1 (cd.extBut _ _ n3 (kc c o n n2 n1 e))
 have hze:IsZip ge z TI TO .ellipsis:=ce.extBut _ _ (Ne.symm ap.oz) (cd.extBut _ _ (Ne.symm z2.1) (cc.extBut _ _ (Ne.symm ap.oz) (cb.extBut _ _ (Ne.symm z1.1) ca)))
 have se1:S1 (k+1) ge:=D1.frame _ _ _ sc1 fun c hc o e=>ce.extBut _ _ (ap.a1 c hc).2.1 (cd.extBut _ _ (ap.a1 c hc).2.2 e)
 have se2:S2 (k+1) ge:=D2.frame _ _ _ sd fun c hc o e=>ce.extBut _ _ (ap.a2 c hc).2.1 e
 have szs:s.heap.objs.size=ge.objs.size:=by rw [ce.1,cd.1,cc.1,cb.1,sa.1]
 refine wpAny_bind (wpAny_seqItems hOe rfl (wpAny_bind (wpAny_newTuple (wpAny_bind (m:=Builtin.SmallTypes.ownedTupleHandOut (.ref z) (.ref ge.objs.size)) ?_))))
 unfold Builtin.SmallTypes.ownedTupleHandOut
 have zl:z < ge.objs.size:=Heap.lt_size hze
 refine wpAny_bind (wpAny_setField_rec (show IsZip (ge.push { cls:=.type "tuple",data:=.seq #[x,y] }) z TI TO .ellipsis from Heap.get?_push_of_some _ hze) (by simp) fun gf cf sf => ?_)
 replace cf:IsZip gf z TI TO (rawInt ge.objs.size):=cf
 refine wpAny_setField_rec cf (by simp) fun gg cg sg=>wpAny_pure ⟨_,rfl,?_⟩
 replace cg:IsZip gg z TI TO (rawInt ge.objs.size):=cg
 have up : ∀ c o,c ≠ z->ge.get? c=some o->gg.get? c=some o:=fun c o n e=>sg.extBut _ _ n (sf.extBut _ _ n (Heap.get?_push_of_some _ e))
 have hT:IsPair gg ge.objs.size x y:=sg.extBut _ _ (Nat.ne_of_gt zl) (sf.extBut _ _ (Nat.ne_of_gt zl) (Heap.get?_push_size _ rfl))
 exact q x y ge.objs.size gg _ px py szs.symm cg (up _ _ ap.oz hOe) (D1.frame _ _ _ se1 fun c hc o e=>up c o (ap.a1 c hc).1 e) (D2.frame _ _ _ se2 fun c hc o e=>up c o (ap.a2 c hc).1 e) hT fun c o n n1 n2 n3 e=>up c o n (ke c o n n1 n2 n3 e)
theorem aAw {Q:Fin->Shared->Prop}(D1:Draws prog w A i1 f1 n1 P1 S1)(D2:Draws prog w A i2 f2 n2 P2 S2)(ap:Ap z TI TO i1 i2 f1 f2)(hz:IsZip s.heap z TI TO .none)(hI:IsPair s.heap TI (.ref i1) (.ref i2))(hO:IsPair s.heap TO a b)
  (h1:S1 k s.heap) (h2:S2 k s.heap) (hk:k=n1\/(k < n1/\k=n2))
  (q : ∀ g e t',(∀ c o,c ≠ z->c ≠ TO->c ≠ i1->c ≠ i2->s.heap.get? c=some o->g.get? c=some o)->(∃ o,g.get? e=some o/\o.cls = .type "StopIteration")->E (.ref e) { s with heap:=g,toks:=t' }) :
  wpAny (model prog w) A (Builtin.«zip.__next__» ⟨[.ref z],[]⟩) Q E s:=by
 have z1:=ap.a1 i1 ap.m1
 have z2:=ap.a2 i2 ap.m2
 refine wpAny_bind (m:=field (.ref z) 2) (wpAny_field hz rfl (x:=.bool false) rfl (wpAny_bind (m:=field (.ref z) 3) (wpAny_field hz rfl (x:=.ref TI) rfl (wpAny_bind (wpAny_seqItems hI rfl (wpAny_bind (m:=Builtin.SmallTypes.ownedTupleIsFree (.ref z)) ?_))))))
 unfold Builtin.SmallTypes.ownedTupleIsFree
 refine wpAny_bind (wpAny_field hz rfl (x:=.none) rfl (wpAny_pure ?_))
 simp only [if_true]
 refine wpAny_bind (wpAny_rule (wpAny_bind (wpAny_field hz rfl (x:=.ref TO) rfl (wpAny_bind (wpAny_setField_rec hz (by simp) fun ga ca sa=>wpAny_bind ?_)))))
 replace ca:IsZip ga z TI TO .ellipsis:=ca
 have ka : ∀ c o,c ≠ z->s.heap.get? c=some o->ga.get? c=some o:=fun c o n e=>sa.extBut _ _ n e
 simp only [List.zipIdx_cons,List.zipIdx_nil,List.forIn_cons,List.forIn_nil]
 rcases hk with e | ⟨l1,e⟩
 ·subst e
  refine wpAny_bind (wpAny_bind (wpAny_onRaise (wpAny_bind (m:=Builtin.SmallTypes.nextOf (.ref i1)) (D1.done _ _ _ (D1.frame _ _ _ h1 fun c hc o e=>ka c o (ap.a1 c hc).1 e) fun gb e cb he => ?_))))
  obtain ⟨oe,h3,h4⟩:=he
  have hzb:IsZip gb z TI TO .ellipsis:=cb _ _ (Ne.symm z1.1) ca
  have hez:e ≠ z:=fun x=>by rw [x,hzb] at h3; cases h3; simp at h4
  exact wpAny_setField_rec hzb (by simp) fun gc _ cc=>q gc e s.toks (fun c o n _ n2 _ x=>cc.extBut _ _ n (cb _ _ n2 (ka c o n x))) ⟨oe,cc.extBut _ _ hez h3,h4⟩
 ·subst e
  refine wpAny_bind (wpAny_bind (wpAny_onRaise (wpAny_bind (m:=Builtin.SmallTypes.nextOf (.ref i1)) (D1.item k _ _ _ l1 (D1.frame _ _ _ h1 fun c hc o e=>ka c o (ap.a1 c hc).1 e) fun x gb tb px sb cb=>wpAny_pure ?_))))
  have kb : ∀ c o,c ≠ z->c ≠ i1->s.heap.get? c=some o->gb.get? c=some o:=fun c o n n' e=>cb.extBut _ _ n' (ka c o n e)
  have hOb:IsPair gb TO a b:=kb _ _ ap.oz (fun e=>z1.2.1 e.symm) hO
  refine wpAny_bind (wpAny_seqItems hOb rfl (wpAny_bind (wpAny_updateSeq_pair hOb fun gc hOc cc=>wpAny_bind (wpAny_letGo (wpAny_pure ?_)))))
  have kc : ∀ c o,c ≠ z->c ≠ i1->c ≠ TO->s.heap.get? c=some o->gc.get? c=some o:=fun c o n n' n2 e=>cc.extBut _ _ n2 (kb c o n n' e)
  refine wpAny_bind (wpAny_bind (wpAny_onRaise (wpAny_bind (m:=Builtin.SmallTypes.nextOf (.ref i2)) (D2.done _ _ _ (D2.frame _ _ _ h2 fun c hc o e=>kc c o (ap.a2 c hc).1 (ap.a2 c hc).2.2 (ap.a2 c hc).2.1 e) fun gd e cd he => ?_))))
  obtain ⟨oe,h3,h4⟩:=he
  have hzd:IsZip gd z TI TO .ellipsis:=cd _ _ (Ne.symm z2.1) (cc.extBut _ _ (Ne.symm ap.oz) (cb.extBut _ _ (Ne.symm z1.1) ca))
  have hez:e ≠ z:=fun x=>by rw [x,hzd] at h3; cases h3; simp at h4
  exact wpAny_setField_rec hzd (by simp) fun ge _ ce=>q ge e tb (fun c o n n1 n2 n3 x=>ce.extBut _ _ n (cd _ _ n3 (kc c o n n2 n1 x))) ⟨oe,ce.extBut _ _ hez h3,h4⟩
theorem aC7 {Q:Option Value->Shared->Prop}(D1:Draws prog w A.in1 i1 f1 n1 P1 S1)(D2:Draws prog w A.in1 i2 f2 n2 P2 S2)(ap:Ap z TI TO i1 i2 f1 f2)(hz:IsZip s.heap z TI TO .none)(hI:IsPair s.heap TI (.ref i1) (.ref i2))(hO:IsPair s.heap TO a b)
  (h1:S1 k s.heap) (h2:S2 k s.heap) (l1:k < n1) (l2:k < n2)
  (q : ∀ x y T g t',P1 k x->P2 k y->T=s.heap.objs.size->IsZip g z TI TO (rawInt T)->IsPair g TO x y->S1 (k+1) g->S2 (k+1) g->IsPair g T x y->(∀ c o,c ≠ z->c ≠ TO->c ≠ i1->c ≠ i2->s.heap.get? c=some o->g.get? c=some o)->Q (some (.ref T)) { s with heap:=g,toks:=t' }) :
  wpAny (model prog w) A (pyNext (.ref z)) Q E s:=by
 have ty:s.TypeIs (.ref z) "zip" := ⟨_,hz,rfl⟩
 unfold pyNext
 exact wpAny_bind (wpAny_attempt (wpAny_callSpecial?_slot (name:=Str.ofString "__next__") ty F.slot_zip_next (wpAny_call_entry F.slot_zip_next ty F.entry_zip_next (aAx D1 D2 ap hz hI hO h1 h2 l1 l2 fun x y T g t' c1 c2 c3 c4 c5 c6 c7 c8 c9=>wpAny_pure (q x y T g t' c1 c2 c3 c4 c5 c6 c7 c8 c9)) (F.args_zip_next_1 _))))
theorem mD {Q:Option Value->Shared->Prop}(D1:Draws prog w A.in1 i1 f1 n1 P1 S1)(D2:Draws prog w A.in1 i2 f2 n2 P2 S2)(ap:Ap z TI TO i1 i2 f1 f2)(hz:IsZip s.heap z TI TO .none)(hI:IsPair s.heap TI (.ref i1) (.ref i2))(hO:IsPair s.heap TO a b)
  (h1:S1 k s.heap) (h2:S2 k s.heap) (hk:k=n1\/(k < n1/\k=n2))
  (q : ∀ g t',(∀ c o,c ≠ z->c ≠ TO->c ≠ i1->c ≠ i2->s.heap.get? c=some o->g.get? c=some o)->Q none { s with heap:=g,toks:=t' }):wpAny (model prog w) A (pyNext (.ref z)) Q E s:=by
 have ty:s.TypeIs (.ref z) "zip" := ⟨_,hz,rfl⟩
 unfold pyNext
 refine wpAny_bind (wpAny_attempt (wpAny_callSpecial?_slot (name:=Str.ofString "__next__") ty F.slot_zip_next (wpAny_call_entry F.slot_zip_next ty F.entry_zip_next (aAw D1 D2 ap hz hI hO h1 h2 hk fun g e t' kp he => ?_) (F.args_zip_next_1 _))))
 obtain ⟨o,h3,h4⟩:=he
 exact wpAny_bind (wpAny_isInstance (T := "StopIteration") (b:=true) ⟨o,h3,h4⟩ isSubtype_stop (wpAny_pure (q _ _ kp)))
end
end
def Itz (K:PySem.W.Frag)(a b:Addr):It :=
  ⟨fun i H=>∃ xs ys,SqT K H a xs/\SqL K H b ys/\i < xs.length/\i < ys.length,
   fun i H v H'=>∃ T,H T=none/\v = .ref T/\∀ xs ys,SqT K H a xs->SqL K H b ys->∃ x y,xs[i]?=some x/\ys[i]?=some y/\H'=upd H T (.tup [x,y]),
   fun i H=>∃ xs ys,SqT K H a xs/\SqL K H b ys/\(i=xs.length\/(i < xs.length/\i=ys.length))⟩
theorem Inv.turnedL {X:Cx}{pins:List (Addr × Obj)}{σ:St}{H:Hp}{s:Shared}{h':Heap}{t':Nat}{ch:List Addr}(I:Inv X pins σ H s)(k : ∀ b o,b ∉ ch->s.heap.get? b=some o->h'.get? b=some o)(hf : ∀ b ∈ ch,FpOk X pins H b):Inv X pins σ H { s with heap:=h',toks:=t' }:=by
 have nit : ∀ b u,H b=some u->b ∉ ch:=fun b u e z=>by rw [(hf b z).1] at e; cases e
 refine I.step (g':=s.gens) (d':=s.drawn) (ch:=ch) (fun b hb=>⟨(hf b hb).2.2.2.1,(hf b hb).2.1,(hf b hb).2.2.2.2.1,(hf b hb).2.2.2.2.2⟩) (fun b o _ _ hc e _=>k b o hc e) (fun b o _ _ hc e _=>⟨o.slots,k b o hc e⟩) (fun _ _ _ _ n=>n)
  (fun b o hc e=>⟨o,k b o hc e⟩) (fun _ _ e=>e) (fun _ _ _ e=>e) (fun b ps e=>⟨#[],by rw [e]; simp⟩) (fun m hm => ?_) (fun b u e => ?_) I.bare
 ·obtain ⟨o,es,ep,ho,r⟩:=hm
  exact ⟨o,es,ep,k _ o (fun z=>(hf _ z).2.1 rfl) ho,r⟩
 ·refine (I.hok b u e).stay (fun c v hc q=>k c v ?_ q) (fun _ q=>q) fun _ _ q=>q
  rcases hc with z | z
  ·rw [z]; exact nit b u e
  ·exact nit c _ z
def aFr (n a b:Nat)(i:Nat)(h:Heap):Prop:=IsZip h (n+4) (n+2) (n+3) .none/\IsPair h (n+2) (.ref n) (.ref (n+1))/\(∃ x y,IsPair h (n+3) x y)/\h.IsTupleIter n a i/\h.IsListIter (n+1) b i
theorem qW {n a b:Nat}(ha:a < n)(hb:b < n):Ap (n+4) (n+2) (n+3) n (n+1) [n,a] [n+1,b] where
 a1:=fun c hc=>by
  have hc':c=n\/c=a:=by simpa using hc
  rcases hc' with e | e <;> (subst e; exact ⟨by show (_:Nat) ≠ _; omega,by show (_:Nat) ≠ _; omega,by show (_:Nat) ≠ _; omega⟩)
 a2:=fun c hc=>by
  have hc':c=n+1\/c=b:=by simpa using hc
  rcases hc' with e | e <;> (subst e; exact ⟨by show (_:Nat) ≠ _; omega,by show (_:Nat) ≠ _; omega,by show (_:Nat) ≠ _; omega⟩)
 m1:=by simp
 m2:=by simp
 tz:=by show (_:Nat) ≠ _; omega
 tO:=by show (_:Nat) ≠ _; omega
 t1:=by show (_:Nat) ≠ _; omega
 t2:=by show (_:Nat) ≠ _; omega
 oz:=by show (_:Nat) ≠ _; omega
theorem wU {P:Program}{w:World}{K:PySem.W.Frag}{es:List Expr}{k1:Nat}{p1:Pos}{n a b:Nat}(ha:a < n)(hb:b < n) :
  Turn P w K (.Tuple es k1 p1) (Itz K a b) [n+4,n+2,n+3,n,n+1] (n+4) (aFr n a b) where
 mem:=by simp
 obj:=fun i h st c hc=>by
  obtain ⟨c1,c2,⟨x,y,c3⟩,⟨o4,d4,_,f4⟩,⟨o5,d5,_,f5⟩⟩:=st
  have hc':c=n+4\/c=n+2\/c=n+3\/c=n\/c=n+1:=by simpa using hc
  rcases hc' with e | e | e | e | e
  ·subst e; exact ⟨_,c1,fun v z=>by cases z⟩
  ·subst e; exact ⟨_,c2,fun v z=>by cases z⟩
  ·subst e; exact ⟨_,c3,fun v z=>by cases z⟩
  ·subst e; exact ⟨_,d4,fun v z=>by rw [f4] at z; cases z⟩
  ·subst e; exact ⟨_,d5,fun v z=>by rw [f5] at z; cases z⟩
 keep:=fun i h h' st k=>by
  obtain ⟨c1,c2,⟨x,y,c3⟩,c4,c5⟩:=st
  exact ⟨k _ (by simp) _ c1,k _ (by simp) _ c2,⟨x,y,k _ (by simp) _ c3⟩,c4.at fun o e=>k _ (by simp) o e,c5.at fun o e=>k _ (by simp) o e⟩
 item:=by
  intro X hP hw hK hc i pins s σ H E I hf st hg
  subst hP hw hK
  obtain ⟨xs,ys,hx,hy,l1,l2⟩:=hg
  obtain ⟨its,r1,tx,_⟩:=I.tuple hx
  obtain ⟨its',r2,ty,_⟩:=I.list hy
  have e1:=r1.length
  have e2:=r2.length
  obtain ⟨c1,c2,⟨x0,y0,c3⟩,c4,c5⟩:=st
  have hh:X.A.in1.handled=none:=I.ok.hd hc
  refine aC7 (jI hh n a (by show (_:Nat) ≠ _; omega) its.toArray) (Draws.list hh (n+1) b (by show (_:Nat) ≠ _; omega) its'.toArray) (qW ha hb) c1 c2 c3 ⟨c4,tx⟩ ⟨c5,bK ty⟩ (by rw [List.size_toArray]; omega) (by rw [List.size_toArray]; omega) fun x y T g t' px py hT cz cO s1 s2 cT kp=>⟨.ref T,rfl,?_⟩
  subst hT
  refine wpAny_letOwnedTupleGo_zip (s:={ s with heap:=g,toks:=t' }) cz fun g' cz' sb => ?_
  obtain ⟨vx,hvx⟩ : ∃ v,xs[i]?=some v:=⟨_,List.getElem?_eq_getElem l1⟩
  obtain ⟨vy,hvy⟩ : ∃ v,ys[i]?=some v:=⟨_,List.getElem?_eq_getElem l2⟩
  obtain ⟨ux,hux,rx⟩:=r1.get hvx
  obtain ⟨uy,huy,ry⟩:=r2.get hvy
  have ex:x=ux:=by
   have:its.toArray[i]?=some x:=px
   rw [<- Array.getElem?_toList,List.toList_toArray,hux] at this
   exact (Option.some.inj this).symm
  have ey:y=uy:=by
   have:its'.toArray[i]?=some y:=py
   rw [<- Array.getElem?_toList,List.toList_toArray,huy] at this
   exact (Option.some.inj this).symm
  subst ex ey
  have hfr:H s.heap.objs.size=none:=I.hok.fresh (Nat.le_refl _)
  have I0:Inv X pins σ (upd H s.heap.objs.size (.tup [vx,vy])) { s with heap:=s.heap.push { cls:=.type "tuple",data:=.seq #[x,y] },toks:=t' } :=
   I.laid (fun c u q=>Heap.get?_push_of_some _ q) (Nat.le_refl _) ⟨by show 2<=sizeLine; decide,[x,y],.cons rx (.cons ry .nil),⟨_,Heap.get?_push_size s.heap rfl,rfl,_,rfl⟩⟩
  have lz:n+4 < s.heap.objs.size:=Heap.lt_size c1
  have fpn : ∀ c ∈ [n+4,n+2,n+3,n,n+1],c ≠ s.heap.objs.size:=fun c hc'=>by
   have hc'':c=n+4\/c=n+2\/c=n+3\/c=n\/c=n+1:=by simpa using hc'
   rcases hc'' with e | e | e | e | e <;> (subst e; exact Nat.ne_of_lt (by omega))
  have hf0 : ∀ c ∈ [n+4,n+2,n+3,n,n+1],FpOk X pins (upd H s.heap.objs.size (.tup [vx,vy])) c:=fun c hc'=>⟨by rw [aL (fpn c hc')]; exact (hf c hc').1,(hf c hc').2⟩
  have I1:Inv X pins σ (upd H s.heap.objs.size (.tup [vx,vy])) { s with heap:=g',toks:=t' }:=by
   refine Inv.turnedL (s:={ s with heap:=s.heap.push { cls:=.type "tuple",data:=.seq #[x,y] },toks:=t' }) (h':=g') (t':=t') (ch:=[n+4,n+2,n+3,n,n+1]) I0 (fun c o hc' e => ?_) hf0
   replace e:(s.heap.push { cls:=.type "tuple",data:=.seq #[x,y] }).get? c=some o:=e
   have hn : ∀ d ∈ [n+4,n+2,n+3,n,n+1],c ≠ d:=fun d hd z=>hc' (by rw [z]; exact hd)
   refine sb.extBut _ _ (hn _ (by simp)) ?_
   by_cases ec:c=s.heap.objs.size
   ·rw [ec] at e ⊢
    rw [Heap.get?_push_size s.heap rfl] at e
    cases e
    exact cT
   ·rw [Heap.get?_push_ne _ _ _ ec] at e
    exact kp c o (hn _ (by simp)) (hn _ (by simp)) (hn _ (by simp)) (hn _ (by simp)) e
  refine ⟨.ref s.heap.objs.size,_,I1,rfl,⟨_,hfr,rfl,fun xs' ys' hx' hy'=>⟨vx,vy,by rw [I.tuple_inj hx' hx]; exact hvx,by rw [I.list_inj hy' hy]; exact hvy,rfl⟩⟩,?_,fun c hc'=>(hf0 c hc').1⟩
  have nz : ∀ d:Nat,d < n+4->d ≠ n+4:=fun d hd=>Nat.ne_of_lt hd
  exact ⟨cz',sb.extBut _ _ (nz _ (by omega)) (kp _ _ (nz _ (by omega)) (by show (_:Nat) ≠ _; omega) (by show (_:Nat) ≠ _; omega) (by show (_:Nat) ≠ _; omega) c2),⟨x,y,sb.extBut _ _ (nz _ (by omega)) cO⟩,s1.1.extBut sb.extBut (nz _ (by omega)),s2.1.extBut sb.extBut (nz _ (by omega))⟩
 done:=by
  intro X hP hw hK hc i pins s σ H E I hf st hg
  subst hP hw hK
  obtain ⟨xs,ys,hx,hy,l⟩:=hg
  obtain ⟨its,r1,tx,_⟩:=I.tuple hx
  obtain ⟨its',r2,ty,_⟩:=I.list hy
  have e1:=r1.length
  have e2:=r2.length
  obtain ⟨c1,c2,⟨x0,y0,c3⟩,c4,c5⟩:=st
  have hh:X.A.in1.handled=none:=I.ok.hd hc
  refine mD (jI hh n a (by show (_:Nat) ≠ _; omega) its.toArray) (Draws.list hh (n+1) b (by show (_:Nat) ≠ _; omega) its'.toArray) (qW ha hb) c1 c2 c3 ⟨c4,tx⟩ ⟨c5,bK ty⟩ (by rw [List.size_toArray,List.size_toArray]; omega) fun g t' kp=>⟨rfl,I.turnedL (ch:=[n+4,n+2,n+3,n,n+1]) (fun c o hc' e => ?_) hf⟩
  have hn : ∀ d ∈ [n+4,n+2,n+3,n,n+1],c ≠ d:=fun d hd z=>hc' (by rw [z]; exact hd)
  exact kp c o (hn _ (by simp)) (hn _ (by simp)) (hn _ (by simp)) (hn _ (by simp)) e
 self:=fun _ _ _ _ _ st h=>wpAny_pyIter_zip st.1 h
abbrev zo1 (h:Heap)(a:Addr):Heap:=h.push { cls:=.type "tuple_iterator",data:=.fields #[.ref a,.int 0 0] }
abbrev zo2 (h:Heap)(a b:Addr):Heap:=(zo1 h a).push { cls:=.type "list_iterator",data:=.fields #[.ref b,.int 0 0] }
abbrev zo3 (h:Heap)(a b:Addr):Heap:=(zo2 h a b).push { cls:=.type "tuple",data:=.seq #[.ref h.objs.size,.ref (zo1 h a).objs.size] }
abbrev zo4 (h:Heap)(a b:Addr):Heap:=(zo3 h a b).push { cls:=.type "tuple",data:=.seq #[.none,.none] }
abbrev zo5 (h:Heap)(a b:Addr):Heap:=(zo4 h a b).push { cls:=.type "zip",data:=.fields #[.none,.bool false,.bool false,.ref (zo2 h a b).objs.size,.ref (zo3 h a b).objs.size] }
theorem aAy (a b:Addr)(xs ys:Array Value):Meets (Builtin.«zip.__new__» ⟨[.type "zip",.ref a,.ref b],[]⟩) (fun _ R s=>s.heap.IsTuple a xs/\s.heap.IsList b ys/\R (.ok (.ret (.ref (zo4 s.heap a b).objs.size))) { s with heap:=zo5 s.heap a b }):=.of_wp fun prog w A R s h=>by
 obtain ⟨hp,g,d,tk,os⟩:=s
 obtain ⟨q1,q2,q⟩:=h
 have hsub:=sub_zip
 have u1:Heap.IsTuple (Shared.heap ⟨hp,g,d,tk,os⟩) a xs:=q1
 have u2:Heap.IsList (Shared.heap ⟨hp.push { cls:=.type "tuple_iterator",data:=.fields #[.ref a,.int 0 0] },g,d,tk,os⟩) b ys:=Heap.IsList.push q2 _
 wp_walk using wpAny_pyIter_tuple u1,wpAny_pyIter_list u2
 exact ⟨_,rfl,q⟩
theorem sI {prog:Program}{w:World}{A:Around}{E:Value->Shared->Prop}{s:Shared}{a b:Addr}{xs ys:Array Value}{Q:Value->Shared->Prop}(q1:s.heap.IsTuple a xs)(q2:s.heap.IsList b ys)
  (q : ∀ g,aFr s.heap.objs.size a b 0 g->(∀ c o,s.heap.get? c=some o->g.get? c=some o)->Q (.ref (s.heap.objs.size+4)) { s with heap:=g }):wpAny (model prog w) A (call (.type "zip") [.ref a,.ref b]) Q E s:=by
 refine callType_new F.called_zip (by decide) (F.typeCall_zip_2 _ _) (F.newCall_zip_2 _ _) (fun obj=>F.args_object_init_3 obj _ _) F.entry_zip_new (aAy a b xs ys) ⟨q1,q2,?_⟩
 have z1:(zo1 s.heap a).objs.size=s.heap.objs.size+1:=Heap.size_push ..
 have z2:(zo2 s.heap a b).objs.size=s.heap.objs.size+2:=by rw [Heap.size_push,z1]
 have z3:(zo3 s.heap a b).objs.size=s.heap.objs.size+3:=by rw [Heap.size_push,z2]
 have z4:(zo4 s.heap a b).objs.size=s.heap.objs.size+4:=by rw [Heap.size_push,z3]
 have o5:(zo5 s.heap a b).get? (zo4 s.heap a b).objs.size=some _:=Heap.get?_push_size _ rfl
 have o4:(zo5 s.heap a b).get? (zo3 s.heap a b).objs.size=some _:=Heap.get?_push_of_some _ (Heap.get?_push_size _ rfl)
 have o3:(zo5 s.heap a b).get? (zo2 s.heap a b).objs.size=some _:=Heap.get?_push_of_some _ (Heap.get?_push_of_some _ (Heap.get?_push_size _ rfl))
 have o2:(zo5 s.heap a b).get? (zo1 s.heap a).objs.size=some _:=Heap.get?_push_of_some _ (Heap.get?_push_of_some _ (Heap.get?_push_of_some _ (Heap.get?_push_size _ rfl)))
 have o1:(zo5 s.heap a b).get? s.heap.objs.size=some _:=Heap.get?_push_of_some _ (Heap.get?_push_of_some _ (Heap.get?_push_of_some _ (Heap.get?_push_of_some _ (Heap.get?_push_size _ rfl))))
 rw [z2,z3,z4] at o5
 rw [z1,z2] at o3
 rw [z3] at o4
 rw [z1] at o2
 show _/\_
 rw [z4]
 exact ⟨⟨_,o5,rfl⟩,q _ ⟨o5,o3,⟨_,_,o4⟩,⟨_,o1,rfl,rfl⟩,⟨_,o2,rfl,rfl⟩⟩ fun c o x=>Heap.get?_push_of_some _ (Heap.get?_push_of_some _ (Heap.get?_push_of_some _ (Heap.get?_push_of_some _ (Heap.get?_push_of_some _ x))))⟩
def iZip (K:PySem.W.Frag)(ta:TA):TI:=fun σ H R=>ta σ H fun vs H1=>∃ a b,vs=[.ref a,.ref b]/\(∃ xs,SqT K H1 a xs)/\(∃ ys,SqL K H1 b ys)/\R (Itz K a b) H1
theorem aAs:bootBuiltins "zip" = some (.type "zip"):=by decide +kernel
theorem aEo {X:Cx}{es:List Expr}{k1:Nat}{p1:Pos}{e1 e2:Expr}{ta:TA}{p pos:Pos}(hg:Gl X "zip")(hm:X.mg "zip" = none)(ha:PA X [e1,e2] ta)(hs:starEach [e1,e2] X.env=[(false,eval e1 X.env),(false,eval e2 X.env)]:=by rfl)(hs2:starEach [e2] X.env=[(false,eval e2 X.env)]:=by rfl) :
  PI X (.Tuple es k1 p1) (.Call (.Name "zip" p) [e1,e2] [] pos) (iZip X.K ta):=by
 intro pins s σ H R I h
 refine Call_ (iU I hg hm aAs (PyProof.Rows.callWith_type1 (thn (ha pos pins s σ H _ I h) fun us s1 ⟨vs,H1,I1,r1,q1⟩ => ?_) (by rw [hs,hs2]) (by rw [hs2]; rfl)))
 obtain ⟨a,b,rfl,⟨xs,hx⟩,⟨ys,hy⟩,q⟩:=q1
 cases r1 with
 | cons r rr =>
  cases rr with
  | cons r' rr =>
   cases rr
   cases r
   cases r'
   obtain ⟨its,_,tx,_⟩:=I1.tuple hx
   obtain ⟨its',_,ty,_⟩:=I1.list hy
   have la:a < s1.heap.objs.size:=by obtain ⟨o,e,_⟩:=tx; exact Heap.lt_size e
   have lb:b < s1.heap.objs.size:=by obtain ⟨o,e,_⟩:=bK ty; exact Heap.lt_size e
   refine sI tx (bK ty) fun g st kp=>wpAny_pyIter_zip st.1 ?_
   have I2:Inv X pins σ H1 { s1 with heap:=g }:=I1.kept (t':=s1.toks) kp
   refine ⟨s1.heap.objs.size+4,_,_,_,H1,rfl,I2,wU la lb,st,fun c hc => ?_,q⟩
   refine I1.fpOk ?_ (I1.hok.fresh ?_)
   all_goals
    have hc':c=s1.heap.objs.size+4\/c=s1.heap.objs.size+2\/c=s1.heap.objs.size+3\/c=s1.heap.objs.size\/c=s1.heap.objs.size+1:=by simpa using hc
    rcases hc' with e | e | e | e | e <;> (subst e; omega)
theorem aCv {K:PySem.W.Frag}{a b:Addr}{xs ys:List V}{g:TG}{tb:TS}{D:Ends}{σ:St}{H:Hp}(Pv:Nat->St->Hp->Prop)(h0:Pv 0 σ H)(hl : ∀ i σ H,i<=xs.length->Pv i σ H->SqT K H a xs/\SqL K H b ys)(hn:xs.length=ys.length)
  (hs : ∀ i x y T σ H,xs[i]?=some x->ys[i]?=some y->H T=none->Pv i σ H->g (.ref T) σ (upd H T (.tup [x,y])) fun σ2 H2=>tb { D with nx:=Pv (i+1),ct:=Pv (i+1),bk:=D.nx } σ2 H2) (hd : ∀ σ H,Pv xs.length σ H->D.nx σ H) :
  ∃ W:Nat->Nat->St->Hp->Prop,(∃ m,W 0 m σ H)/\∀ i m σ H,W i m σ H ->
   ((Itz K a b).stop i H/\D.nx σ H)\/((Itz K a b).go i H/\∃ N:St->Hp->Prop,(∀ σ' H',N σ' H'->∃ m',m' < m/\W (i+1) m' σ' H')/\∀ v H',(Itz K a b).yld i H v H'->g v σ H' fun σ2 H2=>tb { D with nx:=N,ct:=N,bk:=D.nx } σ2 H2):=by
 refine ⟨fun i m σ H=>m=xs.length - i/\i<=xs.length/\Pv i σ H,⟨xs.length,by simp,Nat.zero_le _,h0⟩,?_⟩
 rintro i m σ H ⟨rfl,hi,p⟩
 obtain ⟨q1,q2⟩:=hl i σ H hi p
 by_cases hlt:i < xs.length
 ·refine .inr ⟨⟨xs,ys,q1,q2,hlt,by omega⟩,Pv (i+1),fun σ' H' p'=>⟨xs.length - (i+1),by omega,rfl,hlt,p'⟩,fun v H' y => ?_⟩
  obtain ⟨T,hT,rfl,y⟩:=y
  obtain ⟨x',y',e1,e2,rfl⟩:=y xs ys q1 q2
  exact hs i x' y' T σ H e1 e2 hT p
 ·have e:i=xs.length:=by omega
  subst e
  exact .inl ⟨⟨xs,ys,q1,q2,.inl rfl⟩,hd σ H p⟩
end L2
namespace K25
open PySem PySem.Spec PyProof.Rows L2 GM
def top (i:Nat):Stmt:=PySem.Challenge.pw_phialhouse_k25_trees.main.body.getD i (.Pass ⟨0,0,0,0⟩)
abbrev sGcd:Stmt:=top 14
abbrev sLow:Stmt:=top 15
abbrev sPlus:Stmt:=top 16
abbrev sMinus:Stmt:=top 17
abbrev sTimes:Stmt:=top 18
abbrev sOver:Stmt:=top 19
abbrev sLess:Stmt:=top 20
abbrev sWholeL:Stmt:=top 22
abbrev sRowsOf:Stmt:=top 24
abbrev sThin:Stmt:=top 25
abbrev sThof:Stmt:=top 26
abbrev sShares:Stmt:=top 27
abbrev sPutBy:Stmt:=top 28
abbrev sPaw:Stmt:=top 29
abbrev sRnm:Stmt:=top 31
abbrev sOof:Stmt:=top 32
abbrev sReady:Stmt:=top 33
abbrev sBowl:Stmt:=top 35
abbrev sPuts:Stmt:=top 36
abbrev sSizeOf:Stmt:=top 38
abbrev eN:Stmt:=top 39
abbrev sGrown:Stmt:=top 40
abbrev sLeaves:Stmt:=top 41
abbrev sCell:Stmt:=top 43
abbrev sLeft:Stmt:=top 44
abbrev sNext:Stmt:=top 45
abbrev sDiv:Stmt:=top 46
abbrev sLlow:Stmt:=top 47
abbrev sNames:Stmt:=top 48
abbrev sSum:Stmt:=top 49
abbrev sAmount:Stmt:=top 50
abbrev sParts:Stmt:=top 51
abbrev sRow:Stmt:=top 52
abbrev sRaw:Stmt:=top 53
abbrev sThings:Stmt:=top 54
abbrev sBelow:Stmt:=top 55
abbrev sReach:Stmt:=top 56
abbrev sOrder:Stmt:=top 57
abbrev sLower:Stmt:=top 58
abbrev sRecipes:Stmt:=top 59
abbrev sBook:Stmt:=top 60
abbrev sLputs:Stmt:=top 61
abbrev sWhole:Stmt:=top 62
abbrev sIsAm:Stmt:=top 63
abbrev sKind:Stmt:=top 64
abbrev sAsked:Stmt:=top 65
abbrev sSizes:Stmt:=top 66
abbrev sWalked:Stmt:=top 67
abbrev sRefused:Stmt:=top 68
abbrev sRight:Stmt:=top 69
abbrev sGreat:Stmt:=top 70
abbrev sBound:Stmt:=top 71
abbrev sLaw:Stmt:=top 72
def oW:Sp:=fun vs H Q _=>∃ a b:Int,vs=[.int a,.int b]/\0<=a/\0<=b/\Q (.int (G a b)) H
def gS:Sp:=fun vs H Q _=>∃ t b:Int,vs=[.int t,.int b]/\0<=t/\1<=b/\Bt 9000 b/\RetT H Q [t / G t b,b / G t b]
section
variable {P:Program}{w:World}{K:PySem.W.Frag}{mg:Str->Option Value}{base:Heap}
theorem qQ {a0 b0 a b:Int}(e:G a b=G a0 b0)(hb:0<=b)(h : ¬ b=0):0<=a % b/\G b (a % b)=G a0 b0:=⟨Int.emod_nonneg a h,by rw [aFs]; exact e⟩
theorem xC:FnScope ["one","other","rest"] ["one","other"] (aG sGcd):=⟨rfl,rfl,rfl,by decide +kernel,rfl,by decide +kernel,by decide +kernel⟩
theorem aE2 {f:Addr}{fd:FuncData}(F:Fun K "common_divisor" "common_divisor" sGcd f fd):FnOk P w K mg base CX0 1 f fd ["one","other"] oW:=by
 refine F.ok xC (fun vs H Q E h => ?_) (fun cdv A outer s H vs Q E hr h => ?_)
 ·obtain ⟨a,b,rfl,_⟩:=h
  rfl
 ·obtain ⟨a,b,rfl,ha,hb,k⟩:=h
  refine ⟨_,aD (jH PassesOwn.never (aK gD (pv 1) aF (aT _))
   (aD (aI (i:=2) xC.nd rfl (Or.inl rfl) (aV eV (pv 0) (pv 1)))
   (aD (aI (i:=0) xC.nd rfl (Or.inl rfl) (pv 1))
   (aE (aI (i:=1) xC.nd rfl (Or.inl rfl) (pv 2))))))
   (aE (aO (pv 0))),?_⟩
  refine pT (fun σ H'=>H'=H/\∃ (x y:Int) (r:Option V),σ=[some (.int x),some (.int y),r]/\0<=x/\0<=y/\G x y=G a b) (fun σ _=>match σ with | [_,some (.int y),_]=>y.toNat | _=>0) ⟨rfl,a,b,none,rfl,ha,hb,rfl⟩ ?_ ?_
  ·rintro σ H' ⟨rfl,x,y,r,rfl,hx,hy,e⟩
   refine ⟨_,rfl,rfl,_,rfl,?_⟩
   refine ite2 (fun hc => ?_) (fun hc => ?_)
   ·have hy0 : ¬ y=0:=by
     intro z
     subst z
     simp at hc
    have t:=qQ e hy hy0
    refine ⟨_,rfl,_,rfl,_,_,rfl,rfl,(by show 0 < y; omega),_,rfl,_,rfl,⟨rfl,y,x % y,_,rfl,hy,t.1,t.2⟩,?_⟩
    have:=Int.emod_lt_of_pos x (show 0 < y by omega)
    have:=t.1
    show (x % y).toNat < y.toNat
    omega
   ·have hy0:y=0:=by
     by_cases z:y=0
     ·exact z
     ·exfalso
      apply hc
      simp [z]
    subst hy0
    rw [aAv hx] at e
    exact ⟨_,rfl,by rw [e]; exact k⟩
  ·rintro σ H' Q1 Q2 hq ⟨v,e,z,q⟩
   exact ⟨v,e,z,by obtain ⟨k,e,q⟩:=q; exact ⟨k,e,hq _ _ q⟩⟩
theorem aD0:FnScope ["top","bottom","divisor"] ["top","bottom"] (aG sLow):=⟨rfl,rfl,rfl,by decide +kernel,rfl,by decide +kernel,by decide +kernel⟩
theorem nE {t b:Int}(h1:1<=b)(hs:Bt 9000 b):0 < G t b/\Bt 9000 (G t b):=by
 have p:=aC5 (a:=t) (b:=b) (by omega)
 exact ⟨p,hs.le (by omega) (aFt (by omega))⟩
theorem aE0 {f:Addr}{fd:FuncData}(F:Fun K "lowest_terms" "lowest_terms" sLow f fd)(cG:Cal P w K mg base CX0 1 "common_divisor" ["one","other"] oW):FnOk P w K mg base CX0 2 f fd ["top","bottom"] gS:=by
 refine F.ok aD0 (fun vs H Q E h => ?_) (fun cdv A outer s H vs Q E hr h => ?_)
 ·obtain ⟨a,b,rfl,_⟩:=h
  rfl
 ·obtain ⟨t,b,rfl,ht,hb,hs,k⟩:=h
  refine ⟨_,aD (aI (i:=2) aD0.nd rfl (Or.inl rfl) (aH cG hr rfl aQ (aA (pv 0) (aA (pv 1) aC))))
   (aE (aO (aY (aA (aV gN (pv 0) (pv 2)) (aA (aV gN (pv 1) (pv 2)) aC))))),?_⟩
  refine ⟨_,rfl,_,rfl,t,b,rfl,ht,by omega,?_⟩
  have g:=nE (t:=t) hb hs
  refine ⟨_,rfl,_,rfl,_,_,rfl,rfl,g,_,rfl,_,rfl,_,_,rfl,rfl,g,(by show 2<=sizeLine; decide),fun p hp => ?_⟩
  exact k p _ (Same.upd hp) aB
theorem b6 {n:Nat}{x:Int}(h:Bt n x)(hn:n<=1000000:=by decide):Bt 1000000 x:=h.mono hn
end
theorem hW (n:Nat){x c:Int}(h0:0<=x)(h:x < c)(hc:c<=((2 ^ n:Nat):Int):=by decide +kernel):Bt n x:=by
 show x.natAbs < 2 ^ n
 omega
theorem gZ (x:Int){m:Int}(h:0 < m):0<=x % m/\x % m < m:=⟨Int.emod_nonneg x (by omega),Int.emod_lt_of_pos x h⟩
def jM:Sp:=fun vs H Q _=>∃ n:Int,vs=[.int n]/\Q (.bl true) H
def tS (K:PySem.W.Frag):Sp:=fun vs H Q _=>∃ (p:Addr) (t b:Int),vs=[.ref p]/\SqT K H p [.int t,.int b]/\Amt t b/\Q (.bl true) H
structure Txt (mg:Str->Option Value):Prop where
 isi:mg "isinstance" = none
 int':mg "int" = none
 bool':mg "bool" = none
 tup':mg "tuple" = none
 len:mg "len" = none
 range:mg "range" = none
 min':mg "min" = none
 str':mg "str" = none
 abs':mg "abs" = none
 list':mg "list" = none
 sum':mg "sum" = none
 zip':mg "zip" = none
 enum':mg "enumerate" = none
 all':mg "all" = none
 sorted':mg "sorted" = none
 rev':mg "reversed" = none
 dict':mg "dict" = none
section
variable {P:Program}{w:World}{K:PySem.W.Frag}{mg:Str->Option Value}{base:Heap}
theorem aD4:FnScope ["_law_one","_law_other"] ["_law_one","_law_other"] (aG sDiv):=⟨rfl,rfl,rfl,by decide +kernel,rfl,by decide +kernel,by decide +kernel⟩
theorem aE3 {f:Addr}{fd:FuncData}(F:Fun K "_law_divisor" "_law_divisor" sDiv f fd):FnOk P w K mg base CX0 1 f fd ["_law_one","_law_other"] oW:=by
 refine F.ok aD4 (fun vs H Q E h => ?_) (fun cdv A outer s H vs Q E hr h => ?_)
 ·obtain ⟨a,b,rfl,_⟩:=h
  rfl
 ·obtain ⟨a,b,rfl,ha,hb,k⟩:=h
  refine ⟨_,aD (jH PassesOwn.never (aK pH (pv 1) aF (aT _))
   (aE (aEj (i:=0) (j:=1) rfl aD4.nd rfl rfl (by decide) rfl rfl (aA (pv 1) (aA (aV eV (pv 0) (pv 1)) aC)) rfl)))
   (aE (aO (pv 0))),?_⟩
  refine pT (fun σ H'=>H'=H/\∃ (x y:Int),σ=[some (.int x),some (.int y)]/\0<=x/\0<=y/\G x y=G a b) (fun σ _=>match σ with | [_,some (.int y)]=>y.toNat | _=>0) ⟨rfl,a,b,rfl,ha,hb,rfl⟩ ?_ ?_
  ·rintro σ H' ⟨rfl,x,y,rfl,hx,hy,e⟩
   refine ⟨_,rfl,_,_,rfl,rfl,_,rfl,?_⟩
   refine ite2 (fun hc => ?_) (fun hc => ?_)
   ·have hy0:0 < y:=of_decide_eq_true hc
    have t:=qQ e hy (by omega)
    refine ⟨_,rfl,_,rfl,_,rfl,_,_,rfl,rfl,(by show 0 < y; omega),_,_,rfl,⟨rfl,y,x % y,rfl,hy,t.1,t.2⟩,?_⟩
    have:=Int.emod_lt_of_pos x (show 0 < y by omega)
    have:=t.1
    show (x % y).toNat < y.toNat
    omega
   ·have hy0:y=0:=by
     have : ¬ 0 < y:=fun z=>hc (decide_eq_true z)
     omega
    subst hy0
    rw [aAv hx] at e
    exact ⟨_,rfl,by rw [e]; exact k⟩
  ·rintro σ H' Q1 Q2 hq ⟨v,e,i,j,e1,e2,z,ez,q⟩
   exact ⟨v,e,i,j,e1,e2,z,ez,hq _ _ q⟩
theorem aAa:FnScope ["_law_top","_law_bottom","_law_by"] ["_law_top","_law_bottom"] (aG sLlow):=⟨rfl,rfl,rfl,by decide +kernel,rfl,by decide +kernel,by decide +kernel⟩
theorem aCf {f:Addr}{fd:FuncData}(F:Fun K "_law_low" "_law_low" sLlow f fd)(cG:Cal P w K mg base CX0 1 "_law_divisor" ["_law_one","_law_other"] oW):FnOk P w K mg base CX0 2 f fd ["_law_top","_law_bottom"] gS:=by
 refine F.ok aAa (fun vs H Q E h => ?_) (fun cdv A outer s H vs Q E hr h => ?_)
 ·obtain ⟨a,b,rfl,_⟩:=h
  rfl
 ·obtain ⟨t,b,rfl,ht,hb,hs,k⟩:=h
  refine ⟨_,aD (aI (i:=2) aAa.nd rfl (Or.inl rfl) (aH cG hr rfl aQ (aA (pv 0) (aA (pv 1) aC))))
   (aE (aO (aY (aA (aV gN (pv 0) (pv 2)) (aA (aV gN (pv 1) (pv 2)) aC))))),?_⟩
  refine ⟨_,rfl,_,rfl,t,b,rfl,ht,by omega,?_⟩
  have g:=nE (t:=t) hb hs
  refine ⟨_,rfl,_,rfl,_,_,rfl,rfl,g,_,rfl,_,rfl,_,_,rfl,rfl,g,(by show 2<=sizeLine; decide),fun p hp => ?_⟩
  exact k p _ (Same.upd hp) aB
theorem wK:bootBuiltins "int" = some (.type "int"):=by decide +kernel
theorem aC1:bootBuiltins "bool" = some (.type "bool"):=by decide +kernel
theorem eD:bootBuiltins "tuple" = some (.type "tuple"):=by decide +kernel
theorem aBf:FnScope ["_law_found"] ["_law_found"] (aG sWhole):=⟨rfl,rfl,rfl,by decide +kernel,rfl,by decide +kernel,by decide +kernel⟩
theorem xU {f:Addr}{fd:FuncData}(F:Fun K "_law_whole" "_law_whole" sWhole f fd)(T:Txt mg):FnOk P w K mg base CX0 1 f fd ["_law_found"] jM:=by
 refine F.ok aBf (fun vs H Q E h => ?_) (fun cdv A outer s H vs Q E hr h => ?_)
 ·obtain ⟨_,rfl,_⟩:=h
  rfl
 ·obtain ⟨n,rfl,k⟩:=h
  refine ⟨_,aE (aO (uK (aS fQ rfl T.isi boot_isinstance (aA (pv 0) (aA (gB (v:=.ty "int") rfl T.int' wK rfl) aC)))
   (mW (aEq (aS fQ rfl T.isi boot_isinstance (aA (pv 0) (aA (gB (v:=.ty "bool") rfl T.bool' aC1 rfl) aC))))))),?_⟩
  refine ⟨_,rfl,_,"int",true,rfl,.int_int,_,rfl,iteT ?_⟩
  exact ⟨_,rfl,_,"bool",false,rfl,.int_bool,_,rfl,k⟩
theorem aD2:FnScope ["_law_found"] ["_law_found"] (aG sIsAm):=⟨rfl,rfl,rfl,by decide +kernel,rfl,by decide +kernel,by decide +kernel⟩
theorem aCj {f:Addr}{fd:FuncData}(F:Fun K "_law_is_amount" "_law_is_amount" sIsAm f fd)(T:Txt mg)(cW:Cal P w K mg base CX0 1 "_law_whole" ["_law_found"] jM)
  (cG:Cal P w K mg base CX0 1 "_law_divisor" ["_law_one","_law_other"] oW):FnOk P w K mg base CX0 2 f fd ["_law_found"] (tS K):=by
 refine F.ok aD2 (fun vs H Q E h => ?_) (fun cdv A outer s H vs Q E hr h => ?_)
 ·obtain ⟨_,_,_,rfl,_⟩:=h
  rfl
 ·obtain ⟨p,t,b,rfl,hs,am,k⟩:=h
  refine ⟨_,aD (bF (PW.pt (fW (fS (eO (aS fQ rfl T.isi boot_isinstance (aA (pv 0) (aA (gB (v:=.ty "tuple") rfl T.tup' eD rfl) aC)))))
    (eU (aK gD (aS aW rfl T.len PySem.boot_len (aA (pv 0) aC)) aF (aT _))))) (aE (aO jV)) aU)
   (aD (bF (PW.pt (fW (fS (eO (aH cW hr rfl aQ (aA (pit 0 0) aC)))) (fW (fS (eO (aH cW hr rfl aQ (aA (pit 0 1) aC))))
     (fW (aK jX (pit 0 0) aF (aT _)) (eU (aK jX (pit 0 1) aF (aT _))))))) (aE (aO jV)) aU)
   (aE (aO (fK eG (aH cG hr rfl aQ (aA (pit 0 0) (aA (pit 0 1) aC))) aF (aT _))))),?_⟩
  refine ⟨_,rfl,_,"tuple",true,rfl,.tup_tuple hs,_,rfl,iteF ?_⟩
  refine ⟨_,rfl,p,_,rfl,.inr hs,rfl,_,rfl,iteF ?_⟩
  have a0:=am.t0
  have a1:=am.b1
  refine ⟨p,_,_,rfl,hs,rfl,_,rfl,_,rfl,iteF ⟨p,_,_,rfl,hs,rfl,_,rfl,_,rfl,iteF ?_⟩⟩
  refine ⟨p,_,_,rfl,hs,rfl,_,_,rfl,rfl,_,rfl,?_⟩
  rw [decide_eq_false (by omega)]
  refine iteF ⟨p,_,_,rfl,hs,rfl,_,_,rfl,rfl,_,rfl,?_⟩
  rw [decide_eq_false (by omega)]
  refine iteF ?_
  refine ⟨p,_,_,rfl,hs,rfl,p,_,_,rfl,hs,rfl,t,b,rfl,a0,by omega,rfl,?_⟩
  rw [am.g]
  exact k
theorem aFo:bootBuiltins "str" = some (.type "str"):=by decide +kernel
end
theorem bl {c:Int}(h0:0<=c:=by decide)(h:c < 18446744073709551616:=by decide):Bt 1000000 c:=b6 (hW 64 h0 h)
theorem bk {c:Int}(h0:0<=c:=by decide)(h:c < 18446744073709551616:=by decide):Bt 1000 c:=(hW 64 h0 h).mono (by decide)
end K25
namespace K25
open PySem PySem.Spec PyProof.Rows L2 GM TM
def SmB (a:Addr)(H H':Hp):Prop:=∀ b o,b ≠ a->H b=some o->H' b=some o
theorem SmB.refl {a:Addr}{H:Hp}:SmB a H H:=fun _ _ _ h=>h
theorem SmB.trans {a:Addr}{H H1 H2:Hp}(h:SmB a H H1)(k:SmB a H1 H2):SmB a H H2:=fun b o n e=>k b o n (h b o n e)
theorem SmB.of {a:Addr}{H H':Hp}(h:Same H H'):SmB a H H':=fun b o _ e=>h b o e
theorem SmB.upd {a:Addr}{H:Hp}{o:HO}:SmB a H (upd H a o):=fun b u n e=>by rw [aL n]; exact e
theorem SmB.same {a:Addr}{H H':Hp}(h:SmB a H H')(n:H a=none):Same H H':=fun b o e=>h b o (fun z=>by rw [z,n] at e; cases e) e
def Lf (H:Hp)(a:Addr):Prop:=∃ n fl:Int,H a=some (.lst [.int n,.int fl])/\0<=n/\(fl=0\/(fl=1/\n < 2147483647))
theorem aEn (k:Bool):atI [V.int 1,V.int 8] (if k=true then 1 else 0)=some (V.int (if k=true then 8 else 1)):=by cases k <;> rfl
theorem aBv (k:Bool) : -(2 ^ 62)<=(if k=true then (8:Int) else 1)/\(if k=true then (8:Int) else 1) < 2 ^ 62/\(if k=true then (8:Int) else 1).toNat<=8:=by cases k <;> decide
def tT (K:PySem.W.Frag):Sp:=fun vs H Q _=>∃ (a:Addr) (ns:List Int) (k:Int),vs=[.ref a,.int k]/\SqL K H a (ns.map V.int)/\0<=k/\∀ c:Int,Q (.int c) H
def mM (K:PySem.W.Frag):Sp:=fun vs H Q _=>∃ (a:Addr) (ns:List Int) (k:Int),vs=[.ref a,.int k]/\SqL K H a (ns.map V.int)/\0<=k/\k<=63/\∀ p H',Same H H'->H p=none->Lf H' p->Q (.ref p) H'
def gR:Sp:=fun vs H Q _=>∃ (a:Addr) (m:Int),vs=[.ref a,.int m]/\Lf H a/\1<=m/\Bt 9000 m/\∀ (d:Int) H',0<=d->d < m->SmB a H H'->Lf H' a->Q (.int d) H'
section
variable {P:Program}{w:World}{K:PySem.W.Frag}{mg:Str->Option Value}{base:Heap}
theorem aD5:FnScope ["_law_script","_law_k"] ["_law_script","_law_k"] (aG sCell):=⟨rfl,rfl,rfl,by decide +kernel,rfl,by decide +kernel,by decide +kernel⟩
theorem aCl {f:Addr}{fd:FuncData}(F:Fun K "_law_cell_at" "_law_cell_at" sCell f fd)(T:Txt mg):FnOk P w K mg base CX0 1 f fd ["_law_script","_law_k"] (tT K):=by
 refine F.ok aD5 (fun vs H Q E h => ?_) (fun cdv A outer s H vs Q E hr h => ?_)
 ·obtain ⟨_,_,_,rfl,_⟩:=h
  rfl
 ·obtain ⟨a,ns,j,rfl,hS,h0,k⟩:=h
  refine ⟨_,(aD (bF (aK jX (pv 1) (aS aW rfl T.len PySem.boot_len (aA (pv 0) aC)) (aT _))
    (aE (aO (dG cI (pv 0) (pv 1) (fun _ _=>rfl))))
    aU)
   (aE (aO aF))),?_⟩
  refine ⟨_,rfl,_,rfl,a,_,rfl,.inl hS,_,_,rfl,rfl,_,rfl,ite2 (fun hc => ?_) (fun _=>k _)⟩
  have hc':j < ((ns.map V.int).length:Int):=of_decide_eq_true hc
  rw [List.length_map] at hc'
  obtain ⟨i,rfl⟩:=Int.eq_ofNat_of_zero_le h0
  obtain ⟨c,hc⟩ : ∃ c,ns[i]?=some c:=⟨_,List.getElem?_eq_getElem (show i < ns.length by omega)⟩
  exact ⟨_,rfl,_,rfl,a,_,(i:Int),.int c,rfl,rfl,hS,bG (by rw [List.getElem?_map,hc]; rfl),k c⟩
theorem aFp:bootBuiltins "abs" = some (.builtin "abs"):=by decide +kernel
theorem uA:FnScope ["_law_script","_law_k","_law_cell","_law_number"] ["_law_script","_law_k"] (aG sLeft):=⟨rfl,rfl,rfl,by decide +kernel,rfl,by decide +kernel,by decide +kernel⟩
theorem aCh {f:Addr}{fd:FuncData}(F:Fun K "_law_left" "_law_left" sLeft f fd)(T:Txt mg)(cC:Cal P w K mg base CX0 1 "_law_cell_at" ["_law_script","_law_k"] (tT K)):FnOk P w K mg base CX0 2 f fd ["_law_script","_law_k"] (mM K):=by
 refine F.ok uA (fun vs H Q E h => ?_) (fun cdv A outer s H vs Q E hr h => ?_)
 ·obtain ⟨_,_,_,rfl,_⟩:=h
  rfl
 ·obtain ⟨a,ns,j,rfl,hS,h0,h63,k⟩:=h
  refine ⟨_,(aD (aI (i:=2) uA.nd rfl (Or.inl rfl) (aS zR rfl T.abs' aFp (aA (aH cC hr rfl aQ (aA (pv 0) (aA (pv 1) aC))) aC)))
   (aD (bF (aK eG (aV eV (aH cC hr rfl aQ (aA (pv 0) (aA aF aC))) aF) aF (aT _))
    (aE (aO (bC (aA (aV gN (pv 2) (aV cX aF (bJ nZ rfl T.int' wK (aA (fK eG (pv 1) aF (aT _)) aC)))) (aA aF aC)))))
    aU)
   (aD (aI (i:=3) uA.nd rfl (Or.inl rfl) (aV eV (aV bA (aV cX (aV cX (aV eV (pv 2) aF) (aV bA (aV bA aF (pv 1)) (pv 1))) aF) aF) aF))
   (aE (aO (bC (aA (aV cX (aV eV (aV bA (pv 3) aF) aF) aF) (aA aF aC)))))))),?_⟩
  refine ⟨_,rfl,_,rfl,a,ns,j,rfl,hS,h0,fun c=>⟨c,rfl,?_⟩⟩
  have ha:0<=(if c < 0 then -c else c):=by split <;> omega
  generalize (if c < 0 then -c else c)=n at *
  refine ⟨_,rfl,a,ns,0,rfl,hS,by decide,fun c'=>⟨_,_,rfl,rfl,(by show (0:Int) < 2; decide),rfl,_,rfl,ite2 (fun _ => ?_) (fun _ => ?_)⟩⟩
  ·refine ⟨_,rfl,_,rfl,rfl,.inr ⟨_,rfl,_,_,rfl,rfl,_,_,rfl,rfl,⟨?_,?_⟩,(by show 2<=sizeLine; decide),fun z hz => ?_⟩⟩
   ·split <;> decide
   ·split <;> exact (hW 64 (c:=4) (by decide) (by decide)).mono (by decide)
   ·refine k z _ (Same.upd hz) hz ⟨_,0,aB,Int.ediv_nonneg ha ?_,.inl rfl⟩
    split <;> decide
  ·have bj:Bt 6 j:=hW 6 (c:=64) h0 (by omega)
   have p1:Bt 70 (7919*j):=(hW 64 (x:=7919) (c:=7920) (by decide) (by decide)).mul bj
   have e1:=gZ n (show (0:Int) < 2147483647 by decide)
   have bs:Bt 1000000 (n % 2147483647+7919*j*j+1):=b6 ((((hW 76 e1.1 e1.2).add (p1.mul bj)).add (hW 77 (c:=2) (by decide) (by decide))))
   refine ⟨_,rfl,_,_,rfl,rfl,(by show (0:Int) < 2147483647; decide),_,rfl,_,_,rfl,rfl,⟨bl,b6 bj⟩,_,rfl,_,_,rfl,rfl,⟨b6 p1,b6 bj⟩,_,_,rfl,rfl,_,_,rfl,rfl,_,_,rfl,rfl,⟨bs,bl⟩,_,_,rfl,rfl,(by show (0:Int) < 2147483647; decide),?_⟩
   have e2:=gZ ((n % 2147483647+7919*j*j+1)*48271) (show (0:Int) < 2147483647 by decide)
   refine ⟨_,rfl,_,_,rfl,rfl,⟨b6 (hW 64 e2.1 e2.2),bl⟩,_,_,rfl,rfl,(by show (0:Int) < 2147483629; decide),_,_,rfl,rfl,(by show 2<=sizeLine; decide),fun z hz => ?_⟩
   have e3:=gZ ((n % 2147483647+7919*j*j+1)*48271 % 2147483647*69621) (show (0:Int) < 2147483629 by decide)
   exact k z _ (Same.upd hz) hz ⟨_,1,aB,by omega,.inr ⟨rfl,by omega⟩⟩
theorem mR:FnScope ["_law_left_here","_law_many","_law_digit","_law_turn"] ["_law_left_here","_law_many"] (aG sNext):=⟨rfl,rfl,rfl,by decide +kernel,rfl,by decide +kernel,by decide +kernel⟩
theorem aCe {f:Addr}{fd:FuncData}(F:Fun K "_law_next" "_law_next" sNext f fd)(T:Txt mg):FnOk P w K mg base CX0 1 f fd ["_law_left_here","_law_many"] gR:=by
 refine F.ok mR (fun vs H Q E h => ?_) (fun cdv A outer s H vs Q E hr h => ?_)
 ·obtain ⟨_,_,rfl,_⟩:=h
  rfl
 ·obtain ⟨a,m,rfl,⟨n,fl,ha,n0,hf⟩,m1,bm,k⟩:=h
  refine ⟨_,(aD (bF (aK eG (dG cI (pv 0) aF (fun _ _=>rfl)) aF (aT _))
    (aD (aI (i:=2) mR.nd rfl (Or.inl rfl) (aV eV (dG cI (pv 0) aF (fun _ _=>rfl)) (pv 1)))
   (aD (uH (aV gN (dG cI (pv 0) aF (fun _ _=>rfl)) (pv 1)) (aAe (pv 0) aF pX))
   (aE (aO (pv 2)))))
    aU)
   (aD (aI (i:=2) mR.nd rfl (Or.inl rfl) aF)
   (aD (bL PassesOwn.never rfl (eF rfl T.range (aA (dG cI (bC (aA aF (aA aF aC))) (bJ nZ rfl T.int' wK (aA (fK pH (pv 1) (aV jW aF aF) (aT _)) aC)) (fun _ _=>rfl)) aC)) (aJ (i:=3) mR.nd rfl (Or.inl rfl))
    (aD (uH (aV eV (aV bA (dG cI (pv 0) aF (fun _ _=>rfl)) aF) aF) (aAe (pv 0) aF pX))
   (aE (aI (i:=2) mR.nd rfl (Or.inl rfl) (aV cX (aV bA (pv 2) aF) (aV eV (aV bA (dG cI (pv 0) aF (fun _ _=>rfl)) aF) aF))))))
   (aE (aO (aV eV (pv 2) (pv 1))))))),?_⟩
  refine ⟨_,rfl,a,_,1,.int fl,rfl,rfl,SqL.of ha,bG (j:=1) rfl,rfl,_,rfl,ite2 (fun hc => ?_) (fun hc => ?_)⟩
  ·have hc':fl=0:=V.int.inj (of_decide_eq_true hc)
   refine ⟨_,rfl,a,_,0,.int n,rfl,rfl,SqL.of ha,bG (j:=0) rfl,_,rfl,_,_,rfl,rfl,(by show 0 < m; omega),?_⟩
   refine ⟨_,rfl,a,_,0,.int n,rfl,rfl,SqL.of ha,bG (j:=0) rfl,_,rfl,_,_,rfl,rfl,⟨by omega,bm⟩,_,rfl,a,_,0,0,rfl,rfl,ha,rfl,?_⟩
   have e:=gZ n (show (0:Int) < m by omega)
   exact ⟨_,rfl,k _ _ e.1 e.2 SmB.upd ⟨_,fl,aB,Int.ediv_nonneg n0 (by omega),.inl hc'⟩⟩
  ·have hf':fl=1/\n < 2147483647:=hf.resolve_left fun z=>hc (decide_eq_true (by rw [z]))
   obtain ⟨rfl,nl⟩:=hf'
   refine ⟨(by show 2<=sizeLine; decide),fun z hz=>⟨_,rfl,_,_,rfl,rfl,⟨by decide,by decide,bk⟩,_,_,rfl,rfl,.inr ⟨_,rfl,z,_,_,_,rfl,rfl,SqL.of aB,aEn _,_,rfl,(aBv _).1,(aBv _).2.1,?_⟩⟩⟩
   refine dU (fun i σ H'=>∃ (d n':Int) (t:Option V),σ=[some (.ref a),some (.int m),some (.int d),t]/\0<=d/\Bt (32*i+1) d/\SmB a H H'/\H' a=some (.lst [.int n',.int 1])/\0<=n'/\n' < 2147483647)
    ⟨0,n,none,rfl,by decide,hW 1 (c:=1) (by decide) (by decide),.of (Same.upd hz),(Same.upd hz) _ _ ha,n0,nl⟩ ?_ ?_
   ·rintro i σ H' hi ⟨d,n',t,rfl,d0,bd,sm,hA,a0,al⟩
    have hi8:=Nat.lt_of_lt_of_le hi (aBv _).2.2
    have e1:=gZ (n'*16807) (show (0:Int) < 2147483647 by decide)
    refine ⟨_,rfl,a,_,0,.int n',rfl,rfl,SqL.of hA,bG (j:=0) rfl,_,_,rfl,rfl,⟨b6 (hW 64 a0 al),bl⟩,_,_,rfl,rfl,(by show (0:Int) < 2147483647; decide),_,rfl,a,_,0,0,rfl,rfl,hA,rfl,?_⟩
    have e2:=gZ (n'*16807 % 2147483647*40692) (show (0:Int) < 2147483629 by decide)
    refine ⟨_,rfl,_,_,rfl,rfl,⟨b6 (bd.mono (show 32*i+1<=300 by omega)),bl⟩,_,rfl,a,_,0,.int (n'*16807 % 2147483647),rfl,rfl,SqL.of aB,bG (j:=0) rfl,_,_,rfl,rfl,⟨b6 (hW 64 e1.1 e1.2),bl⟩,_,_,rfl,rfl,(by show (0:Int) < 2147483629; decide),_,_,rfl,rfl,?_⟩
    refine ⟨_,_,_,rfl,?_,?_,sm.trans SmB.upd,aB,e1.1,e1.2⟩
    ·have:=Int.mul_nonneg d0 (show (0:Int)<=2147483629 by decide)
     omega
    ·have b1:Bt (32*i+32) (d*2147483629):=(bd.mul (hW 31 (x:=2147483629) (c:=2147483630) (by decide) (by decide))).mono (by omega)
     exact (b1.add ((hW 31 e2.1 e2.2).mono (by omega))).mono (by omega)
   ·rintro σ H' ⟨d,n',t,rfl,d0,bd,sm,hA,a0,al⟩
    have e:=gZ d (show (0:Int) < m by omega)
    exact ⟨_,rfl,_,rfl,_,_,rfl,rfl,(by show 0 < m; omega),k _ _ e.1 e.2 sm ⟨n',1,hA,a0,.inr ⟨rfl,al⟩⟩⟩
end
end K25
namespace L2
open PySem PySem.Spec PyProof.Rows PySem.W
section
variable {X:Cx}
theorem aCp:MtR X "str.find" (fun z vs H Q=>∃ x y,z = .str x/\vs=[.str y]/\Q (.int (Txt.find x y)) H):=by
 intro pins s σ H z vs v us Q I rx rv h
 obtain ⟨x,y,rfl,rfl,q⟩:=h
 obtain ⟨t,rfl⟩:=rx
 obtain ⟨u,rfl,tu,rfl⟩:=rv.one
 refine call_gives PySem.F.slot_str_find (typeIs_str _ _ _) PySem.F.entry_str_find (PySem.F.args_str_find_2 _ _) (gives_str_find x y t tu) ?_
 exact ⟨.int _,H,I.tok _,⟨_,rfl⟩,q⟩
end
end L2
namespace TM
open PySem PySem.Spec PyProof.Rows PySem.W
theorem aEm {α:Type}[BEq α][LawfulBEq α](f:Nat->α) : ∀ (j:Nat) (l:List α),(∀ i,i < j->f i ∈ l)->(∀ i k,i < j->k < j->f i=f k->i=k)->j<=l.length:=by
 intro j
 induction j with
 | zero =>
  intro l _ _
  exact Nat.zero_le _
 | succ j ih =>
  intro l hm hi
  have h1:=hm j (Nat.lt_succ_self _)
  have:=ih (l.erase (f j)) (fun i hij=>(List.mem_erase_of_ne (fun e=>by
   have:=hi i j (by omega) (by omega) e
   omega)).mpr (hm i (by omega))) (fun i k a b e=>hi i k (by omega) (by omega) e)
  rw [List.length_erase_of_mem h1] at this
  have:0 < l.length:=List.length_pos_of_mem h1
  omega
def rd (c j:Nat):Nat:=97+(c - 97+j) % 26
theorem aEa (c j:Nat):97<=rd c j/\rd c j<=122:=by
 unfold rd
 omega
theorem aBm {c:Nat}(h:97<=c/\c<=122):rd c 0=c:=by
 unfold rd
 omega
theorem aBn (c j:Nat):rd (rd c j) 1=rd c (j+1):=by
 unfold rd
 omega
theorem aD9 {c i k:Nat}(hi:i < 26)(hk:k < 26)(e:rd c i=rd c k):i=k:=by
 unfold rd at e
 omega
abbrev LET:Str := "abcdefghijklmnopqrstuvwxyz"
theorem zK {c:Nat}(h:97<=c/\c<=122):Txt.find LET ⟨#[c]⟩=((c - 97:Nat):Int):=by
 have all : ∀ k:Fin 26,Txt.find LET ⟨#[97+k.val]⟩=((k.val:Nat):Int):=by decide +kernel
 have:=all ⟨c - 97,by omega⟩
 simp only at this
 rw [show 97+(c - 97)=c by omega] at this
 exact this
theorem aAt {j:Nat}(h:j < 26):(cps LET)[j]?=some (97+j):=by
 have all : ∀ k:Fin 26,(cps LET)[k.val]?=some (97+k.val):=by decide +kernel
 exact all ⟨j,h⟩
end TM
namespace K25
open PySem PySem.Spec PyProof.Rows L2 GM TM
theorem Lf.keep {H H':Hp}{a:Addr}(h:Lf H a)(s:Same H H'):Lf H' a:=by
 obtain ⟨n,fl,e,r⟩:=h
 exact ⟨n,fl,s _ _ e,r⟩
theorem lenC (x:Str):x.length=(cps x).length:=by simp [Str.length,cps]
theorem lenA (x y:Str):(x ++ y).length=x.length+y.length:=by rw [lenC,hJ,List.length_append,<- lenC,<- lenC]
theorem mI {n:Nat}(h:n<=1000):n<=sizeLine:=Nat.le_trans h (by decide)
theorem rJ {x:Str}(h:1<=x.length):cps (Txt.slice x (some 1) none)=(cps x).drop 1:=by
 have e:Txt.slice x (some 1) none=StrLaws.sliceText x (some 1) none:=rfl
 rw [e,StrLaws.sliceText_from ⟨by decide,by rw [<- lenC]; omega⟩]
 simp [cps]
 exact List.take_of_length_le (by simp)
structure Wr (x:Str):Prop where
 l1:1<=x.length
 l8:x.length<=8
 lt : ∀ c ∈ cps x,97<=c/\c<=122
theorem dR {x:Str}{ws:List Str}:inV (.str x) (ws.map V.str)=true ↔ x ∈ ws:=by
 unfold inV
 rw [List.any_map,List.any_eq_true]
 constructor
 ·rintro ⟨y,hy,e⟩
  have:y=x:=by simpa [eqV] using e
  exact this ▸ hy
 ·intro h
  exact ⟨x,h,by simp [eqV]⟩
theorem dM (ws:List Str):(ws.map V.str).all eY=true:=by
 rw [List.all_map,List.all_eq_true]
 intro x _
 rfl
theorem aA0 (j:Nat)(h:j < 4) : ∃ m:Int,([V.int 26,V.int 2,V.int 26,V.int 3])[j]?=some (V.int m)/\1<=m/\m<=26:=by
 have:j=0\/j=1\/j=2\/j=3:=by omega
 rcases this with rfl | rfl | rfl | rfl
 ·exact ⟨26,rfl,by decide,by decide⟩
 ·exact ⟨2,rfl,by decide,by decide⟩
 ·exact ⟨26,rfl,by decide,by decide⟩
 ·exact ⟨3,rfl,by decide,by decide⟩
theorem SmB.own {a p:Addr}{H H':Hp}{o:HO}(h:SmB a H H')(n:H p=none):SmB a H (L2.upd H' p o):=fun b u nb e=>by
 have ne:b ≠ p:=fun z=>by rw [z,n] at e; cases e
 rw [aL ne]
 exact h b u nb e
theorem Lf.there {H:Hp}{a b:Addr}(h:Lf H a)(n:H b=none):b ≠ a:=fun z=>by
 obtain ⟨_,_,e,_⟩:=h
 rw [<- z,n] at e
 cases e
theorem Lf.own {H:Hp}{a p:Addr}{o:HO}(h:Lf H a)(n:p ≠ a):Lf (upd H p o) a:=by
 obtain ⟨m,fl,e,r⟩:=h
 exact ⟨m,fl,by rw [aL (Ne.symm n)]; exact e,r⟩
theorem iO {ws:List Str}{x:Str}(h:ws.Nodup)(n:x ∉ ws):(ws ++ [x]).Nodup:=by
 rw [List.nodup_append]
 refine ⟨h,by simp,fun y hy z hz e => ?_⟩
 rw [List.mem_singleton.mp hz] at e
 exact n (e ▸ hy)
def oR:Sp:=fun vs H Q _=>∃ (a:Addr) (m:Int),vs=[.ref a,.int m]/\Lf H a/\0<=m/\m<=20/\∀ (ws:List Str) p H',(ws.length:Int)=m->ws.Nodup->(∀ x ∈ ws,Wr x)->SmB a H H'->Lf H' a->H p=none->H' p=some (.lst (ws.map V.str))->Q (.ref p) H'
section
variable {P:Program}{w:World}{K:PySem.W.Frag}{mg:Str->Option Value}{base:Heap}
theorem fF:FnScope ["_law_left_here","_law_many","_law_letters","_law_wide","_law_names_here","_law_k","_law_word","_law_j"] ["_law_left_here","_law_many"] (aG sNames):=⟨rfl,rfl,rfl,by decide +kernel,rfl,by decide +kernel,by decide +kernel⟩
theorem yD {f:Addr}{fd:FuncData}(F:Fun K "_law_names" "_law_names" sNames f fd)(T:Txt mg)(cN:Cal P w K mg base CX0 1 "_law_next" ["_law_left_here","_law_many"] gR):FnOk P w K mg base CX0 2 f fd ["_law_left_here","_law_many"] oR:=by
 refine F.ok fF (fun vs H Q E h => ?_) (fun cdv A outer s H vs Q E hr h => ?_)
 ·obtain ⟨_,_,rfl,_⟩:=h
  rfl
 ·obtain ⟨a,m,rfl,lf,m0,m20,k⟩:=h
  refine ⟨_,(aD (aI (i:=2) fF.nd rfl (Or.inl rfl) bX)
   (aD (aI (i:=3) fF.nd rfl (Or.inl rfl) (dG cI (bC (aA aF (aA aF (aA aF (aA aF aC))))) (aH cN hr rfl aQ (aA (pv 0) (aA aF aC))) (fun _ _=>rfl)))
   (aD (aI (i:=4) fF.nd rfl (Or.inl rfl) (bC aC))
   (aD (bL PassesOwn.never rfl (eF rfl T.range (aA (pv 1) aC)) (aJ (i:=5) fF.nd rfl (Or.inl rfl))
    (aD (aI (i:=6) fF.nd rfl (Or.inl rfl) bX)
    (aD (bL PassesOwn.never rfl (eF rfl T.range (aA (aV cX aF (aH cN hr rfl aQ (aA (pv 0) (aA aF aC)))) aC)) (aJ (i:=7) fF.nd rfl (Or.inl rfl))
     (aE (aI (i:=6) fF.nd rfl (Or.inl rfl) (aV kS (pv 6) (dG qP (pv 2) (aH cN hr rfl aQ (aA (pv 0) (aA (pv 3) aC))) (fun _ _=>rfl))))))
    (aD (jH PassesOwn.never (aK eW (pv 6) (pv 4) rfl)
     (aE (aI (i:=6) fF.nd rfl (Or.inl rfl) (aV kS (dG qP (pv 2) (aV eV (aV cX (eT PySem.F.plainAttrs_str PySem.F.slot_str_find PySem.F.type_str_find aCp (pv 2) (aA (dG qP (pv 6) aF (fun _ _=>rfl)) aC)) aF) aF) (fun _ _=>rfl)) (fH aDv (pv 6) (gA aF) iN)))))
    (aE (bZ (eT PySem.F.plainAttrs_list PySem.F.slot_list_append PySem.F.type_list_append bY (pv 4) (aA (pv 6) aC))))))))
   (aE (aO (pv 4))))))),?_⟩
  have bs : ∀ {i:Int},0<=i->i < 100->Bt 9000 i:=fun h0 h=>hW 9000 (c:=100) h0 h
  have zL:LET.length<=sizeLine:=by decide +kernel
  refine ⟨(by show 4<=sizeLine; decide),fun z hz=>⟨_,rfl,a,4,rfl,lf.keep (Same.upd hz),by decide,bs (by decide) (by decide),fun d H1 d0 dl s1 lf1 => ?_⟩⟩
  have za:z ≠ a:=lf.there hz
  obtain ⟨dn,rfl⟩:=Int.eq_ofNat_of_zero_le d0
  obtain ⟨wd,hw,w1,w26⟩:=aA0 dn (by omega)
  refine ⟨z,_,(dn:Int),.int wd,rfl,rfl,SqL.of (s1 z _ za aB),bG hw,(by show 0<=sizeLine; decide),fun p hp => ?_⟩
  have pa:p ≠ a:=lf1.there hp
  have s01:SmB a H H1:=(SmB.of (Same.upd hz)).trans s1
  have pn:H p=none:=by
   cases e:H p with
   | none=>rfl
   | some o =>
    have:=s01 p o pa e
    rw [hp] at this
    cases this
  refine ⟨_,rfl,m,rfl,by omega,by omega,?_⟩
  refine dU (fun i σ H'=>∃ (ws:List Str) (v5 v6 v7:Option V),σ=[some (.ref a),some (.int m),some (.str LET),some (.int wd),some (.ref p),v5,v6,v7]/\ws.length=i/\ws.Nodup/\(∀ x ∈ ws,Wr x)/\SmB a H H'/\Lf H' a/\H' p=some (.lst (ws.map V.str)))
   ⟨[],none,none,none,rfl,rfl,List.nodup_nil,(fun _ h=>nomatch h),s01.own pn,lf1.own pa,aB⟩ ?_ ?_
  ·rintro i σ H2 hi ⟨ws,v5,v6,v7,rfl,wl,nd,wr,s2,lf2,hp2⟩
   refine ⟨_,rfl,a,8,rfl,lf2,by decide,bs (by decide) (by decide),fun e H3 e0 el s3 lf3=>⟨_,_,rfl,rfl,1+e,rfl,by omega,by omega,?_⟩⟩
   refine dU (fun j σ H'=>∃ (x:Str) (v7:Option V),σ=[some (.ref a),some (.int m),some (.str LET),some (.int wd),some (.ref p),some (.int (0+i)),some (.str x),v7]/\x.length=j/\(∀ c ∈ cps x,97<=c/\c<=122)/\SmB a H H'/\Lf H' a/\H' p=some (.lst (ws.map V.str)))
    ⟨"",v7,rfl,rfl,(fun _ h=>nomatch h),s2.trans s3,lf3,s3 _ _ pa hp2⟩ ?_ ?_
   ·rintro j σ H4 hj ⟨x,u7,rfl,xl,xc,s4,lf4,hp4⟩
    refine ⟨_,rfl,_,rfl,_,rfl,_,rfl,a,wd,rfl,lf4,w1,bs (by omega) (by omega),fun g H5 g0 gl s5 lf5 => ?_⟩
    obtain ⟨gn,rfl⟩:=Int.eq_ofNat_of_zero_le g0
    have lx:x.length<=8:=by omega
    refine ⟨LET,(gn:Int),97+gn,rfl,rfl,zL,bG (aAt (by omega)),_,_,rfl,rfl,mI (by show x.length+1<=1000; omega),?_⟩
    refine ⟨_,_,rfl,?_,fun c hc => ?_,s4.trans s5,lf5,s5 _ _ pa hp4⟩
    ·rw [lenA,xl]
     rfl
    ·rw [hJ] at hc
     rcases List.mem_append.mp hc with h | h
     ·exact xc c h
     ·have:c=97+gn:=by simpa [cps] using h
      omega
   ·rintro σ H4 ⟨x,u7,rfl,xl,xc,s4,lf4,hp4⟩
    have wx:Wr x:=⟨by omega,by omega,xc⟩
    obtain ⟨c0,r,ec⟩ : ∃ c0 r,cps x=c0 :: r:=List.exists_cons_of_ne_nil fun z=>by
     have:=wx.l1
     rw [lenC,z] at this
     cases this
    have hc0:=xc c0 (by rw [ec]; exact List.mem_cons_self ..)
    refine ⟨fun mm σ H'=>∃ (y:Str) (jj:Nat),σ=[some (.ref a),some (.int m),some (.str LET),some (.int wd),some (.ref p),some (.int (0+i)),some (.str y),u7]/\H'=H4/\Wr y/\mm=26 - jj/\jj < 26/\cps y=rd c0 jj :: r/\∀ q,q < jj->∃ u ∈ ws,cps u=rd c0 q :: r,
     ⟨26,x,0,rfl,rfl,wx,rfl,by decide,by rw [aBm hc0]; exact ec,fun q h=>absurd h (by omega)⟩,?_⟩
    rintro mm σ H5 ⟨y,jj,rfl,rfl,wy,rfl,j26,ey,hq⟩
    have zy:y.length<=sizeLine:=mI (by have:=wy.l8; omega)
    refine ⟨_,rfl,_,rfl,p,_,rfl,.inl (SqL.of hp4),rfl,dM ws,_,rfl,ite2 (fun hin => ?_) (fun hno => ?_)⟩
    ·have hin':y ∈ ws:=dR.mp hin
     have pg:jj+1<=(ws.map cps).length:=by
      refine aEm (fun q=>rd c0 q :: r) (jj+1) (ws.map cps) (fun q hq' => ?_) (fun q1 q2 h1 h2 e => ?_)
      ·by_cases z:q=jj
       ·exact List.mem_map.mpr ⟨y,hin',by rw [ey,z]⟩
       ·obtain ⟨u,hu,eu⟩:=hq q (by omega)
        exact List.mem_map.mpr ⟨u,hu,eu⟩
      ·injection e with e1 _
       exact aD9 (by omega) (by omega) e1
     rw [List.length_map] at pg
     have hr1:=aEa c0 jj
     have fd:Txt.find LET ⟨#[rd c0 jj]⟩=((rd c0 jj - 97:Nat):Int):=zK hr1
     refine ⟨_,fun σ' H' h=>h,?_⟩
     refine ⟨_,rfl,_,rfl,rfl,_,rfl,y,0,rd c0 jj,rfl,rfl,zy,(by show atI (cps y) 0=some _; rw [ey]; exact bG (j:=0) rfl),LET,⟨#[rd c0 jj]⟩,rfl,rfl,_,_,rfl,rfl,_,_,rfl,rfl,(by show (0:Int) < 26; decide),LET,_,rd (rd c0 jj) 1,rfl,rfl,zL,?_,?_⟩
     ·rw [fd,show (((rd c0 jj - 97:Nat):Int)+1) % 26=(((rd c0 jj - 97+1) % 26:Nat):Int) by omega]
      exact bG (aAt (Nat.mod_lt _ (by decide)))
     ·have ls:=PyProof.Txt.length_slice_le y (some 1) none
      have l8:=wy.l8
      have ct:cps (Txt.slice y (some 1) none)=r:=by rw [rJ wy.l1,ey]; rfl
      have cn:cps ((⟨#[rd (rd c0 jj) 1]⟩:Str) ++ Txt.slice y (some 1) none)=rd c0 (jj+1) :: r:=by
       rw [hJ,ct,aBn]
       rfl
      refine ⟨_,rfl,_,rfl,y,rfl,zy,_,_,rfl,rfl,mI (by show 1+_<=1000; omega),26 - (jj+1),by omega,_,jj+1,rfl,rfl,⟨?_,?_,fun c hc => ?_⟩,rfl,by omega,cn,fun q hq' => ?_⟩
      ·rw [lenC,cn]
       exact Nat.succ_le_succ (Nat.zero_le _)
      ·rw [lenC,cn]
       have:y.length=(cps y).length:=lenC y
       rw [ey] at this
       simp at this ⊢
       omega
      ·rw [cn] at hc
       rcases List.mem_cons.mp hc with h | h
       ·rw [h]
        exact aEa _ _
       ·exact xc c (by rw [ec]; exact List.mem_cons_of_mem _ h)
      ·by_cases z:q=jj
       ·exact ⟨y,hin',by rw [ey,z]⟩
       ·exact hq q (by omega)
    ·have hno':y ∉ ws:=fun z=>hno (dR.mpr z)
     refine ⟨_,rfl,.inl ⟨rfl,_,SqL.of hp4⟩,_,rfl,p,_,_,rfl,rfl,hp4,aX (by rw [List.length_map]; omega),?_⟩
     refine ⟨ws ++ [y],_,_,_,rfl,by rw [List.length_append,wl]; rfl,iO nd hno',fun x hx => ?_,s4.own pn,lf4.own pa,by rw [List.map_append]; exact aB⟩
     rcases List.mem_append.mp hx with h | h
     ·exact wr x h
     ·rw [List.mem_singleton.mp h]
      exact wy
  ·rintro σ H2 ⟨ws,v5,v6,v7,rfl,wl,nd,wr,s2,lf2,hp2⟩
   exact ⟨_,rfl,k ws p H2 (by omega) nd wr s2 lf2 pn hp2⟩
end
end K25
namespace GM
structure Fr (M t b N:Int):Prop where
 am:Amt t b
 e:t*M=N*b
theorem Fr.of {M t b:Int}(am:Amt t b)(d:b ∣ M):Fr M t b (t*(M / b)):=⟨am,by rw [Int.mul_assoc,Int.ediv_mul_cancel d]⟩
theorem Fr.zero {M:Int}:Fr M 0 1 0:=⟨pQ (by decide),by simp⟩
theorem Fr.plus {M t1 b1 N1 t2 b2 N2:Int}(h1:Fr M t1 b1 N1)(h2:Fr M t2 b2 N2):Fr M ((t1*b2+t2*b1) / G (t1*b2+t2*b1) (b1*b2)) (b1*b2 / G (t1*b2+t2*b1) (b1*b2)) (N1+N2):=by
 have a1:=h1.am.b1
 have a2:=h2.am.b1
 have n1:=Int.mul_nonneg h1.am.t0 (show 0<=b2 by omega)
 have n2:=Int.mul_nonneg h2.am.t0 (show 0<=b1 by omega)
 have hb:1<=b1*b2:=by
  have:=Int.mul_le_mul a1 a2 (by decide) (by omega)
  omega
 refine ⟨pK (by omega) hb,?_⟩
 have crs:=jZ (t1*b2+t2*b1) (b1*b2)
 generalize (t1*b2+t2*b1) / G (t1*b2+t2*b1) (b1*b2)=x at *
 generalize b1*b2 / G (t1*b2+t2*b1) (b1*b2)=y at *
 refine Int.eq_of_mul_eq_mul_right (show b1*b2 ≠ 0 by omega) ?_
 calc x*M*(b1*b2)=(x*(b1*b2))*M:=by rw [Int.mul_assoc,Int.mul_comm M,<- Int.mul_assoc]
  _=((t1*b2+t2*b1)*y)*M:=by rw [crs]
  _=((t1*M)*b2+(t2*M)*b1)*y:=by
   rw [Int.mul_right_comm,Int.add_mul,Int.mul_right_comm t1,Int.mul_right_comm t2]
  _=((N1*b1)*b2+(N2*b2)*b1)*y:=by rw [h1.e,h2.e]
  _=(N1+N2)*y*(b1*b2):=by
   rw [Int.mul_right_comm (N1+N2),Int.add_mul N1,Int.mul_assoc N1,Int.mul_assoc N2,Int.mul_comm b2 b1]
theorem Fr.uniq {M t b N t' b':Int}(hM:0 < M)(h:Fr M t b N)(h':Fr M t' b' N):t=t'/\b=b':=by
 have c:t'*b=t*b':=by
  refine Int.eq_of_mul_eq_mul_right (show M ≠ 0 by omega) ?_
  calc t'*b*M=(t'*M)*b:=by rw [Int.mul_right_comm]
   _=(N*b')*b:=by rw [h'.e]
   _=(N*b)*b':=by rw [Int.mul_right_comm]
   _=t*M*b':=by rw [h.e]
   _=t*b'*M:=by rw [Int.mul_right_comm]
 obtain ⟨e1,e2⟩:=iQ h.am.t0 h.am.b1 h'.am c
 rw [h.am.g,Int.ediv_one] at e1 e2
 exact ⟨e1,e2⟩
theorem Fr.nonneg {M t b N:Int}(hM:0 < M)(h:Fr M t b N):0<=N:=by
 have a1:=h.am.b1
 have n1:=Int.mul_nonneg h.am.t0 (show 0<=M by omega)
 rw [h.e] at n1
 by_cases z:0<=N
 ·exact z
 ·have:=Int.mul_neg_of_neg_of_pos (show N < 0 by omega) (show 0 < b by omega)
  omega
theorem Fr.dvd {M t b N:Int}(h:Fr M t b N):b ∣ M:=by
 have d:b ∣ M*t:=⟨N,by rw [Int.mul_comm M,h.e,Int.mul_comm]⟩
 have g:Int.gcd b t=1:=by
  have:=h.am.g
  unfold G at this
  rw [Int.gcd_comm]
  omega
 have d':b.natAbs ∣ M.natAbs*t.natAbs:=by
  rw [<- Int.natAbs_mul]
  exact Int.natAbs_dvd_natAbs.mpr d
 have c:Nat.Coprime b.natAbs t.natAbs:=g
 exact Int.natAbs_dvd_natAbs.mp (c.dvd_of_dvd_mul_right d')
end GM
namespace L2
open PySem PySem.Spec PyProof.Rows
section
variable {D:Ends}{σ:L2.St}{H:Hp}
end
end L2
namespace K25
open PySem PySem.Spec PyProof.Rows L2 GM TM
structure Tw (K:PySem.W.Frag)(H:Hp)(p q:Addr)(t1 b1 t2 b2:Int):Prop where
 sp:SqT K H p [.int t1,.int b1]
 sq:SqT K H q [.int t2,.int b2]
 a1:Amt t1 b1
 a2:Amt t2 b2
 st1:Bt 4000 t1
 sb1:Bt 4000 b1
 st2:Bt 4000 t2
 sb2:Bt 4000 b2
def jN (K:PySem.W.Frag):Sp:=fun vs H Q _=>∃ (p q:Addr) (t1 b1 t2 b2:Int),vs=[.ref p,.ref q]/\Tw K H p q t1 b1 t2 b2 /\
 RetT H Q [(t1*t2) / G (t1*t2) (b1*b2),(b1*b2) / G (t1*t2) (b1*b2)]
def mL (K:PySem.W.Frag):Sp:=fun vs H Q _=>∃ (p q:Addr) (t1 b1 t2 b2:Int),vs=[.ref p,.ref q]/\Tw K H p q t1 b1 t2 b2/\1<=t2 /\
 RetT H Q [(t1*b2) / G (t1*b2) (b1*t2),(b1*t2) / G (t1*b2) (b1*t2)]
def tP (K:PySem.W.Frag):Sp:=fun vs H Q _=>∃ (p q:Addr) (t1 b1 t2 b2:Int),vs=[.ref p,.ref q]/\Tw K H p q t1 b1 t2 b2/\Q (.bl (decide (t1*b2 < t2*b1))) H
def oS (K:PySem.W.Frag):Sp:=fun vs H Q _=>∃ (p q:Addr) (t1 b1 t2 b2:Int),vs=[.ref p,.ref q]/\Tw K H p q t1 b1 t2 b2/\t2*b1<=t1*b2 /\
 RetT H Q [(t1*b2 - t2*b1) / G (t1*b2 - t2*b1) (b1*b2),(b1*b2) / G (t1*b2 - t2*b1) (b1*b2)]
def wY (K:PySem.W.Frag):Sp:=fun vs H Q _=>∃ (p q:Addr) (t1 b1 t2 b2:Int),vs=[.ref p,.ref q]/\Tw K H p q t1 b1 t2 b2/\RetT H Q [(t1*b2+t2*b1) / G (t1*b2+t2*b1) (b1*b2),(b1*b2) / G (t1*b2+t2*b1) (b1*b2)]
def pV (K:PySem.W.Frag):Sp:=fun vs H Q _=>∃ (p q:Addr) (t1 b1 t2 b2:Int),vs=[.ref p,.ref q]/\Tw K H p q t1 b1 t2 b2 /\
 ∀ r H',Same H H'->SqT K H' r [.int ((t1*b2+t2*b1) / G (t1*b2+t2*b1) (b1*b2)),.int ((b1*b2) / G (t1*b2+t2*b1) (b1*b2))]->Q (.ref r) H'
section
variable {P:Program}{w:World}{K:PySem.W.Frag}{mg:Str->Option Value}{base:Heap}
theorem eA {X:Cx}{scope:Scope}(h : ∀ y ∈ scope.names,y.2 = .local\/y.2 = .globalImplicit):ClOk X scope []:=by
 refine ⟨closureFor_none fun x hx z => ?_,fun x c e=>by simp at e,fun x e => ?_⟩
 ·rcases h x hx with q | q <;> rw [q] at z <;> cases z
 ·exfalso
  have e' : ∃ k,(k=NameKind.cell\/k=NameKind.free)/\(relabel scope X.env).names.lookup x=some k:=by
   rcases e with e | e
   ·exact ⟨_,.inl rfl,e⟩
   ·exact ⟨_,.inr rfl,e⟩
  obtain ⟨k,hk,e⟩:=e'
  have hm:=PySem.mem_of_lookup e
  obtain ⟨y,hy,hy2⟩:=List.mem_map.mp hm
  have hl:=h y hy
  obtain ⟨n,kk⟩:=y
  simp only at hl
  rcases hl with hl | hl <;> subst hl <;> simp at hy2 <;> rcases hk with rfl | rfl <;> exact absurd hy2.2 (by decide)
theorem gE {α:Type}{ys l:List α}(hl:ys.length=l.length)(h : ∀ (i:Nat) x y,l[i]?=some x->ys[i]?=some y->y=x):ys=l:=by
 refine List.ext_getElem? fun i => ?_
 by_cases hi:i < l.length
 ·have e1:=List.getElem?_eq_getElem hi
  have e2:ys[i]?=some (ys[i]'(by omega)):=List.getElem?_eq_getElem (by omega)
  rw [e1,e2,h i _ _ e1 e2]
 ·rw [List.getElem?_eq_none (by omega),List.getElem?_eq_none (by omega)]
theorem mul1 {a b:Int}(ha:1<=a)(hb:1<=b):1<=a*b:=by
 have:=Int.mul_le_mul ha hb (by decide) (by omega)
 omega
theorem aBg:FnScope ["one","other"] ["one","other"] (aG sTimes):=⟨rfl,rfl,rfl,by decide +kernel,rfl,by decide +kernel,by decide +kernel⟩
theorem xV {f:Addr}{fd:FuncData}(F:Fun K "times" "times" sTimes f fd)(cL:Cal P w K mg base CX0 2 "lowest_terms" ["top","bottom"] gS):FnOk P w K mg base CX0 3 f fd ["one","other"] (jN K):=by
 refine F.ok aBg (fun vs H Q E h => ?_) (fun cdv A outer s H vs Q E hr h => ?_)
 ·obtain ⟨_,_,_,_,_,_,rfl,_⟩:=h
  rfl
 ·obtain ⟨p,q,t1,b1,t2,b2,rfl,T,k⟩:=h
  refine ⟨_,aE (aO (aH cL hr rfl aQ (aA (aV bA (pit 0 0) (pit 1 0)) (aA (aV bA (pit 0 1) (pit 1 1)) aC)))),?_⟩
  refine ⟨p,_,_,rfl,T.sp,rfl,q,_,_,rfl,T.sq,rfl,_,_,rfl,rfl,⟨b6 T.st1,b6 T.st2⟩,?_⟩
  exact ⟨p,_,_,rfl,T.sp,rfl,q,_,_,rfl,T.sq,rfl,_,_,rfl,rfl,⟨b6 T.sb1,b6 T.sb2⟩,_,_,rfl,Int.mul_nonneg T.a1.t0 T.a2.t0,mul1 T.a1.b1 T.a2.b1,(T.sb1.mul T.sb2).mono (by decide),k⟩
theorem aDz:FnScope ["one","other"] ["one","other"] (aG sOver):=⟨rfl,rfl,rfl,by decide +kernel,rfl,by decide +kernel,by decide +kernel⟩
theorem aCd {f aN:Addr}{fd:FuncData}(F:Fun K "over" "over" sOver f fd)(mN:mg "NOUGHT" = some (.ref aN))(sN : ∀ H:Hp,SqT K H aN [.int 0,.int 1])(cL:Cal P w K mg base CX0 2 "lowest_terms" ["top","bottom"] gS):FnOk P w K mg base CX0 3 f fd ["one","other"] (mL K):=by
 refine F.ok aDz (fun vs H Q E h => ?_) (fun cdv A outer s H vs Q E hr h => ?_)
 ·obtain ⟨_,_,_,_,_,_,rfl,_⟩:=h
  rfl
 ·obtain ⟨p,q,t1,b1,t2,b2,rfl,T,h1,k⟩:=h
  refine ⟨_,aD (bF (aK (uL hr.units) (pv 1) (dQ (v:=.ref aN) rfl mN rfl) (aT _)) (aE qE) aU)
   (aE (aO (aH cL hr rfl aQ (aA (aV bA (pit 0 0) (pit 1 1)) (aA (aV bA (pit 0 1) (pit 1 0)) aC))))),?_⟩
  refine ⟨_,rfl,q,aN,[t2,b2],[0,1],rfl,rfl,T.sq,sN H,_,rfl,?_⟩
  rw [decide_eq_false (fun e=>by injection e with e1 e; omega)]
  refine iteF ⟨p,_,_,rfl,T.sp,rfl,q,_,_,rfl,T.sq,rfl,_,_,rfl,rfl,⟨b6 T.st1,b6 T.sb2⟩,?_⟩
  exact ⟨p,_,_,rfl,T.sp,rfl,q,_,_,rfl,T.sq,rfl,_,_,rfl,rfl,⟨b6 T.sb1,b6 T.st2⟩,_,_,rfl,Int.mul_nonneg T.a1.t0 (by have:=T.a2.b1; omega),mul1 T.a1.b1 h1,(T.sb1.mul T.st2).mono (by decide),k⟩
theorem aD1:FnScope ["one","other"] ["one","other"] (aG sLess):=⟨rfl,rfl,rfl,by decide +kernel,rfl,by decide +kernel,by decide +kernel⟩
theorem aCg {f:Addr}{fd:FuncData}(F:Fun K "less" "less" sLess f fd):FnOk P w K mg base CX0 1 f fd ["one","other"] (tP K):=by
 refine F.ok aD1 (fun vs H Q E h => ?_) (fun cdv A outer s H vs Q E hr h => ?_)
 ·obtain ⟨_,_,_,_,_,_,rfl,_⟩:=h
  rfl
 ·obtain ⟨p,q,t1,b1,t2,b2,rfl,T,k⟩:=h
  refine ⟨_,aE (aO (fK jX (aV bA (pit 0 0) (pit 1 1)) (aV bA (pit 1 0) (pit 0 1)) (aT _))),?_⟩
  refine ⟨p,_,_,rfl,T.sp,rfl,q,_,_,rfl,T.sq,rfl,_,_,rfl,rfl,⟨b6 T.st1,b6 T.sb2⟩,q,_,_,rfl,T.sq,rfl,p,_,_,rfl,T.sp,rfl,_,_,rfl,rfl,⟨b6 T.st2,b6 T.sb1⟩,_,_,rfl,rfl,k⟩
theorem aBh:FnScope ["one","other"] ["one","other"] (aG sMinus):=⟨rfl,rfl,rfl,by decide +kernel,rfl,by decide +kernel,by decide +kernel⟩
theorem yE {f:Addr}{fd:FuncData}(F:Fun K "minus" "minus" sMinus f fd)(cE:Cal P w K mg base CX0 2 "less" ["one","other"] (tP K))(cL:Cal P w K mg base CX0 2 "lowest_terms" ["top","bottom"] gS):FnOk P w K mg base CX0 3 f fd ["one","other"] (oS K):=by
 refine F.ok aBh (fun vs H Q E h => ?_) (fun cdv A outer s H vs Q E hr h => ?_)
 ·obtain ⟨_,_,_,_,_,_,rfl,_⟩:=h
  rfl
 ·obtain ⟨p,q,t1,b1,t2,b2,rfl,T,le,k⟩:=h
  refine ⟨_,aD (bF (eO (aH cE hr rfl aQ (aA (pv 0) (aA (pv 1) aC)))) (aE qE) aU)
   (aE (aO (aH cL hr rfl aQ (aA (aV mX (aV bA (pit 0 0) (pit 1 1)) (aV bA (pit 1 0) (pit 0 1))) (aA (aV bA (pit 0 1) (pit 1 1)) aC))))),?_⟩
  refine ⟨_,rfl,_,rfl,p,q,t1,b1,t2,b2,rfl,T,_,rfl,?_⟩
  rw [decide_eq_false (by omega)]
  refine iteF ⟨p,_,_,rfl,T.sp,rfl,q,_,_,rfl,T.sq,rfl,_,_,rfl,rfl,⟨b6 T.st1,b6 T.sb2⟩,q,_,_,rfl,T.sq,rfl,p,_,_,rfl,T.sp,rfl,_,_,rfl,rfl,⟨b6 T.st2,b6 T.sb1⟩,_,_,rfl,rfl,?_⟩
  exact ⟨p,_,_,rfl,T.sp,rfl,q,_,_,rfl,T.sq,rfl,_,_,rfl,rfl,⟨b6 T.sb1,b6 T.sb2⟩,_,_,rfl,by omega,mul1 T.a1.b1 T.a2.b1,(T.sb1.mul T.sb2).mono (by decide),k⟩
theorem aDx:FnScope ["_law_one","_law_other","_law_top"] ["_law_one","_law_other"] (aG sSum):=⟨rfl,rfl,rfl,by decide +kernel,rfl,by decide +kernel,by decide +kernel⟩
theorem aEu {f:Addr}{fd:FuncData}(F:Fun K "_law_sum" "_law_sum" sSum f fd)(cL:Cal P w K mg base CX0 2 "_law_low" ["_law_top","_law_bottom"] gS):FnOk P w K mg base CX0 3 f fd ["_law_one","_law_other"] (wY K):=by
 refine F.ok aDx (fun vs H Q E h => ?_) (fun cdv A outer s H vs Q E hr h => ?_)
 ·obtain ⟨_,_,_,_,_,_,rfl,_⟩:=h
  rfl
 ·obtain ⟨p,q,t1,b1,t2,b2,rfl,W,k⟩:=h
  refine ⟨_,(aD (aI (i:=2) aDx.nd rfl (Or.inl rfl) (aV cX (aV bA (pit 0 0) (pit 1 1)) (aV bA (pit 1 0) (pit 0 1))))
   (aE (aO (aH cL hr rfl aQ (aA (pv 2) (aA (aV bA (pit 0 1) (pit 1 1)) aC)))))),?_⟩
  have n1:=Int.mul_nonneg W.a1.t0 (show 0<=b2 by have:=W.a2.b1; omega)
  have n2:=Int.mul_nonneg W.a2.t0 (show 0<=b1 by have:=W.a1.b1; omega)
  refine ⟨p,_,_,rfl,W.sp,rfl,q,_,_,rfl,W.sq,rfl,_,_,rfl,rfl,⟨b6 W.st1,b6 W.sb2⟩,q,_,_,rfl,W.sq,rfl,p,_,_,rfl,W.sp,rfl,_,_,rfl,rfl,⟨b6 W.st2,b6 W.sb1⟩,_,_,rfl,rfl,?_⟩
  exact ⟨_,rfl,p,_,_,rfl,W.sp,rfl,q,_,_,rfl,W.sq,rfl,_,_,rfl,rfl,⟨b6 W.sb1,b6 W.sb2⟩,_,_,rfl,by omega,mul1 W.a1.b1 W.a2.b1,(W.sb1.mul W.sb2).mono (by decide),k⟩
theorem aDy:FnScope ["one","other"] ["one","other"] (aG sPlus):=⟨rfl,rfl,rfl,by decide +kernel,rfl,by decide +kernel,by decide +kernel⟩
theorem aCc {f aN:Addr}{fd:FuncData}(F:Fun K "plus" "plus" sPlus f fd)(mN:mg "NOUGHT" = some (.ref aN))(sN : ∀ H:Hp,SqT K H aN [.int 0,.int 1])(cL:Cal P w K mg base CX0 2 "lowest_terms" ["top","bottom"] gS):FnOk P w K mg base CX0 3 f fd ["one","other"] (pV K):=by
 refine F.ok aDy (fun vs H Q E h => ?_) (fun cdv A outer s H vs Q E hr h => ?_)
 ·obtain ⟨_,_,_,_,_,_,rfl,_⟩:=h
  rfl
 ·obtain ⟨p,q,t1,b1,t2,b2,rfl,T,k⟩:=h
  refine ⟨_,aD (bF (aK (uL hr.units) (pv 0) (dQ (v:=.ref aN) rfl mN rfl) (aT _)) (aE (aO (pv 1))) aU)
   (aE (aO (aH cL hr rfl aQ (aA (aV cX (aV bA (pit 0 0) (pit 1 1)) (aV bA (pit 1 0) (pit 0 1))) (aA (aV bA (pit 0 1) (pit 1 1)) aC))))),?_⟩
  have bs1:=mul1 T.a1.b1 T.a2.b1
  have hs:=T.sq
  have m1:=Int.mul_nonneg T.a1.t0 (show 0<=b2 by have:=T.a2.b1; omega)
  have m2:=Int.mul_nonneg T.a2.t0 (show 0<=b1 by have:=T.a1.b1; omega)
  have a0:=T.a2.t0
  have a1:=T.a2.b1
  refine ⟨_,rfl,p,aN,[t1,b1],[0,1],rfl,rfl,T.sp,sN H,_,rfl,ite2 (fun hc => ?_) (fun _ => ?_)⟩
  ·have e:=of_decide_eq_true hc
   injection e with e1 e
   injection e with e2 e
   subst e1 e2
   refine ⟨_,rfl,?_⟩
   have u:=iQ (t:=0*b2+t2*1) (b:=1*b2) (by omega) (by omega) T.a2 (by rw [Int.zero_mul,Int.zero_add,Int.one_mul,Int.mul_one])
   rw [u.1,u.2] at k
   exact k q H (Same.refl H) T.sq
  ·refine ⟨p,_,_,rfl,T.sp,rfl,q,_,_,rfl,hs,rfl,_,_,rfl,rfl,⟨b6 T.st1,b6 T.sb2⟩,q,_,_,rfl,hs,rfl,p,_,_,rfl,T.sp,rfl,_,_,rfl,rfl,⟨b6 T.st2,b6 T.sb1⟩,_,_,rfl,rfl,?_⟩
   exact ⟨p,_,_,rfl,T.sp,rfl,q,_,_,rfl,hs,rfl,_,_,rfl,rfl,⟨b6 T.sb1,b6 T.sb2⟩,_,_,rfl,by omega,bs1,(T.sb1.mul T.sb2).mono (by decide),fun r H2 s2 h2=>k r H2 s2 (SqT.of h2)⟩
end
end K25
namespace BQ
open GM L2
abbrev Q:=Int × Int
def lw (T B:Int):Q:=(T / G T B,B / G T B)
def add (a b:Q):Q:=lw (a.1*b.2+b.1*a.2) (a.2*b.2)
def Am (a:Q):Prop:=Amt a.1 a.2
theorem mul1 {a b:Int}(ha:1<=a)(hb:1<=b):1<=a*b:=by
 have:=Int.mul_le_mul ha hb (by decide) (by omega)
 omega
theorem gP {T B:Int}(h0:0<=T)(h1:1<=B):Am (lw T B):=pK h0 h1
theorem eC (T B:Int):(lw T B).1*B=T*(lw T B).2:=jZ T B
theorem aGg {T B:Int}{a:Q}(h0:0<=T)(h1:1<=B)(h:Am a)(e:a.1*B=T*a.2):lw T B=a:=by
 obtain ⟨e1,e2⟩:=iQ h0 h1 h e
 exact Prod.ext e1 e2
theorem uY {T B T' B':Int}(h0:0<=T)(h1:1<=B)(h0':0<=T')(h1':1<=B')(e:T*B'=T'*B):lw T B=lw T' B':=by
 refine aGg h0 h1 (gP h0' h1') ?_
 have c:=eC T' B'
 generalize lw T' B'=a at c ⊢
 refine Int.eq_of_mul_eq_mul_right (show B' ≠ 0 by omega) ?_
 grind
theorem nA {T B:Int}(h0:1<=T)(h1:1<=B):1<=(lw T B).1:=by
 have am:=gP (show 0<=T by omega) h1
 have c:=eC T B
 have t0:=am.t0
 have b1:=am.b1
 by_cases z:(lw T B).1=0
 ·rw [z,Int.zero_mul] at c
  have:=mul1 h0 b1
  omega
 ·omega
theorem aE7 {T B:Int}(h0:0<=T)(h1:1<=B):(lw T B).1<=T/\(lw T B).2<=B:=⟨Int.ediv_le_self _ h0,Int.ediv_le_self _ (by omega)⟩
theorem vA {T B:Int}{n:Nat}(h0:0<=T)(h1:1<=B)(hT:Bt n T)(hB:Bt n B):Bt n (lw T B).1/\Bt n (lw T B).2:=⟨hT.le (gP h0 h1).t0 (aE7 h0 h1).1,hB.le (by have:=(gP h0 h1).b1; omega) (aE7 h0 h1).2⟩
theorem Am.mul {a b:Q}(h:Am a)(k:Am b):1<=a.2*b.2:=mul1 h.b1 k.b1
theorem Am.num {a b:Q}(h:Am a)(k:Am b):0<=a.1*b.2+b.1*a.2:=by
 have:=Int.mul_nonneg h.t0 (show 0<=b.2 by have:=k.b1; omega)
 have:=Int.mul_nonneg k.t0 (show 0<=a.2 by have:=h.b1; omega)
 omega
theorem kX {a b:Q}(h:Am a)(k:Am b):Am (add a b):=gP (h.num k) (h.mul k)
theorem am0:Am (0,1):=pQ (by decide)
def Fq (M:Int)(a:Q)(N:Int):Prop:=Fr M a.1 a.2 N
theorem Fq.add {M N1 N2:Int}{a b:Q}(h:Fq M a N1)(k:Fq M b N2):Fq M (add a b) (N1+N2):=Fr.plus h k
theorem Fq.uniq {M N:Int}{a b:Q}(hM:0 < M)(h:Fq M a N)(k:Fq M b N):a=b:=by
 obtain ⟨e1,e2⟩:=Fr.uniq hM h k
 exact Prod.ext e1 e2
theorem Fq.of {M:Int}{a:Q}(h:Am a)(d:a.2 ∣ M):Fq M a (a.1*(M / a.2)):=Fr.of h d
def fo (l:Q)(ss:List Q):Q:=ss.foldl add l
def nsum (M:Int)(ss:List Q):Int:=(ss.map fun s=>s.1*(M / s.2)).sum
theorem rZ {M:Int} : ∀ {ss:List Q} {l:Q} {N:Int},(∀ s ∈ ss,Am s/\s.2 ∣ M)->Fq M l N->Fq M (fo l ss) (N+nsum M ss)
 | [],l,N,_,h=>by
  show Fq M l (N+0)
  rw [Int.add_zero]
  exact h
 | s :: r,l,N,hs,h=>by
  have h1:=h.add (Fq.of (hs s (List.mem_cons_self ..)).1 (hs s (List.mem_cons_self ..)).2)
  have:=rZ (ss:=r) (fun x hx=>hs x (List.mem_cons_of_mem _ hx)) h1
  show Fq M (fo (BQ.add l s) r) _
  have e:N+nsum M (s :: r)=N+s.1*(M / s.2)+nsum M r:=by
   unfold nsum
   rw [List.map_cons,List.sum_cons,Int.add_assoc]
  rw [e]
  exact this
theorem aCx : ∀ {ss:List Q} {l:Q},(∀ s ∈ ss,Am s)->Am l->Am (fo l ss)
 | [],_,_,h=>h
 | s :: r,l,hs,h=>aCx (ss:=r) (fun x hx=>hs x (List.mem_cons_of_mem _ hx)) (kX h (hs s (List.mem_cons_self ..)))
def prod (ss:List Q):Int:=(ss.map (·.2)).foldr (· * ·) 1
theorem qG : ∀ {ss:List Q},(∀ s ∈ ss,Am s)->1<=prod ss
 | [],_=>by decide
 | s :: r,h=>mul1 (h s (List.mem_cons_self ..)).b1 (qG fun x hx=>h x (List.mem_cons_of_mem _ hx))
theorem qH : ∀ {ss:List Q} {s:Q},s ∈ ss->s.2 ∣ prod ss
 | s :: r,x,h=>by
  rcases List.mem_cons.mp h with h | h
  ·subst h
   exact Int.dvd_mul_right _ _
  ·exact Int.dvd_trans (qH h) (Int.dvd_mul_left _ _)
theorem zJ {l:Q}{ss:List Q}(hl:Am l)(hs : ∀ s ∈ ss,Am s):fo l ss=add l (fo (0,1) ss):=by
 have p1:=qG hs
 have hM:0 < l.2*prod ss:=Int.mul_pos (by have:=hl.b1; omega) (by omega)
 have d : ∀ s ∈ ss,Am s/\s.2 ∣ l.2*prod ss:=fun s h=>⟨hs s h,Int.dvd_trans (qH h) (Int.dvd_mul_left _ _)⟩
 have fl:Fq (l.2*prod ss) l (l.1*(l.2*prod ss / l.2)):=Fq.of hl (Int.dvd_mul_right _ _)
 have a1:=rZ d fl
 have a2:=rZ (l:=(0,1)) (N:=0) d Fr.zero
 have a3:=fl.add a2
 rw [Int.zero_add] at a3
 exact a1.uniq hM a3
theorem kC (l:Q)(a b:List Q):fo l (a ++ b)=fo (fo l a) b:=List.foldl_append ..
open PySem (Str)
inductive Rw where
 | take (a:Q) (x:Str)
 | parts (a:Q) (ps:List (Int × Str))
 | to (n:Int) (x:Str)
 | fill (a:Q) (x:Str)
abbrev Pu:=Int × Str × Q
def ptot (ps:List (Int × Str)):Int:=(ps.map (·.1)).sum
def dI (a l:Q):Q:=lw (a.1*l.2 - l.1*a.2) (a.2*l.2)
def rowP (i:Int)(l:Q):Rw->List Pu
 | .take a x=>[(i,x,a)]
 | .parts a ps=>ps.map fun p=>(i,p.2,lw (a.1*p.1) (a.2*ptot ps))
 | .to n x=>[(i,x,lw (l.1*n) l.2)]
 | .fill a x=>if 0 < (dI a l).1 then [(i,x,dI a l)] else []
def amts (ps:List Pu):List Q:=ps.map (·.2.2)
structure Sm (a:Q):Prop where
 am:Am a
 t1:1<=a.1
 bt:Bt 31 a.1
 bb:Bt 31 a.2
def ROk (l:Q):Rw->Prop
 | .take a _=>Sm a
 | .parts a ps=>Sm a/\1<=ps.length/\ps.length<=4/\∀ p ∈ ps,1<=p.1/\p.1<=9
 | .to n _=>1<=n/\n<=9/\1<=l.1
 | .fill a _=>Sm a/\l.1*a.2<=a.1*l.2
inductive Rs:List Rw->List Pu->Q->Prop
 | nil:Rs [] [] (0,1)
 | snoc {rs ps l r}:Rs rs ps l->ROk l r->Rs (rs ++ [r]) (ps ++ rowP rs.length l r) (fo l (amts (rowP rs.length l r)))
theorem jU : ∀ {ps:List (Int × Str)} {p:Int × Str},(∀ p ∈ ps,1<=p.1)->p ∈ ps->p.1<=ptot ps
 | q :: r,p,h,hp=>by
  have nn:0<=ptot r:=by
   clear hp
   have h' : ∀ p ∈ r,1<=p.1:=fun p hp=>h p (List.mem_cons_of_mem _ hp)
   clear h
   induction r with
   | nil=>exact Int.le_refl _
   | cons a b ih =>
    have:=ih fun p hp=>h' p (List.mem_cons_of_mem _ hp)
    have:=h' a (List.mem_cons_self ..)
    show 0<=((a :: b).map (·.1)).sum
    rw [List.map_cons,List.sum_cons]
    show 0<=a.1+ptot b
    omega
  have e:ptot (q :: r)=q.1+ptot r:=by unfold ptot; rw [List.map_cons,List.sum_cons]
  rw [e]
  rcases List.mem_cons.mp hp with h' | h'
  ·rw [h']; omega
  ·have:=jU (ps:=r) (fun p hp=>h p (List.mem_cons_of_mem _ hp)) h'
   have:=h q (List.mem_cons_self ..)
   omega
theorem lN : ∀ {ps:List (Int × Str)},(∀ p ∈ ps,p.1<=9)->ptot ps<=9*ps.length
 | [],_=>by decide
 | q :: r,h=>by
  have e:ptot (q :: r)=q.1+ptot r:=by unfold ptot; rw [List.map_cons,List.sum_cons]
  have:=lN (ps:=r) fun p hp=>h p (List.mem_cons_of_mem _ hp)
  have:=h q (List.mem_cons_self ..)
  rw [e,List.length_cons]
  omega
theorem uZ (T B:Int):(lw T B).2 ∣ B:=⟨G T B,(aCq T B).symm⟩
theorem grow {M c N V U:Int}{l:Q} : ∀ {ss:List Q},Fq M l N->0 < M->1<=c->N<=V*M->0<=U->(∀ s ∈ ss,Am s/\s.2 ∣ M*c/\s.1<=U*s.2)->∃ N',Fq (M*c) (fo l ss) N'/\N'<=(V+ss.length*U)*(M*c):=by
 intro ss h hM hc hN hU hs
 have hMc:0 < M*c:=Int.mul_pos hM (by omega)
 have h1:Fq (M*c) l (N*c):=⟨h.am,by have:=h.e; grind⟩
 refine ⟨_,rZ (fun s hs'=>⟨(hs s hs').1,(hs s hs').2.1⟩) h1,?_⟩
 have a1:N*c<=V*(M*c):=by
  have:=Int.mul_le_mul_of_nonneg_right hN (show 0<=c by omega)
  rw [Int.mul_assoc] at this
  exact this
 have a2:nsum (M*c) ss<=ss.length*U*(M*c):=by
  clear h h1 a1 hN
  induction ss with
  | nil=>show (0:Int)<=((0:Nat):Int)*U*(M*c); simp
  | cons s r ih =>
   have:=ih fun x hx=>hs x (List.mem_cons_of_mem _ hx)
   obtain ⟨am,⟨k,hk⟩,le⟩:=hs s (List.mem_cons_self ..)
   have b1:=am.b1
   have ek:M*c / s.2=k:=by rw [hk]; exact Int.mul_ediv_cancel_left k (by omega)
   have k0:0<=k:=by
    by_cases z:0<=k
    ·exact z
    ·have:=Int.mul_neg_of_pos_of_neg (show 0 < s.2 by omega) (show k < 0 by omega)
     omega
   have m1:=Int.mul_le_mul_of_nonneg_right le k0
   have e:nsum (M*c) (s :: r)=s.1*k+nsum (M*c) r:=by unfold nsum; rw [List.map_cons,List.sum_cons,ek]
   have e2:U*s.2*k=U*(M*c):=by rw [hk,Int.mul_assoc]
   rw [e,List.length_cons]
   have e3:((r.length+1:Nat):Int)*U*(M*c)=r.length*U*(M*c)+U*(M*c):=by push_cast; grind
   rw [e3]
   omega
 have:(V+ss.length*U)*(M*c)=V*(M*c)+ss.length*U*(M*c):=by grind
 omega
structure RI (n:Nat)(ps:List Pu)(l:Q)(M N V:Int):Prop where
 fq:Fq M l N
 M0:0 < M
 bM:Bt (40*n+1) M
 V1:1<=V
 bV:Bt (38*n+1) V
 NV:N<=V*M
 dv : ∀ p ∈ ps,Am p.2.2/\1<=p.2.2.1/\p.2.2.2 ∣ M/\p.2.2.1<=V*p.2.2.2
 lf:l=fo (0,1) (amts ps)
 ln:ps.length<=4*n
 ps':1<=n->1<=l.1
theorem RI.val {n:Nat}{ps:List Pu}{l:Q}{M N V:Int}(h:RI n ps l M N V):l.1<=V*l.2:=by
 have e:=h.fq.e
 have b1:=h.fq.am.b1
 have m:=Int.mul_le_mul_of_nonneg_right h.NV (show 0<=l.2 by omega)
 rw [<- e] at m
 refine Int.le_of_mul_le_mul_right (a:=M) ?_ h.M0
 have:V*M*l.2=V*l.2*M:=by grind
 omega
theorem bP (n:Nat){x c:Int}(h0:0<=x)(h:x < c)(hc:c<=((2 ^ n:Nat):Int):=by decide +kernel):Bt n x:=by
 show x.natAbs < 2 ^ n
 omega
theorem RI.step {n:Nat}{ps qs:List Pu}{l:Q}{M N V c U:Int}(h:RI n ps l M N V)(hc:1<=c)(bc:Bt 38 c)(U0:0<=U)(hU:U<=2147483648\/U<=9*V)(ql:qs.length<=4)(hq : ∀ p ∈ qs,Am p.2.2/\1<=p.2.2.1/\p.2.2.2 ∣ M*c/\p.2.2.1<=U*p.2.2.2)(hp:1<=(fo l (amts qs)).1) :
  ∃ N',RI (n+1) (ps ++ qs) (fo l (amts qs)) (M*c) N' (137438953472*V):=by
 obtain ⟨N',f,le⟩:=grow (ss:=amts qs) h.fq h.M0 hc h.NV U0 (fun s hs=>by
  obtain ⟨p,hp,rfl⟩:=List.mem_map.mp hs
  exact ⟨(hq p hp).1,(hq p hp).2.2.1,(hq p hp).2.2.2⟩)
 have hMc:0 < M*c:=Int.mul_pos h.M0 (by omega)
 have V1:=h.V1
 have al:(amts qs).length=qs.length:=List.length_map ..
 have lU:((amts qs).length:Int)*U<=4*U:=by
  rw [al]
  exact Int.mul_le_mul_of_nonneg_right (by omega) U0
 refine ⟨N',f,hMc,(h.bM.mul bc).mono (by omega),by omega,?_,?_,fun p hp => ?_,?_,by rw [List.length_append]; have:=h.ln; omega,fun _=>hp⟩
 ·have:Bt 38 (137438953472:Int):=bP 38 (c:=137438953473) (by decide) (by decide)
  exact (this.mul h.bV).mono (by omega)
 ·refine Int.le_trans le (Int.mul_le_mul_of_nonneg_right ?_ (by omega))
  omega
 ·rcases List.mem_append.mp hp with h' | h'
  ·obtain ⟨a1,a2,a3,a4⟩:=h.dv p h'
   refine ⟨a1,a2,Int.dvd_trans a3 (Int.dvd_mul_right _ _),Int.le_trans a4 (Int.mul_le_mul_of_nonneg_right (by omega) (by have:=a1.b1; omega))⟩
  ·obtain ⟨a1,a2,a3,a4⟩:=hq p h'
   exact ⟨a1,a2,a3,Int.le_trans a4 (Int.mul_le_mul_of_nonneg_right (by omega) (by have:=a1.b1; omega))⟩
 ·rw [h.lf]
  unfold amts
  rw [List.map_append,kC]
end BQ
namespace BQ
open GM L2
open PySem (Str)
theorem wO {a b:Q}(h:Am a)(k:Am b)(p:1<=a.1\/1<=b.1):1<=(add a b).1:=by
 refine nA ?_ (h.mul k)
 have n1:=Int.mul_nonneg h.t0 (show 0<=b.2 by have:=k.b1; omega)
 have n2:=Int.mul_nonneg k.t0 (show 0<=a.2 by have:=h.b1; omega)
 rcases p with p | p
 ·have:=mul1 p k.b1; omega
 ·have:=mul1 p h.b1; omega
theorem aAm : ∀ {ss:List Q} {l:Q},Am l->(∀ s ∈ ss,Am s)->(1<=l.1\/∃ s ∈ ss,1<=s.1)->1<=(fo l ss).1
 | [],l,_,_,p=>by
  rcases p with p | ⟨s,h,_⟩
  ·exact p
  ·exact nomatch h
 | s :: r,l,hl,hs,p=>by
  have as:=hs s (List.mem_cons_self ..)
  refine aAm (ss:=r) (l:=add l s) (kX hl as) (fun x hx=>hs x (List.mem_cons_of_mem _ hx)) ?_
  rcases p with p | ⟨x,hx,p⟩
  ·exact .inl (wO hl as (.inl p))
  ·rcases List.mem_cons.mp hx with h | h
   ·exact .inl (wO hl as (.inr (h ▸ p)))
   ·exact .inr ⟨x,h,p⟩
theorem qM {a l:Q}(ha:Am a)(hl:Am l)(le:l.1*a.2<=a.1*l.2):Am (dI a l):=gP (by omega) (ha.mul hl)
theorem qB {n:Nat}{ps:List Pu}{l:Q}{M N V:Int}{r:Rw}(i:Int)(h:RI n ps l M N V)(ok:ROk l r) :
  ∃ c U,1<=c/\Bt 38 c/\0<=U/\(U<=2147483648\/U<=9*V)/\(rowP i l r).length<=4/\(∀ p ∈ rowP i l r,Am p.2.2/\1<=p.2.2.1/\p.2.2.2 ∣ M*c/\p.2.2.1<=U*p.2.2.2)/\1<=(fo l (amts (rowP i l r))).1:=by
 have hl:Am l:=h.fq.am
 have b1:=hl.b1
 have ld:l.2 ∣ M:=h.fq.dvd
 have pos : ∀ qs:List Pu,(∀ p ∈ qs,Am p.2.2/\1<=p.2.2.1)->qs ≠ []->1<=(fo l (amts qs)).1:=fun qs hq hn=>by
  refine aAm hl (fun s hs => ?_) (.inr ?_)
  ·obtain ⟨p,hp,rfl⟩:=List.mem_map.mp hs
   exact (hq p hp).1
  ·cases qs with
   | nil=>exact absurd rfl hn
   | cons p r=>exact ⟨p.2.2,List.mem_map_of_mem (List.mem_cons_self ..),(hq p (List.mem_cons_self ..)).2⟩
 have two : ∀ {x:Int},Bt 31 x->0<=x->x<=2147483648:=fun hx h0=>by
  have:_ < 2 ^ 31:=hx
  omega
 cases r with
 | take a x =>
  have ok':Sm a:=ok
  have a0:=ok'.am.t0
  have hq : ∀ p ∈ rowP i l (.take a x),Am p.2.2/\1<=p.2.2.1/\p.2.2.2 ∣ M*a.2/\p.2.2.1<=a.1*p.2.2.2:=fun p hp=>by
   have e:p=(i,x,a):=List.mem_singleton.mp hp
   subst e
   refine ⟨ok'.am,ok'.t1,Int.dvd_mul_left _ _,?_⟩
   have:=Int.mul_le_mul_of_nonneg_left ok'.am.b1 a0
   show a.1<=a.1*a.2
   omega
  exact ⟨a.2,a.1,ok'.am.b1,ok'.bb.mono (by decide),a0,.inl (two ok'.bt a0),(by show 1<=4; decide),hq,pos _ (fun p hp=>⟨(hq p hp).1,(hq p hp).2.1⟩) (by simp [rowP])⟩
 | parts a qs =>
  obtain ⟨ok',l1,l4,hn⟩:=ok
  have a0:=ok'.am.t0
  have ab:=ok'.am.b1
  have S1:1<=ptot qs:=by
   cases qs with
   | nil=>exact absurd l1 (by decide)
   | cons q r =>
    have:=jU (fun p hp=>(hn p hp).1) (List.mem_cons_self (a:=q) (l:=r))
    have:=(hn q (List.mem_cons_self ..)).1
    omega
  have S36:=lN fun p hp=>(hn p hp).2
  have c1:=mul1 ab S1
  have hq : ∀ p ∈ rowP i l (.parts a qs),Am p.2.2/\1<=p.2.2.1/\p.2.2.2 ∣ M*(a.2*ptot qs)/\p.2.2.1<=a.1*p.2.2.2:=fun p hp=>by
   obtain ⟨q,hq,rfl⟩:=List.mem_map.mp hp
   have n1:=(hn q hq).1
   have t1:=mul1 ok'.t1 n1
   have am:=gP (show 0<=a.1*q.1 by omega) c1
   refine ⟨am,nA t1 c1,Int.dvd_trans (uZ _ _) (Int.dvd_mul_left _ _),?_⟩
   have cr:=eC (a.1*q.1) (a.2*ptot qs)
   have qs':=jU (fun p hp=>(hn p hp).1) hq
   have am1:=am.b1
   show (lw (a.1*q.1) (a.2*ptot qs)).1<=a.1*(lw (a.1*q.1) (a.2*ptot qs)).2
   generalize lw (a.1*q.1) (a.2*ptot qs)=z at *
   refine Int.le_of_mul_le_mul_right (a:=a.2*ptot qs) ?_ (by omega)
   rw [cr]
   have m0:q.1<=a.2*ptot qs:=by
    have:=Int.mul_le_mul_of_nonneg_right ab (show 0<=ptot qs by omega)
    omega
   have m1:=Int.mul_le_mul_of_nonneg_left m0 (Int.mul_nonneg a0 (show 0<=z.2 by omega))
   have e1:a.1*q.1*z.2=a.1*z.2*q.1:=by grind
   rw [e1]
   exact m1
  refine ⟨a.2*ptot qs,a.1,c1,?_,a0,.inl (two ok'.bt a0),by simp [rowP]; exact l4,hq,pos _ (fun p hp=>⟨(hq p hp).1,(hq p hp).2.1⟩) ?_⟩
  ·exact (ok'.bb.mul (bP 6 (c:=64) (by omega) (by omega))).mono (by decide)
  ·intro z
   have:=congrArg List.length z
   simp [rowP] at this
   rw [this] at l1
   exact absurd l1 (by decide)
 | to n x =>
  obtain ⟨n1,n9,l1⟩:=ok
  have V1:=h.V1
  have am:=gP (show 0<=l.1*n by have:=mul1 l1 n1; omega) b1
  have hq : ∀ p ∈ rowP i l (.to n x),Am p.2.2/\1<=p.2.2.1/\p.2.2.2 ∣ M*1/\p.2.2.1<=9*V*p.2.2.2:=fun p hp=>by
   have e:p=(i,x,lw (l.1*n) l.2):=List.mem_singleton.mp hp
   subst e
   refine ⟨am,nA (mul1 l1 n1) b1,by rw [Int.mul_one]; exact Int.dvd_trans (uZ _ _) ld,?_⟩
   have cr:=eC (l.1*n) l.2
   have v:=h.val
   have am1:=am.b1
   show (lw (l.1*n) l.2).1<=9*V*(lw (l.1*n) l.2).2
   generalize lw (l.1*n) l.2=z at *
   refine Int.le_of_mul_le_mul_right (a:=l.2) ?_ (by omega)
   rw [cr]
   have m1:l.1*n<=V*l.2*9:=Int.mul_le_mul v n9 (by omega) (Int.mul_nonneg (by omega) (by omega))
   have m2:=Int.mul_le_mul_of_nonneg_right m1 (show 0<=z.2 by omega)
   have e:V*l.2*9*z.2=9*V*z.2*l.2:=by grind
   omega
  exact ⟨1,9*V,by decide,bP 38 (c:=2) (by decide) (by decide),by omega,.inr (Int.le_refl _),(by show 1<=4; decide),hq,pos _ (fun p hp=>⟨(hq p hp).1,(hq p hp).2.1⟩) (by simp [rowP])⟩
 | fill a x =>
  obtain ⟨ok',le⟩:=ok
  have a0:=ok'.am.t0
  have ab:=ok'.am.b1
  have am:=qM ok'.am hl le
  have er:rowP i l (.fill a x)=if 0 < (dI a l).1 then [(i,x,dI a l)] else []:=rfl
  have hq : ∀ p ∈ rowP i l (.fill a x),Am p.2.2/\1<=p.2.2.1/\p.2.2.2 ∣ M*a.2/\p.2.2.1<=a.1*p.2.2.2:=fun p hp=>by
   rw [er] at hp
   split at hp
   ·rename_i hz
    have e:p=(i,x,dI a l):=List.mem_singleton.mp hp
    subst e
    refine ⟨am,by have:0 < (dI a l).1:=hz; exact this,?_,?_⟩
    ·refine Int.dvd_trans (uZ _ _) ?_
     rw [Int.mul_comm M]
     exact Int.mul_dvd_mul_left a.2 ld
    ·have cr:=eC (a.1*l.2 - l.1*a.2) (a.2*l.2)
     have am1:=am.b1
     show (dI a l).1<=a.1*(dI a l).2
     unfold dI at am1 ⊢
     generalize lw (a.1*l.2 - l.1*a.2) (a.2*l.2)=z at *
     refine Int.le_of_mul_le_mul_right (a:=a.2*l.2) ?_ (by have:=mul1 ab b1; omega)
     rw [cr]
     have z1:=Int.mul_nonneg hl.t0 (show 0<=a.2 by omega)
     have z2:a.1*l.2<=a.1*(a.2*l.2):=Int.mul_le_mul_of_nonneg_left (by have:=Int.mul_le_mul_of_nonneg_right ab (show 0<=l.2 by omega); omega) a0
     have m1:=Int.mul_le_mul_of_nonneg_right (show a.1*l.2 - l.1*a.2<=a.1*(a.2*l.2) by omega) (show 0<=z.2 by omega)
     have e:a.1*(a.2*l.2)*z.2=a.1*z.2*(a.2*l.2):=by grind
     omega
   ·cases hp
  refine ⟨a.2,a.1,ab,ok'.bb.mono (by decide),a0,.inl (two ok'.bt a0),by rw [er]; split <;> simp,hq,?_⟩
  by_cases z:rowP i l (.fill a x)=[]
  ·rw [z]
   show 1<=l.1
   have nz : ¬ 0 < (dI a l).1:=fun hz=>by
    rw [er,if_pos hz] at z
    cases z
   have z0:(dI a l).1=0:=by have:=am.t0; omega
   have cr:=eC (a.1*l.2 - l.1*a.2) (a.2*l.2)
   unfold dI at z0 am
   rw [z0,Int.zero_mul] at cr
   have am1:=am.b1
   have:a.1*l.2 - l.1*a.2=0:=by
    rcases Int.mul_eq_zero.mp cr.symm with h' | h'
    ·exact h'
    ·omega
   have p1:=mul1 ok'.t1 b1
   by_cases q:1<=l.1
   ·exact q
   ·have:l.1=0:=by have:=hl.t0; omega
    have e0:l.1*a.2=0:=by rw [this,Int.zero_mul]
    omega
  ·exact pos _ (fun p hp=>⟨(hq p hp).1,(hq p hp).2.1⟩) z
theorem Rs.ri {rs:List Rw}{ps:List Pu}{l:Q}(h:Rs rs ps l) : ∃ M N V,RI rs.length ps l M N V:=by
 induction h with
 | nil=>exact ⟨1,0,1,(Fr.zero:Fr 1 0 1 0),by decide,bP 1 (c:=2) (by decide) (by decide),by decide,bP 1 (c:=2) (by decide) (by decide),by decide,(fun p h=>nomatch h),rfl,by decide,fun h=>absurd h (by decide)⟩
 | @snoc rs ps l r _ ok ih =>
  obtain ⟨M,N,V,ri⟩:=ih
  obtain ⟨c,U,h1,h2,h3,h4,h5,h6,h7⟩:=qB rs.length ri ok
  obtain ⟨N',ri'⟩:=ri.step h1 h2 h3 h4 h5 h6 h7
  exact ⟨_,N',_,by rw [List.length_append]; exact ri'⟩
theorem RI.small {n:Nat}{ps:List Pu}{l:Q}{M N V:Int}(h:RI n ps l M N V)(hn:n<=6):Bt 480 l.1/\Bt 480 l.2/\∀ p ∈ ps,Bt 480 p.2.2.1/\Bt 480 p.2.2.2:=by
 have go : ∀ a:Q,Am a->a.2 ∣ M->a.1<=V*a.2->Bt 480 a.1/\Bt 480 a.2:=fun a am d le=>by
  have b2:Bt (40*n+1) a.2:=h.bM.le (by have:=am.b1; omega) (Int.le_of_dvd h.M0 d)
  exact ⟨((h.bV.mul b2).le am.t0 le).mono (by omega),b2.mono (by omega)⟩
 exact ⟨(go l h.fq.am h.fq.dvd h.val).1,(go l h.fq.am h.fq.dvd h.val).2,fun p hp=>go _ (h.dv p hp).1 (h.dv p hp).2.2.1 (h.dv p hp).2.2.2⟩
theorem Rs.cut {rs:List Rw}{ps:List Pu}{l:Q}(h:Rs rs ps l) : ∀ {rs' r},rs=rs' ++ [r]->∃ ps' l',Rs rs' ps' l'/\ROk l' r/\ps=ps' ++ rowP rs'.length l' r/\l=fo l' (amts (rowP rs'.length l' r)):=by
 cases h with
 | nil=>intro rs' r e; simp at e
 | snoc h ok =>
  intro rs' r e
  obtain ⟨e1,e2⟩:=List.append_inj' e rfl
  cases e2
  subst e1
  exact ⟨_,_,h,ok,rfl,rfl⟩
end BQ
namespace BQ
open PySem PySem.Spec PyProof.Rows L2 GM
structure L2R {α:Type}(R:V->α->Prop)(us:List V)(ps:List α):Prop where
 len:us.length=ps.length
 at' : ∀ (i:Nat) u p,us[i]?=some u->ps[i]?=some p->R u p
theorem L2R.nil {α:Type}{R:V->α->Prop}:L2R R [] []:=⟨rfl,fun i u p h=>by simp at h⟩
theorem L2R.imp {α:Type}{R S:V->α->Prop}{us:List V}{ps:List α}(h:L2R R us ps)(f : ∀ u p,R u p->S u p):L2R S us ps:=⟨h.len,fun i u p a b=>f u p (h.at' i u p a b)⟩
theorem L2R.get {α:Type}{R:V->α->Prop}{us:List V}{ps:List α}(h:L2R R us ps){i:Nat}{u:V}(e:us[i]?=some u) : ∃ p,ps[i]?=some p/\R u p:=by
 have hi:i < ps.length:=by rw [<- h.len]; exact (List.getElem?_eq_some_iff.mp e).1
 exact ⟨ps[i],List.getElem?_eq_getElem hi,h.at' i u _ e (List.getElem?_eq_getElem hi)⟩
theorem L2R.snoc {α:Type}{R:V->α->Prop}{us:List V}{ps:List α}{u:V}{p:α}(h:L2R R us ps)(r:R u p):L2R R (us ++ [u]) (ps ++ [p]):=by
 refine ⟨by rw [List.length_append,List.length_append,h.len]; rfl,fun i v q hv hq => ?_⟩
 rcases eB hv with ⟨_,a⟩ | ⟨e,rfl⟩
 ·rcases eB hq with ⟨_,b⟩ | ⟨e,_⟩
  ·exact h.at' i v q a b
  ·have:=(List.getElem?_eq_some_iff.mp a).1
   have:=h.len
   omega
 ·rcases eB hq with ⟨l,_⟩ | ⟨_,rfl⟩
  ·have:=h.len
   omega
  ·exact r
theorem L2R.append {α:Type}{R:V->α->Prop}{us:List V}{ps:List α}(h:L2R R us ps) : ∀ {vs:List V} {qs:List α},L2R R vs qs->L2R R (us ++ vs) (ps ++ qs):=by
 intro vs qs k
 refine ⟨by rw [List.length_append,List.length_append,h.len,k.len],fun i v q hv hq => ?_⟩
 by_cases hi:i < us.length
 ·rw [List.getElem?_append_left hi] at hv
  rw [List.getElem?_append_left (by rw [<- h.len]; exact hi)] at hq
  exact h.at' i v q hv hq
 ·rw [List.getElem?_append_right (by omega)] at hv
  rw [List.getElem?_append_right (by rw [<- h.len]; omega),<- h.len] at hq
  exact k.at' _ v q hv hq
theorem L2R.of {α:Type}{R:V->α->Prop}{us:List V}{ps:List α}(len:us.length=ps.length)(h : ∀ (i:Nat) p u,ps[i]?=some p->us[i]?=some u->R u p):L2R R us ps:=⟨len,fun i u p a b=>h i p u b a⟩
theorem L2R.one {α:Type}{R:V->α->Prop}{u:V}{p:α}(r:R u p):L2R R [u] [p]:=by
 have:=(L2R.nil (R:=R)).snoc r
 exact this
abbrev AmV (H:Hp)(m:Addr)(a:Q):Prop:=H m=some (.tup [.int a.1,.int a.2])
def PrV (H:Hp)(v:V)(p:Int × Str):Prop:=∃ z,v = .ref z/\H z=some (.tup [.int p.1,.str p.2])
def PaV (H:Hp)(v:V)(p:Str × Q):Prop:=∃ z m,v = .ref z/\H z=some (.tup [.str p.1,.ref m])/\AmV H m p.2
def PuV (H:Hp)(v:V)(p:Pu):Prop:=∃ z m,v = .ref z/\H z=some (.tup [.int p.1,.str p.2.1,.ref m])/\AmV H m p.2.2
theorem PrV.keep {H H':Hp}{v:V}{p:Int × Str}(k:Tk H H')(h:PrV H v p):PrV H' v p:=by
 obtain ⟨z,e,a⟩:=h
 exact ⟨z,e,k _ _ a⟩
theorem PaV.keep {H H':Hp}{v:V}{p:Str × Q}(k:Tk H H')(h:PaV H v p):PaV H' v p:=by
 obtain ⟨z,m,e,a,b⟩:=h
 exact ⟨z,m,e,k _ _ a,k _ _ b⟩
theorem PuV.keep {H H':Hp}{v:V}{p:Pu}(k:Tk H H')(h:PuV H v p):PuV H' v p:=by
 obtain ⟨z,m,e,a,b⟩:=h
 exact ⟨z,m,e,k _ _ a,k _ _ b⟩
inductive RowV (H:Hp):V->Rw->Prop
 | take {p m a x}:H p=some (.tup [.str "take",.ref m,.str x])->AmV H m a->RowV H (.ref p) (.take a x)
 | parts {p m q a us ps}:H p=some (.tup [.str "parts",.ref m,.ref q])->AmV H m a->H q=some (.tup us)->L2R (PrV H) us ps->RowV H (.ref p) (.parts a ps)
 | to {p n x}:H p=some (.tup [.str "to",.int n,.str x])->RowV H (.ref p) (.to n x)
 | fill {p m a x}:H p=some (.tup [.str "fill",.ref m,.str x])->AmV H m a->RowV H (.ref p) (.fill a x)
theorem RowV.keep {H H':Hp}{v:V}{r:Rw}(k:Tk H H')(h:RowV H v r):RowV H' v r:=by
 cases h with
 | take a b=>exact .take (k _ _ a) (k _ _ b)
 | parts a b c d=>exact .parts (k _ _ a) (k _ _ b) (k _ _ c) (d.imp fun _ _ x=>x.keep k)
 | to a=>exact .to (k _ _ a)
 | fill a b=>exact .fill (k _ _ a) (k _ _ b)
def rowQ (l:Q)(r:Rw):List (Str × Q):=(rowP 0 l r).map (·.2)
theorem jS (i:Int)(l:Q)(r:Rw):rowP i l r=(rowQ l r).map fun p=>(i,p.1,p.2):=by
 cases r with
 | take a x=>rfl
 | parts a ps=>unfold rowQ rowP; rw [List.map_map,List.map_map]; rfl
 | to n x=>rfl
 | fill a x =>
  have e : ∀ j,rowP j l (.fill a x)=if 0 < (dI a l).1 then [(j,x,dI a l)] else []:=fun _=>rfl
  unfold rowQ
  rw [e,e]
  split <;> rfl
theorem wN (i:Int)(l:Q)(r:Rw):amts (rowP i l r)=(rowQ l r).map (·.2):=by
 rw [jS]
 unfold amts
 rw [List.map_map]
 rfl
structure Sz (a:Q):Prop where
 am:Am a
 bt:Bt 4000 a.1
 bb:Bt 4000 a.2
theorem sz0:Sz (0,1):=⟨am0,(bP 2 (c:=2) (by decide) (by decide):Bt 2 (0:Int)).mono (by decide),(bP 2 (c:=2) (by decide) (by decide):Bt 2 (1:Int)).mono (by decide)⟩
end BQ
namespace L2
open PySem PySem.Spec PyProof.Rows
def Ite (K:PySem.W.Frag)(b:Addr):It :=
  ⟨fun i H=>∃ ys,SqL K H b ys/\i < ys.length,
   fun i H v H'=>∃ T,H T=none/\v = .ref T/\∀ ys,SqL K H b ys->∃ y,ys[i]?=some y/\H'=upd H T (.tup [.int i,y]),
   fun i H=>∃ ys,SqL K H b ys/\i=ys.length⟩
def EnuSt (n b:Nat)(i:Nat)(h:Heap):Prop:=(∃ old,IsEnum h (n+1) n (i:Int) old)/\h.IsListIter n b i
def iEnu (K:PySem.W.Frag)(ta:TA):TI:=fun σ H R=>ta σ H fun vs H1=>∃ b,vs=[.ref b]/\(∃ ys,SqL K H1 b ys)/\R (Ite K b) H1
theorem oA:bootBuiltins "enumerate" = some (.type "enumerate"):=by decide +kernel
end L2
namespace HT
open PySem PySem.Spec PyProof.Rows
open AutoSeq1 (wpAny_loadPart')
theorem gO (l:Addr)(items:Array Value)(n:Nat)(dct:Option Addr)(sl:Array (Option Value)) :
  Meets (Builtin.«enumerate.__new__» ⟨[.type "enumerate",.ref l],[]⟩) (fun _ R s=>s.heap.get? l=some { cls:=.type "tuple",dict:=dct,data:=.seq items n,slots:=sl } /\
   R (.ok (.ret (.ref (s.heap.push { cls:=.type "tuple_iterator",data:=.fields #[.ref l,.int 0 0] }).objs.size)))
    { s with heap:=(s.heap.push { cls:=.type "tuple_iterator",data:=.fields #[.ref l,.int 0 0] }).push { cls:=.type "enumerate",data:=.fields #[.none,.bool false,.ref s.heap.objs.size,rawInt 0,.none,.none] } }) :=
 .of_wp fun prog w A R s h=>by
  obtain ⟨hp,g,d,tk,os⟩:=s; obtain ⟨hl,h⟩:=h
  have hL:Heap.IsTuple hp l items:=⟨_,hl,rfl,_,rfl⟩
  have hsub:=sub_enumerate
  wp_walk using wpAny_loadPart' hl
  refine wpAny_stack_any fun st=>wpAny_pure ?_
  split
  ·rename_i c _ _ _ _ _
   cases (c == Value.type "enumerate")
   ·wp_walk using wpAny_loadPart' hl,wpAny_pyIter_tuple hL
    exact ⟨_,rfl,h⟩
   ·wp_walk using wpAny_loadPart' hl,wpAny_pyIter_tuple hL
    exact ⟨_,rfl,h⟩
  ·wp_walk using wpAny_loadPart' hl,wpAny_pyIter_tuple hL
   exact ⟨_,rfl,h⟩
section
variable {prog:Program}{w:World}{A:Around}{E:Value->Shared->Prop}{s:Shared}
theorem call_enumerate_tup {l:Addr}{items:Array Value}{Q:Value->Shared->Prop}(hL:s.heap.IsTuple l items)
  (h : ∀ h',IsEnum h' (s.heap.objs.size+1) s.heap.objs.size 0 .none->h'.IsTupleIter s.heap.objs.size l 0->h'.objs.size=s.heap.objs.size+2 ->
   (∀ b o,s.heap.get? b=some o->h'.get? b=some o)->Q (.ref (s.heap.objs.size+1)) { s with heap:=h' }) :
  wpAny (model prog w) A (call (.type "enumerate") [.ref l]) Q E s:=by
 obtain ⟨⟨c,dct,dt,sl⟩,hl,hc,n,hd⟩:=hL
 replace hc:c = .type "tuple" := hc
 replace hd:dt = .seq items n:=hd
 subst hc hd
 refine callType_new F.called_enumerate (by decide) (F.typeCall_enumerate_1 _) (F.newCall_enumerate_1 _) (fun obj=>F.args_object_init_2 obj _) F.entry_enumerate_new
  (gO l items n dct sl) ⟨hl,?_⟩
 have hz:(s.heap.push { cls:=.type "tuple_iterator",data:=.fields #[.ref l,.int 0 0] }).objs.size=s.heap.objs.size+1:=Heap.size_push ..
 show _/\_
 rw [hz]
 have he:IsEnum ((s.heap.push { cls:=.type "tuple_iterator",data:=.fields #[.ref l,.int 0 0] }).push
   { cls:=.type "enumerate",data:=.fields #[.none,.bool false,.ref s.heap.objs.size,rawInt 0,.none,.none] }) (s.heap.objs.size+1) s.heap.objs.size 0 .none:=by
  have:=Heap.get?_push_size (s.heap.push { cls:=.type "tuple_iterator",data:=.fields #[.ref l,.int 0 0] })
   (o:={ cls:=.type "enumerate",data:=.fields #[.none,.bool false,.ref s.heap.objs.size,rawInt 0,.none,.none] }) rfl
  rw [hz] at this; exact this
 refine ⟨⟨_,he,rfl⟩,h _ he ⟨_,Heap.get?_push_of_some _ (Heap.get?_push_size _ rfl),rfl,rfl⟩ (by rw [Heap.size_push,hz]) fun b o x=>Heap.get?_push_of_some _ (Heap.get?_push_of_some _ x)⟩
end
end HT
namespace L2
open PySem PySem.Spec PyProof.Rows
def IteT (K:PySem.W.Frag)(b:Addr):It :=
  ⟨fun i H=>∃ ys,SqT K H b ys/\i < ys.length,
   fun i H v H'=>∃ T,H T=none/\v = .ref T/\∀ ys,SqT K H b ys->∃ y,ys[i]?=some y/\H'=upd H T (.tup [.int i,y]),
   fun i H=>∃ ys,SqT K H b ys/\i=ys.length⟩
def aFu (n b:Nat)(i:Nat)(h:Heap):Prop:=(∃ old,IsEnum h (n+1) n (i:Int) old)/\h.IsTupleIter n b i
theorem rF {P:Program}{w:World}{K:PySem.W.Frag}{es:List Expr}{k1:Nat}{p1:Pos}{n b:Nat}(hb:b < n):Turn P w K (.Tuple es k1 p1) (IteT K b) [n+1,n] (n+1) (aFu n b) where
 mem:=by simp
 obj:=fun i h st c hc=>by
  obtain ⟨⟨old,c1⟩,⟨o5,d5,_,f5⟩⟩:=st
  have hc':c=n+1\/c=n:=by simpa using hc
  rcases hc' with e | e
  ·subst e; exact ⟨_,c1,fun v z=>by cases z⟩
  ·subst e; exact ⟨_,d5,fun v z=>by rw [f5] at z; cases z⟩
 keep:=fun i h h' st k=>by
  obtain ⟨⟨old,c1⟩,c5⟩:=st
  exact ⟨⟨old,k _ (by simp) _ c1⟩,c5.at fun o e=>k _ (by simp) o e⟩
 item:=by
  intro X hP hw hK hc i pins s σ H E I hf st hg
  subst hP hw hK
  obtain ⟨ys,hy,l2⟩:=hg
  obtain ⟨its',r2,ty,_⟩:=I.tuple hy
  have e2:=r2.length
  obtain ⟨⟨old,c1⟩,c5⟩:=st
  obtain ⟨vy,hvy⟩ : ∃ v,ys[i]?=some v:=⟨_,List.getElem?_eq_getElem l2⟩
  obtain ⟨uy,huy,ry⟩:=r2.get hvy
  have D:=jI (prog:=X.prog) (w:=X.w) (A:=X.A.in1) (I.ok.hd hc) n b (by show (_:Nat) ≠ _; omega) its'.toArray
  refine wpAny_pyNext_enum_itemD D c1 ⟨c5,ty⟩ (by rw [List.size_toArray,<- e2]; exact l2) (by show (_:Nat) ≠ _; omega) (fun z=>by
   rcases List.mem_cons.mp z with z | z
   ·exact absurd z (by show (_:Nat) ≠ _; omega)
   ·exact absurd (List.mem_singleton.mp z) (by show (_:Nat) ≠ _; omega)) fun x g tk hx cz s2 cT sz kp=>⟨.ref s.heap.objs.size,rfl,?_⟩
  have ex:x=uy:=by
   rw [<- Array.getElem?_toList,List.toList_toArray,huy] at hx
   exact (Option.some.inj hx).symm
  subst ex
  refine wpAny_letOwnedTupleGo_enum (s:={ s with heap:=g,toks:=tk+1 }) cz fun g' cz' sb => ?_
  have hfr:H s.heap.objs.size=none:=I.hok.fresh (Nat.le_refl _)
  have I0:Inv X pins σ (upd H s.heap.objs.size (.tup [.int i,vy])) { s with heap:=s.heap.push { cls:=.type "tuple",data:=.seq #[.int i tk,x] },toks:=tk+1 } :=
   I.laid (fun c u q=>Heap.get?_push_of_some _ q) (Nat.le_refl _) ⟨by show 2<=sizeLine; decide,[.int i tk,x],.cons ⟨_,rfl⟩ (.cons ry .nil),⟨_,Heap.get?_push_size s.heap rfl,rfl,_,rfl⟩⟩
  have lz:n+1 < s.heap.objs.size:=Heap.lt_size c1
  have fpn : ∀ c ∈ [n+1,n],c ≠ s.heap.objs.size:=fun c hc'=>by
   have hc'':c=n+1\/c=n:=by simpa using hc'
   rcases hc'' with e | e <;> (subst e; exact Nat.ne_of_lt (by omega))
  have hf0 : ∀ c ∈ [n+1,n],FpOk X pins (upd H s.heap.objs.size (.tup [.int i,vy])) c:=fun c hc'=>⟨by rw [aL (fpn c hc')]; exact (hf c hc').1,(hf c hc').2⟩
  have I1:Inv X pins σ (upd H s.heap.objs.size (.tup [.int i,vy])) { s with heap:=g',toks:=tk+1 }:=by
   refine Inv.turnedL (s:={ s with heap:=s.heap.push { cls:=.type "tuple",data:=.seq #[.int i tk,x] },toks:=tk+1 }) (h':=g') (t':=tk+1) (ch:=[n+1,n]) I0 (fun c o hc' e => ?_) hf0
   replace e:(s.heap.push { cls:=.type "tuple",data:=.seq #[.int i tk,x] }).get? c=some o:=e
   have hn : ∀ d ∈ [n+1,n],c ≠ d:=fun d hd z=>hc' (by rw [z]; exact hd)
   refine sb.extBut _ _ (hn _ (by simp)) ?_
   by_cases ec:c=s.heap.objs.size
   ·rw [ec] at e ⊢
    rw [Heap.get?_push_size s.heap rfl] at e
    cases e
    exact cT
   ·rw [Heap.get?_push_ne _ _ _ ec] at e
    exact kp c o (hn _ (by simp)) (hn _ (by simp)) e
  refine ⟨.ref s.heap.objs.size,_,I1,rfl,⟨_,hfr,rfl,fun ys' hy'=>⟨vy,by rw [I.tuple_inj hy' hy]; exact hvy,rfl⟩⟩,?_,fun c hc'=>(hf0 c hc').1⟩
  exact ⟨⟨x,cz'⟩,s2.1.extBut sb.extBut (Nat.ne_of_lt (Nat.lt_succ_self n))⟩
 done:=by
  intro X hP hw hK hc i pins s σ H E I hf st hg
  subst hP hw hK
  obtain ⟨ys,hy,l⟩:=hg
  obtain ⟨its',r2,ty,_⟩:=I.tuple hy
  have e2:=r2.length
  obtain ⟨⟨old,c1⟩,c5⟩:=st
  have hh:X.A.handled=none:=I.ok.hd hc
  have D:=jI (prog:=X.prog) (w:=X.w) (A:=X.A.in1) hh n b (by show (_:Nat) ≠ _; omega) its'.toArray
  have ez:i=its'.toArray.size:=by rw [List.size_toArray,<- e2]; exact l
  refine wpAny_pyNext_enum_endD D c1 (ez ▸ ⟨c5,ty⟩) fun g kp=>⟨rfl,I.turnedL (t':=s.toks) (ch:=[n+1,n]) (fun c o hc' e => ?_) hf⟩
  exact kp c o (fun z=>hc' (by rw [z]; simp)) e
 self:=fun _ _ _ _ _ st h=>let ⟨⟨_,c1⟩,_⟩:=st; wpAny_pyIter_enum c1 h
def aGn (K:PySem.W.Frag)(ta:TA):TI:=fun σ H R=>ta σ H fun vs H1=>∃ b,vs=[.ref b]/\(∃ ys,SqT K H1 b ys)/\R (IteT K b) H1
theorem xK {X:Cx}{es:List Expr}{k1:Nat}{p1:Pos}{e1:Expr}{ta:TA}{p pos:Pos}(hg:Gl X "enumerate")(hm:X.mg "enumerate" = none)(ha:PA X [e1] ta)(hs:starEach [e1] X.env=[(false,eval e1 X.env)]:=by rfl) :
  PI X (.Tuple es k1 p1) (.Call (.Name "enumerate" p) [e1] [] pos) (aGn X.K ta):=by
 intro pins s σ H R I h
 refine Call_ (iU I hg hm oA (PyProof.Rows.callWith_type1 (thn (ha pos pins s σ H _ I h) fun us s1 ⟨vs,H1,I1,r1,q1⟩ => ?_) hs rfl))
 obtain ⟨b,rfl,⟨ys,hy⟩,q⟩:=q1
 cases r1 with
 | cons r rr =>
  cases rr
  cases r
  obtain ⟨its',_,ty,_⟩:=I1.tuple hy
  have lb:b < s1.heap.objs.size:=by obtain ⟨o,e,_⟩:=show Heap.IsTuple _ _ _ from ty; exact Heap.lt_size e
  refine HT.call_enumerate_tup (show s1.heap.IsTuple _ _ from ty) fun g c1 c5 _ kp=>wpAny_pyIter_enum c1 ?_
  have I2:Inv X pins σ H1 { s1 with heap:=g }:=I1.kept (t':=s1.toks) kp
  refine ⟨s1.heap.objs.size+1,_,_,_,H1,rfl,I2,rF lb,⟨⟨_,c1⟩,c5⟩,fun c hc => ?_,q⟩
  refine I1.fpOk ?_ (I1.hok.fresh ?_)
  all_goals
   have hc':c=s1.heap.objs.size+1\/c=s1.heap.objs.size:=by simpa using hc
   rcases hc' with e | e <;> (subst e; omega)
theorem vQ {K:PySem.W.Frag}{b:Addr}{ys:List V}{g:TG}{tb:TS}{D:Ends}{σ:St}{H:Hp}(Pv:Nat->St->Hp->Prop)(h0:Pv 0 σ H)(hl : ∀ i σ H,i<=ys.length->Pv i σ H->SqT K H b ys)
  (hs : ∀ i y T σ H,ys[i]?=some y->H T=none->Pv i σ H->g (.ref T) σ (upd H T (.tup [.int (i:Nat),y])) fun σ2 H2=>tb { D with nx:=Pv (i+1),ct:=Pv (i+1),bk:=D.nx } σ2 H2) (hd : ∀ σ H,Pv ys.length σ H->D.nx σ H) :
  ∃ W:Nat->Nat->St->Hp->Prop,(∃ m,W 0 m σ H)/\∀ i m σ H,W i m σ H ->
   ((IteT K b).stop i H/\D.nx σ H)\/((IteT K b).go i H/\∃ N:St->Hp->Prop,(∀ σ' H',N σ' H'->∃ m',m' < m/\W (i+1) m' σ' H')/\∀ v H',(IteT K b).yld i H v H'->g v σ H' fun σ2 H2=>tb { D with nx:=N,ct:=N,bk:=D.nx } σ2 H2):=by
 refine ⟨fun i m σ H=>m=ys.length - i/\i<=ys.length/\Pv i σ H,⟨ys.length,by simp,Nat.zero_le _,h0⟩,?_⟩
 rintro i m σ H ⟨rfl,hi,p⟩
 have q2:=hl i σ H hi p
 by_cases hlt:i < ys.length
 ·refine .inr ⟨⟨ys,q2,hlt⟩,Pv (i+1),fun σ' H' p'=>⟨ys.length - (i+1),by omega,rfl,hlt,p'⟩,fun v H' y => ?_⟩
  obtain ⟨T,hT,rfl,y⟩:=y
  obtain ⟨y',e2,rfl⟩:=y ys q2
  exact hs i y' T σ H e2 hT p
 ·have e:i=ys.length:=by omega
  subst e
  exact .inl ⟨⟨ys,q2,rfl⟩,hd σ H p⟩
variable {X:Cx}
def tRev (K:PySem.W.Frag)(te:TE)(tk:TO):TE:=fun σ H Q=>te σ H fun x H1=>tk σ H1 fun st H2=>st=some (-1)/\∃ a xs,x = .ref a/\SqL K H2 a xs/\∀ p,H2 p=none->Q (.ref p) (upd H2 p (.lst xs.reverse))
def tListRng (ta:TA):TE:=fun σ H Q=>ta σ H fun vs H1=>∃ i j:Int,vs=[.int i,.int j]/\(-(2 ^ 62)<=i/\i < 2 ^ 62 /\ -(2 ^ 62)<=j/\j < 2 ^ 62)/\(j - i).toNat<=1000/\∀ p,H1 p=none->Q (.ref p) (upd H1 p (.lst (rngV i (j - i).toNat)))
def tListVals (td:TE):TE:=fun σ H Q=>td σ H fun x H1=>∃ a kvs,x = .ref a/\H1 a=some (.dK kvs)/\∀ p,H1 p=none->Q (.ref p) (upd H1 p (.lst (kvs.map (·.2))))
def Itz2 (K:PySem.W.Frag)(a b:Addr):It :=
  ⟨fun i H=>∃ xs ys,SqT K H a xs/\SqT K H b ys/\i < xs.length/\i < ys.length,
   fun i H v H'=>∃ T,H T=none/\v = .ref T/\∀ xs ys,SqT K H a xs->SqT K H b ys->∃ x y,xs[i]?=some x/\ys[i]?=some y/\H'=upd H T (.tup [x,y]),
   fun i H=>∃ xs ys,SqT K H a xs/\SqT K H b ys/\(i=xs.length\/(i < xs.length/\i=ys.length))⟩
def ZipSt2 (n a b:Nat)(i:Nat)(h:Heap):Prop:=IsZip h (n+4) (n+2) (n+3) .none/\IsPair h (n+2) (.ref n) (.ref (n+1))/\(∃ x y,IsPair h (n+3) x y)/\h.IsTupleIter n a i/\h.IsTupleIter (n+1) b i
abbrev yo1 (h:Heap)(a:Addr):Heap:=h.push { cls:=.type "tuple_iterator",data:=.fields #[.ref a,.int 0 0] }
abbrev yo2 (h:Heap)(a b:Addr):Heap:=(yo1 h a).push { cls:=.type "tuple_iterator",data:=.fields #[.ref b,.int 0 0] }
abbrev yo3 (h:Heap)(a b:Addr):Heap:=(yo2 h a b).push { cls:=.type "tuple",data:=.seq #[.ref h.objs.size,.ref (yo1 h a).objs.size] }
abbrev yo4 (h:Heap)(a b:Addr):Heap:=(yo3 h a b).push { cls:=.type "tuple",data:=.seq #[.none,.none] }
abbrev yo5 (h:Heap)(a b:Addr):Heap:=(yo4 h a b).push { cls:=.type "zip",data:=.fields #[.none,.bool false,.bool false,.ref (yo2 h a b).objs.size,.ref (yo3 h a b).objs.size] }
def iZip2 (K:PySem.W.Frag)(ta:TA):TI:=fun σ H R=>ta σ H fun vs H1=>∃ a b,vs=[.ref a,.ref b]/\(∃ xs,SqT K H1 a xs)/\(∃ ys,SqT K H1 b ys)/\R (Itz2 K a b) H1
variable {X:Cx}
def aEd:List V->Hp->VK->Prop:=fun xs H Q=>∃ a kvs,∃ ss:List Str,xs=[.ref a]/\H a=some (.dK kvs)/\kvs.map (·.1)=ss.map Sum.inr/\∀ p,H p=none->Q (.ref p) (upd H p (.lst (ss.map V.str)))
theorem mJ : ∀ {ss:List Str} {us:List Value},StrsAre us ss->Vals (ss.map V.str) us
 | _,_,.nil=>.nil
 | _,_,.cons x t r=>.cons ⟨t,rfl⟩ (mJ r)
theorem sK (hc:X.calm=true):hZ X (.type "list") aEd:=by
 intro pins s σ H xs us Q I r h
 obtain ⟨a,kvs,ss,rfl,hH,hk,q⟩:=h
 obtain ⟨u,rfl,rx⟩:=jL r
 cases rx
 obtain ⟨z,lo,vs,rel,dd⟩:=aC0 I.hok hH
 obtain ⟨ep,hat⟩:=dd.dictAt
 refine PySem.W.kdl_call (PySem.W.kdl_dict (knd:=bR X.prog X.w) (kvs:=vs) (ep:=ep) lo) (I.ok.hd hc) hat (by rw [<- rel.length]; exact z) fun h' tk acc' c' hk' hS' hacc => ?_
 have hl:acc'.toList.length=vs.length:=by rw [Array.length_toList]; exact hacc.1
 have hS:=nI (P:=X.prog) (w:=X.w) (ss:=ss) (vs:=vs) (acc:=acc'.toList) (by rw [<- rel.keys]; exact hk) hl (fun j v e=>hacc.2 j v (by rw [<- Array.getElem?_toList]; exact e))
 have hss:ss.length=kvs.length:=by
  have:=congrArg List.length hk
  rw [List.length_map,List.length_map] at this
  exact this.symm
 refine ⟨.ref _,_,I.laid (o:=.lst (ss.map V.str)) hk' (Nat.le_refl _) ?_,rfl,q _ (I.hok.fresh (Nat.le_refl _))⟩
 exact ⟨by rw [List.length_map,hss]; exact z,acc'.toList,c',mJ hS,hS'⟩
def tListRng3 (ta:TA):TE:=fun σ H Q=>ta σ H fun vs H1=>∃ i j c:Int,vs=[.int i,.int j,.int c]/\(-(2 ^ 20)<=i/\i < 2 ^ 20 /\ -(2 ^ 20)<=j/\j < 2 ^ 20/\1<=c/\c < 2 ^ 20)/\(j - i) / c<=900 /\
 ∀ p (ms:List Int),(∀ x ∈ ms,i<=x/\x < j)->(ms.length:Int)<=max 0 ((j - i - 1) / c+1)->H1 p=none->Q (.ref p) (upd H1 p (.lst (ms.map V.int)))
variable {X:Cx}
theorem Inv.freeze {pins:List (Addr × Obj)}{σ:St}{H:Hp}{s:Shared}(I:Inv X pins σ H s){d:Addr}{kvs:List (Key × V)}{ob:Obj}(hH:H d=some (.dK kvs))(ho:s.heap.get? d=some ob) :
  Inv X pins σ (upd H d (.frz ob (.dK kvs))) s:=by
 have nd : ∀ b u,H b=some u->u ≠ .dK kvs->b ≠ d:=fun b u e n z=>by
  rw [z,hH] at e
  exact n (Option.some.inj e).symm
 refine I.step (g':=s.gens) (d':=s.drawn) (t':=s.toks) (h':=s.heap) (ch:=[]) (fun _ z=>nomatch z) (fun b o _ _ _ e _=>e) (fun b o _ _ _ e _=>⟨o.slots,e⟩) (fun b o _ e n => ?_) (fun b o _ e=>⟨o,e⟩) (fun b xs e => ?_) (fun b o u e => ?_) (fun b ps e=>⟨#[],?_⟩) (fun m hm=>hm) (fun b u e => ?_) I.bare
 ·rw [aL (fun z=>by rw [z,hH] at n; cases n)]
  exact n
 ·rw [aL (nd b _ e (by intro z; cases z))]
  exact e
 ·rw [aL (nd b _ e (by intro z; cases z))]
  exact e
 ·rw [aL (nd b _ e (by intro z; cases z)),e]
  simp
 ·have st : ∀ {a:Addr} {u:HO},ObjOk X.prog X.w H s.heap a u->ObjOk X.prog X.w (upd H d (.frz ob (.dK kvs))) s.heap a u:=fun x =>
   x.stay (fun c v _ q=>q) (fun c q=>by rw [aL (nd c _ q (by intro z; cases z))]; exact q) fun c xs q=>by rw [aL (nd c _ q (by intro z; cases z))]; exact q
  by_cases e':b=d
  ·subst e'
   rw [aB] at e
   cases e
   exact ⟨ho,st (I.hok b _ hH)⟩
  ·rw [aL e'] at e
   exact st (I.hok b u e)
def Itd (d:Addr)(ob:Obj)(kvs:List (Key × V)):It :=
 ⟨fun i H=>H d=some (.frz ob (.dK kvs))/\i < kvs.length,fun i H v H'=>H'=H/\∃ kv,kvs[i]?=some kv/\v=kV kv.1,fun i H=>H d=some (.frz ob (.dK kvs))/\kvs.length<=i⟩
theorem aCs {P:Program}{w:World}{k:Key}{v:Value}(h:(bR P w).is k v=true):RelV (kV k) v:=by
 cases k with
 | inl n =>
  obtain ⟨t,rfl⟩:=Value.isInt_shape (k:=n) (v:=v) h
  exact ⟨t,rfl⟩
 | inr x =>
  obtain ⟨t,rfl⟩:=Value.isStrOf_shape (x:=x) (v:=v) h
  exact ⟨t,rfl⟩
theorem sZ {P:Program}{w:World}{K:PySem.W.Frag}{tg:Expr}(d it:Addr)(ob:Obj)(kvs:List (Key × V))(vs:List (Key × Value))(ep:Nat)(rel:KV kvs vs)(hob : ∀ h:Heap,h.get? d=some ob->h.DictAt (bR P w) d vs ep) :
  Turn P w K tg (Itd d ob kvs) [it] it (fun i h=>h.IsKeyIter it d i vs.length ep) where
 mem:=by simp
 obj:=fun i h st b hb=>by
  have e:b=it:=by simpa using hb
  subst e
  obtain ⟨o,e,c,d⟩:=st
  exact ⟨o,e,fun v z=>by rw [d] at z; cases z⟩
 keep:=fun i h h' st k=>st.at fun o e=>k it (by simp) o e
 item:=by
  intro X hP hw hK hc i pins s σ H E I hf st hg
  subst hP hw hK
  obtain ⟨hfz,hi⟩:=hg
  have ho:s.heap.get? d=some ob:=(show ObjOk X.prog X.w H s.heap d (.frz ob (.dK kvs)) from I.hok d _ hfz).1
  have hat:=hob _ ho
  have hl:=rel.length
  obtain ⟨⟨k,x⟩,hx⟩ : ∃ p,vs[i]?=some p:=⟨_,List.getElem?_eq_getElem (by omega)⟩
  obtain ⟨f0,f1,f2,f3,f4,f5⟩:=hf it (by simp)
  refine wpAny_pyNext_dict_item st hat hx fun key h' hkey st' sb => ?_
  have I1:Inv X pins σ H { s with heap:=h' }:=I.turned (t':=s.toks) (fun b o hb e=>(sb.2 b hb).trans e) f0 f1 f3 f4 f5
  obtain ⟨kv,hkv⟩ : ∃ kv,kvs[i]?=some kv:=⟨_,List.getElem?_eq_getElem hi⟩
  have ek:kv.1=k:=by
   have:=congrArg (fun l=>l[i]?) rel.keys
   simp only [List.getElem?_map,hkv,hx,Option.map_some] at this
   exact Option.some.inj this
  obtain ⟨o,e,c,d'⟩:=id st'
  exact ⟨key,rfl,yY (s:={ s with heap:=h' }) e c d' (by decide) ⟨kV k,H,I1,aCs hkey,⟨rfl,kv,hkv,by rw [ek]⟩,st',fun b hb=>(hf b hb).1⟩⟩
 done:=by
  intro X hP hw hK hc i pins s σ H E I hf st hg
  subst hP hw hK
  obtain ⟨hfz,hi⟩:=hg
  have ho:s.heap.get? d=some ob:=(show ObjOk X.prog X.w H s.heap d (.frz ob (.dK kvs)) from I.hok d _ hfz).1
  have hat:=hob _ ho
  have hl:=rel.length
  obtain ⟨f0,f1,f2,f3,f4,f5⟩:=hf it (by simp)
  exact wpAny_pyNext_dict_end (I.ok.hd hc) st hat (List.getElem?_eq_none (by omega)) fun h' eb=>⟨rfl,I.turned (t':=s.toks) (fun b o hb e=>eb b o hb e) f0 f1 f3 f4 f5⟩
 self:=fun _ _ _ _ _ st h=>wpAny_pyIter_keyiter st h
def aGo (tl:TE):TI:=fun σ H R=>tl σ H fun x H1=>∃ d kvs,x = .ref d/\H1 d=some (.dK kvs)/\∀ ob,R (Itd d ob kvs) (upd H1 d (.frz ob (.dK kvs)))
theorem aBx {tg l:Expr}{tl:TE}(hl:PE X l tl):PI X tg l (aGo tl):=by
 intro pins s σ H R I h
 refine thn (hl pins s σ H _ I h) fun v s1 ⟨x,H1,I1,r1,q1⟩ => ?_
 obtain ⟨d,kvs,e,hH,q⟩:=q1
 subst e
 cases r1
 obtain ⟨z,lo,vs,rel,dd⟩:=aC0 I1.hok hH
 obtain ⟨ep,hat⟩:=dd.dictAt
 obtain ⟨ob,es,ho,rest⟩:=id hat
 refine wpAny_pyIter_dict lo hat ?_
 have I2:=I1.freeze hH ho
 refine ⟨s1.heap.objs.size,[s1.heap.objs.size],_,_,_,rfl,I2.kept (t':=s1.toks) fun b o e=>Heap.get?_push_of_some _ e,sZ d _ ob kvs vs ep rel (fun h e=>⟨ob,es,e,rest⟩),⟨_,Heap.get?_push_size _ rfl,rfl,rfl⟩,fun b hb => ?_,q ob⟩
 have e:b=s1.heap.objs.size:=by simpa using hb
 subst e
 exact I2.fpOk (Nat.le_refl _) (I2.hok.fresh (Nat.le_refl _))
theorem zI {d:Addr}{ob:Obj}{kvs:List (Key × V)}{g:TG}{tb:TS}{D:Ends}{σ:St}{H:Hp}(Pv:Nat->St->Hp->Prop)(h0:Pv 0 σ H)(hl : ∀ i σ H,i<=kvs.length->Pv i σ H->H d=some (.frz ob (.dK kvs)))
  (hs : ∀ i kv σ H,kvs[i]?=some kv->Pv i σ H->g (kV kv.1) σ H fun σ2 H2=>tb { D with nx:=Pv (i+1),ct:=Pv (i+1),bk:=D.nx } σ2 H2) (hd : ∀ σ H,Pv kvs.length σ H->D.nx σ H) :
  ∃ W:Nat->Nat->St->Hp->Prop,(∃ m,W 0 m σ H)/\∀ i m σ H,W i m σ H ->
   ((Itd d ob kvs).stop i H/\D.nx σ H)\/((Itd d ob kvs).go i H/\∃ N:St->Hp->Prop,(∀ σ' H',N σ' H'->∃ m',m' < m/\W (i+1) m' σ' H')/\∀ v H',(Itd d ob kvs).yld i H v H'->g v σ H' fun σ2 H2=>tb { D with nx:=N,ct:=N,bk:=D.nx } σ2 H2):=by
 refine ⟨fun i m σ H=>m=kvs.length - i/\i<=kvs.length/\Pv i σ H,⟨kvs.length,by simp,Nat.zero_le _,h0⟩,?_⟩
 rintro i m σ H ⟨rfl,hi,p⟩
 have q:=hl i σ H hi p
 by_cases hlt:i < kvs.length
 ·refine .inr ⟨⟨q,hlt⟩,Pv (i+1),fun σ' H' p'=>⟨kvs.length - (i+1),by omega,rfl,hlt,p'⟩,fun v H' y => ?_⟩
  obtain ⟨rfl,kv,hkv,rfl⟩:=y
  exact hs i kv σ H' hkv p
 ·have e:i=kvs.length:=by omega
  subst e
  exact .inl ⟨⟨q,Nat.le_refl _⟩,hd σ H p⟩
end L2
namespace L2
open PySem PySem.Spec PyProof.Rows PySem.W
def iJ (CX:CXT)(X:Cx)(σ:St)(E:XK):Prop:=∀ (pins:List (Addr × Obj)) (H:Hp) (s:Shared) (e:Value) (s':Shared),Inv X pins σ H s->CX X.stack H s E e s'->X.xe e s'
section
variable {X:Cx}
theorem aBl {CX:CXT}{k:Nat}{f:Addr}{fd:FuncData}{ps:List Str}{sp:Sp}{E:XK}{pins:List (Addr × Obj)}{σ:St}{H:Hp}{s:Shared}{Q:VK}{us:List Value}{vs:List V}(F:FnOk X.prog X.w X.K X.mg X.base CX k f fd ps sp)(hr:Room k X.A)(hb:Binds X.K fd ps [])(hx:iJ CX X σ E)
  (I:Inv X pins σ H s) (r:Vals vs us) (h:sp (vs ++ []) H Q E):wpAny (model X.prog X.w) X.A (call (.ref f) us) (EP X pins σ Q) X.xe s:=by
 have r2:Vals (vs ++ []) (us ++ []):=r.append .nil
 have hl:(us ++ []).length=ps.length:=by rw [<- r2.length]; exact F.len _ _ _ _ h
 refine wpAny_call (codeAny_mono (F.run X.A X.stack s H ⟨us,[]⟩ (us ++ []) (vs ++ []) Q E hr I.env0 (hb s us I.kIn hl) r2 h) fun r s' hq => ?_)
 cases r with
 | error e=>exact hx pins H s e s' I hq
 | ok fl =>
  cases fl with
  | ret u=>exact I.after hq
  | next=>exact False.elim hq
  | brk=>exact False.elim hq
  | cont=>exact False.elim hq
theorem aBz {CX:CXT}{k:Nat}{x:Str}{ps:List Str}{sp:Sp}{E:XK}{e:Expr}{es:List Expr}{t:TA}{p pos:Pos}{σ:St}(C:Cal X.prog X.w X.K X.mg X.base CX k x ps sp)(hr:Room k X.A)(hg:Gl X x)(hx:iJ CX X σ E)
  (ha:PA X (e :: es) t) (hdb:(x == ("__debug__" : Str))=false:=by decide) (he:starEach (e :: es) X.env=(false,eval e X.env) :: starEach es X.env:=by rfl) (hpl:(backTo pos (starEach es X.env)).any (·.1)=false:=by rfl) :
  PE X (.Call (.Name x p) (e :: es) [] pos) (fun σ' H Q=>σ'=σ/\oJ sp [] E t σ' H Q):=by
 obtain ⟨f,fd,hm,hk,hb,F⟩:=C.ex
 intro pins s σ' H Q I h
 obtain ⟨es',h⟩:=h
 subst es'
 refine wpAny_Call_Name_kw (fN I hg hm ?_ hdb)
 refine PySem.W.callWith_K (h₀:=X.base) I.ok.mod.kin hk (thn (ha pos pins s σ' H _ I h) fun us s1 ⟨vs,H1,I1,r,q⟩=>⟨I1.kIn,?_⟩) he hpl
 exact aBl F hr hb hx I1 r q
def aFx (K:Frag)(i j:Nat)(Dc:Addr)(tb:St->XK->TS):TS:=fun D σ H=>tb σ (fun cls dd H'=>∃ C,cls = .ref C/\ExK K C/\subIn K (.ref C) (.ref Dc)=some true/\∀ a,H' a=none->D.nx (((σ.set i (some (.ref a))).set j (some (.ref a))).set i none) (upd H' a (excD a C dd))) D σ H
theorem aBs {body:List Stmt}{tb:St->XK->TS}{d n y:Str}{dp np py apos hpos pos:Pos}{i j:Nat}{Dc:Addr}(O:OwnF X)(hg:Gl X d)(hm:X.mg d=some (.ref Dc))(F:CtK X.K Dc)(hN:X.N.Nodup)(hi:X.N[i]?=some n)
  (hki:X.env.scope.names.lookup n=some .local) (hj:X.N[j]?=some y) (hkj:X.env.scope.names.lookup y=some .local) (hij:i ≠ j)
  (hb : ∀ (pins:List (Addr × Obj)) (E':Value->Shared->Prop) (σ:St) (Ec:XK),iJ (CXg X.prog X.w) (X.trying pins E') σ Ec->PSs (X.trying pins E') body (tb σ Ec))
  (hdb:(d == ("__debug__" : Str))=false:=by decide) (hnb:(n == ("__debug__" : Str))=false:=by decide) (hnc:(n == ("__classdict__" : Str))=false:=by decide)
  (hs:swapsWith (.Name n np) (some (.Name y py)) apos.line X.env=pure false:=by rfl) :
  PS X (.Try body [.ExceptHandler (some (.Name d dp)) (some n) [.Assign [.Name y py] (.Name n np) apos] hpos] [] [] pos) (aFx X.K i j Dc tb):=by
 intro pins s σ H D I h
 refine wpAny_Try_except (wpAny_mono (hb pins _ σ _ ?hp [] s σ H D (I.trying _) h) (fun f s1 z => ?_) fun _ _ z=>z)
 case hp =>
  intro pl Hc sc e s' I0 hx
  have I1:Inv X pins σ Hc sc:=I0.tried
  obtain ⟨ea,C,dd,H',rfl,Fl,C',e1,FK,hsub,hk⟩:=hx
  cases e1
  obtain ⟨B,hok,fl,bk,th⟩:=Fl.fl
  have hfr:X.A.frames=some (X.env :: X.outer):=by rw [<- O.stk]; exact I1.ok.frames
  have fl':FlyD B (X.env :: X.outer) ea (.ref C) dd .none s'.heap:=by rw [<- O.stk]; exact fl
  have hBe:B.get? ea=none:=fl.no
  refine aGd hfr O.fr fl' fun h4 held4 up4 => ?_
  refine pL held4 fun h5 fl5 up5 => ?_
  have mk : ∀ h6:Heap,B.StaysIn h6->s'.heap.UpToSlots h6->Inv X pins σ H' { s' with heap:=h6 }:=fun h6 st up =>
   I1.call' (s':={ s' with heap:=h6 }) (ch:=[]) Fl.os (aA2 I1 Fl.un bk th st up) (hok.kept st) Fl.bare (by simp)
  have I5:=mk h5 fl5.st (up4.trans up5)
  obtain ⟨ob,_,hob,hobc,_,_⟩:=fl5.at
  refine wpAny_handleBy_cons (codeAny_handlers_test (fN (I5.within (.ref ea)) hg hm ?_ hdb)) (by intro q; cases q)
  refine pN I5.kIn ⟨hob,hobc⟩ F hsub ?_
  refine codeAny_handlers_suite_as ?_
  refine pL fl5 fun h6 fl6 up6 => ?_
  have I6:=mk h6 fl6.st ((up4.trans up5).trans up6)
  obtain ⟨ob6,ws,hob6,hobc6,hobdd,hobd6⟩:=fl6.at
  have nfr:ea ∉ frs X.stack:=fun z=>by
   obtain ⟨_,o',ho',hnf⟩:=I6.stack.mem z
   rw [hob6] at ho'
   cases ho'
   exact hnf ws hobd6
  have nsc:sc.heap.get? ea=none:=by
   cases q:sc.heap.get? ea with
   | none=>rfl
   | some o =>
    obtain ⟨o',e'⟩:=th ea o q nfr
    rw [hBe] at e'
    cases e'
  have nH:H' ea=none:=by
   cases q:H' ea with
   | none=>rfl
   | some o =>
    exfalso
    have lt:=hok.lt q
    obtain ⟨o',e'⟩ : ∃ o',B.get? ea=some o':=by
     exact yM (hok ea o q)
    rw [hBe] at e'
    cases e'
  have n0:X.s₀.heap.get? ea=none:=by
   cases q:X.s₀.heap.get? ea with
   | none=>rfl
   | some o =>
    obtain ⟨o',e'⟩:=I1.base.there ea o q (by rw [O.ex]; simp)
    rw [nsc] at e'
    cases e'
  have nL:ea ≠ X.env.locals:=fun z=>by
   obtain ⟨m,⟨oL,_,_,hoL,_⟩,_⟩:=I1.loc
   rw [<- z,nsc] at hoL
   cases hoL
  have I7:Inv X pins σ (upd H' ea (excD ea C dd)) { s' with heap:=h6 }:=I6.track nH n0 nL
   (fun x c q z=>by obtain ⟨v,o,ho,_⟩:=I1.cell x c q; rw [z,nsc] at ho; cases ho)
   (fun p q z=>by have:=(I1.pin p q).1; rw [z,nsc] at this; cases this)
   ⟨⟨ob6,⟨hob6,hobc6⟩,hobdd,_,hobd6⟩,⟨ob6,hob6⟩,fun h1 h2 ⟨o,ho,hd⟩ k=>⟨o,⟨k o ho.at_,ho.cls⟩,hd⟩⟩
  have J:=I7.within (.ref ea)
  refine iB (X:=X.within (.ref ea)) J hN hi (.inl hki) (show RelV (.ref ea) (.ref ea) from rfl) (fun s8 I8 => ?_) (.inr hki)
  have hiσ:i < σ.length:=by rw [I1.len]; exact (List.getElem?_eq_some_iff.mp hi).1
  have z:=aE (aI (X:=X.within (.ref ea)) (pos:=apos) (pos':=py) (i:=j) hN hj (.inl hkj) (qI (X:=X.within (.ref ea)) (pos:=np) hi (.inl hki) hnb hnc) hs (.inr hkj)) pins s8 (σ.set i (some (.ref ea))) (upd H' ea (excD ea C dd))
   { nx:=fun σ9 H9=>σ9=(σ.set i (some (.ref ea))).set j (some (.ref ea))/\H9=upd H' ea (excD ea C dd),rt:=fun _ _=>False } I8 ⟨_,List.getElem?_set_self hiσ,rfl,rfl⟩
  refine wpAny_mono z (fun f s9 hf => ?_) (fun _ _ q=>q.elim)
  cases f with
  | next =>
   obtain ⟨σ9,H9,I9,rfl,rfl⟩:=hf
   refine uX (I9.without I1.ok) hN hi hki fun s10 I10 => ?_
   exact ⟨_,_,I10,hk ea nH⟩
  | brk=>obtain ⟨_,_,_,q⟩:=hf; exact q.elim
  | cont=>obtain ⟨_,_,_,q⟩:=hf; exact q.elim
  | ret u=>obtain ⟨_,_,_,_,_,q⟩:=hf; exact q.elim
 ·have z':=SP.tried z
  cases f with
  | next=>exact wpAny_execs_nil z'
  | brk=>exact z'
  | cont=>exact z'
  | ret u=>exact z'
end
end L2
namespace L2
open PySem PySem.Spec PyProof.Rows
variable {X:Cx}
def rSortDSR:List V->Hp->VK->Prop:=fun xs H Q=>∃ a kvs,∃ ss:List Str,xs=[.ref a]/\Rd H a (.dK kvs)/\kvs.map (·.1)=ss.map Sum.inr/\kvs.length < 64/\∀ (p:Addr) (ss':List Str),ss'.Perm ss->sortedS ss'=true->H p=none->Q (.ref p) (upd H p (.lst (ss'.map V.str)))
def tListValsR (td:TE):TE:=fun σ H Q=>td σ H fun x H1=>∃ a kvs,x = .ref a/\Rd H1 a (.dK kvs)/\∀ p,H1 p=none->Q (.ref p) (upd H1 p (.lst (kvs.map (·.2))))
def Fz (H H':Hp):Prop:=∀ b o,H b=some o->H' b=some o\/∃ ob kvs,o = .dK kvs/\H' b=some (.frz ob (.dK kvs))
def Hld (d:Addr)(ob:Obj)(kvs:List (Key × V))(H H':Hp):Prop:=H' d=some (.frz ob (.dK kvs))/\(∀ b,b ≠ d->H' b=H b)/\(H d=some (.dK kvs)\/H d=some (.frz ob (.dK kvs)))
section
variable {X:Cx}
def iDictR (tl:TE):TI:=fun σ H R=>tl σ H fun x H1=>∃ d kvs,x = .ref d/\Rd H1 d (.dK kvs)/\∀ ob H2,Hld d ob kvs H1 H2->R (Itd d ob kvs) H2
def rDictD:List V->Hp->VK->Prop:=fun xs H Q=>∃ a kvs,xs=[.ref a]/\Rd H a (.dK kvs)/\∀ p,H p=none->Q (.ref p) (upd H p (.dK kvs))
def DDeq (K:PySem.W.Frag)(H:Hp)(ka kb:List (Key × V)):Prop:=ka.length=kb.length/\∀ kv ∈ ka,∃ v' d,valV kb kv.1=some v'/\Dv K H 30 kv.2 d/\Dv K H 30 v' d
def rNeDD (K:PySem.W.Frag):R2:=fun x y H Q=>∃ a b ka kb,x = .ref a/\y = .ref b/\Rd H a (.dK ka)/\Rd H b (.dK kb)/\DDeq K H ka kb/\Q (.bl false) H
def rEqDD (K:PySem.W.Frag):R2:=fun x y H Q=>∃ a b ka kb,x = .ref a/\y = .ref b/\Rd H a (.dK ka)/\Rd H b (.dK kb)/\DDeq K H ka kb/\Q (.bl true) H
end
def EqIn (P:Program)(w:World)(A:Around)(s:Shared)(y x:Value):Prop:=∀ (E:Value->Shared->Prop) (Q:Bool->Shared->Prop),Q true s->wpAny (model P w) A (eqBool y x) Q E s
section
open AutoSeq1 MeetsSeq MeetsSeq2 MeetsSeq3 SeqAt
variable {P:Program}{w:World}
end
section
variable {X:Cx}
def rNeLD (K:PySem.W.Frag):R2:=fun x y H Q=>∃ a b xs ys,x = .ref a/\y = .ref b/\SqL K H a xs/\SqL K H b ys/\xs.length=ys.length /\
 (∀ (j:Nat) x y,xs[j]?=some x->ys[j]?=some y->∃ da db ka kb,x = .ref da/\y = .ref db/\Rd H da (.dK ka)/\Rd H db (.dK kb)/\DDeq K H ka kb)/\Q (.bl false) H
end
end L2
namespace HT
open PySem PyProof.Rows
def lexLtS:List Str->List Str->Bool
 | [],[]=>false
 | [],_ :: _=>true
 | _ :: _,[]=>false
 | x :: xs,y :: ys=>if x=y then lexLtS xs ys else decide (x.cps.toList < y.cps.toList)
section
open PySem.SeqAt
open PySem.AutoSeq1 (wpAny_loadPart')
open PySem.MeetsSeq PySem.MeetsSeq2 PySem.MeetsSeq3
end
section
variable {prog:Program}{w:World}{A:Around}{E:Value->Shared->Prop}{s:Shared}
end
end HT
namespace L2
open PySem PySem.Spec PyProof.Rows
section
variable {X:Cx}
def rLtTS (K:PySem.W.Frag):R2:=fun x y H Q=>∃ a b ns ms,x = .ref a/\y = .ref b/\SqT K H a (ns.map V.str)/\SqT K H b (ms.map V.str)/\Q (.bl (HT.lexLtS ns ms)) H
end
end L2
namespace HT
open PySem PySem.Spec PyProof.Rows
theorem rG (l:Addr)(items:Array Value)(n:Nat)(dd:Option Addr)(sl:Array (Option Value))(x:Int)(u:Tok)(h0 : ¬ (decide (x < -(2 ^ 63)) || decide (x ≥ 2 ^ 63))=true)(h1 : ¬ (items.isEmpty || x == 1)=true)(h2 : ¬ (decide (x<=0) || items.isEmpty)=true)
  (h3 : ¬ (items.size:Int)*x > (2 ^ 63 - 1) / 8) (h4 : ¬ Builtin.Tuple.tupleTooMany ((items.size:Int)*x)=true) (hsz:((List.replicate x.toNat items).foldl (· ++ ·) #[]).size<=sizeLine) :
  Meets (Builtin.«tuple.__mul__» ⟨[.ref l,.int x u],[]⟩) (fun _ R s=>s.heap.get? l=some { cls:=.type "tuple",dict:=dd,data:=.seq items n,slots:=sl }/\R (.ok (.ret (Value.ref s.heap.objs.size))) { s with heap:=s.heap.push { cls:=Value.type "tuple",data:=Data.seq ((List.replicate x.toNat items).foldl (· ++ ·) #[]) },toks:=s.toks }) :=
 .of_wp fun prog w A R s h=>by
  obtain ⟨hp,g,d,tk,os⟩:=s; obtain ⟨hl,h⟩:=h; have f1:=AutoSeq1.idx_int; have f2:=AutoSeq1.sub_tuple_tuple; have f3:=AutoSeq1.sub_list_list; have f4:=AutoSeq1.sub_tuple_list; have f5:=AutoSeq1.sub_list_tuple
  wp_walk using wpAny_loadPart' hl
  refine wpAny_ite_false (decide_eq_false h0) ?_
  wp_walk using wpAny_loadPart' hl
  refine wpAny_ite_false (decide_eq_false h3) ?_
  wp_walk using wpAny_loadPart' hl
  exact ⟨_,rfl,h⟩
theorem kM (a:Int)(t:Tok)(l:Addr)(items:Array Value)(n:Nat)(dd:Option Addr)(sl:Array (Option Value)) :
  Meets (Builtin.«int.__rmul__» ⟨[.int a t,.ref l],[]⟩) (fun _ R s=>s.heap.get? l=some { cls:=.type "tuple",dict:=dd,data:=.seq items n,slots:=sl }/\R (.ok (.ret Value.notImplemented)) s) :=
 .of_wp fun prog w A R s h=>by obtain ⟨hp,g,d,tk,os⟩:=s; obtain ⟨hl,h⟩:=h; wp_walk; exact ⟨_,rfl,h⟩
theorem jB:fillsNumberSlot (.type "tuple") "mul" = pure false :=
 PySem.fillsNumberSlot_seq (id := "tuple.__mul__") (r:=some (.builtin "tuple.__rmul__")) PySem.F.slot_tuple_mul.lookup (by decide +kernel) PySem.F.slot_tuple_rmul.lookup (by decide +kernel)
theorem mS:seqRepeat? (.type "tuple")=pure (some (.builtin "tuple.__mul__")):=by
 unfold seqRepeat?
 rw [PySem.seqSlot_of (T := "tuple") (name := "__mul__") (id := "tuple.__mul__") PySem.F.slot_tuple_mul.lookup (by decide +kernel),PySem.seqSlot_of (T := "tuple") (name := "__rmul__") (id := "tuple.__rmul__") PySem.F.slot_tuple_rmul.lookup (by decide +kernel)]
 rfl
section
variable {prog:Program}{w:World}{A:Around}{E:Value->Shared->Prop}{s:Shared}
theorem cat_tup0 {t b:Addr}{ws:List Value}{Q:Value->Shared->Prop}(ht:IsTup s.heap t #[])(hb:IsTup s.heap b ws.toArray)(h:Q (.ref b) s):wpAny (model prog w) A (binaryOp .Add (.ref t) (.ref b)) Q E s:=by
 obtain ⟨⟨cls,dd,data,sl⟩,ho,hc,n,hd⟩:=id ht
 obtain ⟨⟨cls2,dd2,data2,sl2⟩,ho2,hc2,n2,hd2⟩:=id hb
 simp only at hc hd hc2 hd2
 subst hc hd hc2 hd2
 exact concat_meets ⟨_,ho,rfl⟩ ⟨_,ho2,rfl⟩ noFill_tuple_add seq_tuple_add PySem.F.slot_tuple_add PySem.F.entry_tuple_add (PySem.F.args_tuple_add_2 _ _)
   (tuple_addW0 t b #[] ws.toArray n n2 dd dd2 sl sl2 (by simp)) ⟨ho,ho2,h⟩
theorem rep_tup {t:Addr}{vs:List Value}{x:Int}{u:Tok}{Q:Value->Shared->Prop}(ht:IsTup s.heap t vs.toArray)(hv:vs ≠ [])(h1:2<=x)(h2:x<=1000)(h3:vs.length<=1000)
  (h:Q (.ref s.heap.objs.size) { s with heap:=s.heap.push { cls:=.type "tuple",data:=.seq (List.replicate x.toNat vs).flatten.toArray } }):wpAny (model prog w) A (binaryOp .Mult (.ref t) (.int x u)) Q E s:=by
 obtain ⟨⟨cls,dd,data,sl⟩,ho,hc,n,hd⟩:=id ht
 simp only at hc hd
 subst hc hd
 have e:List.foldl (fun x1 x2=>x1 ++ x2) #[] (List.replicate x.toNat vs.toArray)=(List.replicate x.toNat vs).flatten.toArray:=by
  have:=L2.foldl_rep vs x.toNat []
  rw [List.nil_append] at this
  exact this
 have ez:vs.toArray.isEmpty=false:=by simpa using hv
 have mb:(vs.toArray.size:Int)*x<=1000000:=by
  rw [List.size_toArray]
  have:=Int.mul_le_mul (show (vs.length:Int)<=1000 by omega) h2 (by omega) (by decide:(0:Int)<=1000)
  omega
 have sl9:(sizeLine:Int) ≥ 1000000:=by decide
 refine wpAny_binaryOp_repeat_ref (T := "tuple") (U := "int") (by decide) ⟨_,ho,rfl⟩ (fun s'=>typeIs_int s' x u) jB PySem.F.fills_int_mul PySem.F.slot_int_rmul mS PySem.F.slot_int_index.lookup
  (call_meets PySem.F.slot_int_rmul (typeIs_int s x u) PySem.F.entry_int_rmul (PySem.F.args_int_rmul_2 _ _) (kM x u t vs.toArray n dd sl)
   ⟨ho,rfl,⟨_,ho,rfl⟩,call_meets PySem.F.slot_tuple_mul ⟨_,ho,rfl⟩ PySem.F.entry_tuple_mul (PySem.F.args_tuple_mul_2 _ _) (rG t vs.toArray n dd sl x u ?_ ?_ ?_ ?_ ?_ ?_) ⟨ho,?_⟩⟩)
 ·simp
  omega
 ·rw [ez]
  simp
  omega
 ·rw [ez]
  simp
  omega
 ·omega
 ·unfold Builtin.Tuple.tupleTooMany
  rw [decide_eq_false (by omega)]
  decide
 ·rw [e,List.size_toArray,L2.len_rep]
  have:(x.toNat:Int)=x:=by omega
  have h9:((x.toNat*vs.length:Nat):Int)<=1000000:=by
   rw [List.size_toArray] at mb
   push_cast
   rw [this,Int.mul_comm]
   exact mb
  have:sizeLine ≥ 1000000:=by decide
  omega
 ·rw [e]
  exact h
end
end HT
namespace L2
open PySem PySem.Spec PyProof.Rows
section
variable {X:Cx}
def aAd (K:PySem.W.Frag):R2:=fun x y H Q=>∃ a b ys,x = .ref a/\y = .ref b/\SqT K H a []/\SqT K H b ys/\Q (.ref b) H
theorem xT:OpR X (binaryOp .Add) (aAd X.K):=by
 intro pins s σ H x y v u Q I rx ry h
 obtain ⟨a,b,ys,rfl,rfl,ha,hb,q⟩:=h
 cases rx
 cases ry
 obtain ⟨its,r1,p1,_⟩:=I.tuple ha
 obtain ⟨its2,r2,p2,_⟩:=I.tuple hb
 cases r1
 exact HT.cat_tup0 p1 p2 ⟨.ref b,H,I,rfl,q⟩
def aEh (K:PySem.W.Frag):R2:=fun x y H Q=>aAd K x y H Q\/aEi K x y H Q
theorem xS:OpR X (binaryOp .Add) (aEh X.K):=by
 intro pins s σ H x y v u Q I rx ry h
 rcases h with h | h
 ·exact xT pins s σ H x y v u Q I rx ry h
 ·exact aB7 pins s σ H x y v u Q I rx ry h
def aEc (K:PySem.W.Frag):R2:=fun x y H Q=>∃ a k xs,x = .ref a/\y = .int k/\SqT K H a xs/\xs ≠ []/\2<=k/\k<=1000/\xs.length<=1000/\∀ p,H p=none->Q (.ref p) (upd H p (.tup (List.replicate k.toNat xs).flatten))
theorem aB3:OpR X (binaryOp .Mult) (aEc X.K):=by
 intro pins s σ H x y v u Q I rx ry h
 obtain ⟨a,k,xs,rfl,rfl,ha,hx,k2,kl,xl,q⟩:=h
 cases rx
 obtain ⟨t,rfl⟩:=ry
 obtain ⟨its,r1,p1,_⟩:=I.tuple ha
 refine HT.rep_tup p1 (fun z=>hx (r1.nil_iff.mp z)) k2 kl (by rw [<- r1.length]; exact xl) ?_
 refine ⟨.ref s.heap.objs.size,_,I.laid (t':=s.toks) (o:=.tup (List.replicate k.toNat xs).flatten) (fun b ob q=>Heap.get?_push_of_some _ q) (Nat.le_refl _) ?_,rfl,q _ (I.hok.fresh (Nat.le_refl _))⟩
 refine ⟨?_,_,r1.rep k.toNat,IsTup.new _ _⟩
 rw [len_rep]
 have h9:k.toNat*xs.length<=1000*1000:=Nat.mul_le_mul (by omega) xl
 have:sizeLine ≥ 1000000:=by decide
 omega
end
def Itr3 (lo c:Int)(n:Nat):It:=⟨fun i _=>i < n,fun i H x H'=>H'=H/\x = .int (lo+(i:Nat)*c),fun i _=>n<=i⟩
def iRng3 (ta:TA):TI:=fun σ H R=>ta σ H fun vs H1=>∃ i j c:Int,vs=[.int i,.int j,.int c]/\(-(2 ^ 20)<=i/\i<=2 ^ 20 /\ -(2 ^ 20)<=j/\j<=2 ^ 20/\0 < c/\c<=2 ^ 20)/\R (Itr3 i c (if i < j then (j - i - 1) / c+1 else 0).toNat) H1
def tSortR (K:PySem.W.Frag)(te:TE):TE:=fun σ H Q=>te σ H fun x H1=>∃ (a:Addr) (ns:List Int),x = .ref a/\SqL K H1 a (ns.map V.int)/\ns.length < 64 /\
 ∀ (p:Addr) (ns':List Int),ns'.Perm ns->ns'.Pairwise (· ≥ ·)->H1 p=none->Q (.ref p) (upd H1 p (.lst (ns'.map V.int)))
abbrev rngObj (n:Int)(t u v:Tok):Obj:={ cls:=.type "range",data:=.fields #[.int 0 t,.int n u,.int 1 v] }
abbrev rngIt (n:Int):Obj:={ cls:=.type "range_iterator",data:=.fields #[rawInt (n - 1),rawInt n,rawInt (-1)] }
section
variable {prog:Program}{w:World}{A:Around}{E:Value->Shared->Prop}{s:Shared}
end
def iRev (ta:TA):TI:=fun σ H R=>ta σ H fun vs H1=>∃ n:Int,vs=[.int n]/\0<=n/\n < 2 ^ 62/\R (Itr3 (n - 1) (-1) n.toNat) H1
end L2
namespace TR
open PySem PySem.Spec PyProof.Rows L2 GM
theorem mQ {t u:TS}{D:Ends}{σ:L2.St}{H:Hp}(S:L2.St->Hp->Prop)(h : ∀ σ' H',S σ' H'->u D σ' H')(g : ∀ N:L2.St->Hp->Prop,(∀ σ' H',S σ' H'->N σ' H')->t { D with nx:=N } σ H):tSeq t u D σ H:=g (u D) h
def Top2 (l:List Int)(f s:Int):Prop:=∃ r,(l ++ [0,0]).Perm (f :: s :: r)/\s<=f/\∀ x ∈ r,x<=s
def Nd (ds:List Int)(d:Int):Prop:=∃ f s,Top2 ds f s/\d=max f (s+1)
def av:List Int->Int
 | []=>0
 | c :: r=>av r - c+1
def Okc:List Int->Prop
 | []=>True
 | c :: r=>Okc r/\0<=c/\c < 64/\c<=av r
def Gd (p:List Int)(m l:Int):Prop:=∀ r,Okc r->l<=av r->Okc (p ++ r)/\av r - l+m<=av (p ++ r)
def Am (H:Hp)(m:Addr)(n:Nat):Prop:=∃ t b:Int,H m=some (.tup [.int t,.int b])/\0<=t/\1<=b/\Bt (64*n - 1) t/\Bt (64*n - 1) b
abbrev Pt:=V × Nat × Int
def szs (cs:List Pt):Nat:=(cs.map (·.2.1)).sum
def Tr (H:Hp):Nat->V->Nat->Int->Prop
 | 0,_,_,_=>False
 | n+1,v,s,d =>
  (∃ (p m:Addr) (x:Str),v = .ref p/\H p=some (.tup [.str "ware",.str x,.ref m])/\Am H m 1/\s=1/\d=0) \/
  (∃ (p m q:Addr) (x:Str) (cs:List Pt),v = .ref p/\H p=some (.tup [.str "recipe",.str x,.ref m,.ref q])/\H q=some (.tup (cs.map (·.1)))/\1<=cs.length/\cs.length < 64 /\
   (∀ c ∈ cs,Tr H n c.1 c.2.1 c.2.2)/\s=1+szs cs/\Nd (cs.map (·.2.2)) d/\Am H m s)
def Bx (a:Addr)(H H':Hp):Prop:=∀ b o,b ≠ a->H b=some o->H' b=some o
theorem Bx.tk {a:Addr}{H H':Hp}{xs:List V}(h:Bx a H H')(ha:H a=some (.lst xs)):Tk H H':=fun b ys e=>h b _ (fun z=>by rw [z,ha] at e; cases e) e
def nzc (cs:List Int):Nat:=(cs.filter fun c=>c != 0).length
structure Pile (H:Hp)(cs:List Int)(j:Nat)(pl:List Pt):Prop where
 tr : ∀ c ∈ pl,Tr H (nzc (cs.drop (cs.length - j))+1) c.1 c.2.1 c.2.2
 sz:szs pl=j
 ln:(pl.length:Int)=av (cs.drop (cs.length - j))
 hd:1<=j->∃ pl' q,pl=pl' ++ [q]/\∀ c,cs[cs.length - j]?=some c->1<=c->1<=q.2.2
def AtP (H:Hp):V->List Nat->V->Prop
 | v,[],u=>v=u
 | v,k :: r,u=>∃ (p m q:Addr) (x:Str) (vs:List V) (c:V),v = .ref p/\H p=some (.tup [.str "recipe",.str x,.ref m,.ref q])/\H q=some (.tup vs)/\vs[k]?=some c/\AtP H c r u
abbrev pth (ks:List Nat):List V:=ks.map fun (k:Nat)=>V.int (k:Int)
def Ent (H:Hp)(root:V)(N:Nat)(e:Addr)(s:Nat):Prop:=∃ (pa:Addr) (ks:List Nat) (v:V) (n:Nat) (d:Int),H e=some (.tup [.ref pa,v])/\H pa=some (.tup (pth ks))/\AtP H root ks v/\Tr H n v s d/\ks.length+n<=N
end TR
namespace K25
open PySem PySem.Spec PyProof.Rows L2 GM TM BQ
theorem kJ {K:PySem.W.Frag}{H:Hp}{p q:Addr}{a b:Q}(hp:SqT K H p [.int a.1,.int a.2])(hq:SqT K H q [.int b.1,.int b.2])(ha:Sz a)(hb:Sz b):Tw K H p q a.1 a.2 b.1 b.2:=⟨hp,hq,ha.am,hb.am,ha.bt,ha.bb,hb.bt,hb.bb⟩
def jC (K:PySem.W.Frag):Sp:=fun vs H Q _=>∃ (l:Addr) (us:List V) (ps:List (Str × BQ.Q)),vs=[.ref l]/\SqL K H l us/\L2R (PaV H) us ps/\(∀ p ∈ ps,Sz p.2)/\(∀ i,Sz (fo (0,1) ((ps.map (·.2)).take i))) /\
 ∀ r H',Same H H'->SqT K H' r [.int (fo (0,1) (ps.map (·.2))).1,.int (fo (0,1) (ps.map (·.2))).2]->Q (.ref r) H'
def tU (K:PySem.W.Frag):Sp:=fun vs H Q _=>∃ (l:Addr) (us:List V) (ps:List Pu),vs=[.ref l]/\SqL K H l us/\L2R (PuV H) us ps/\us.length<=1000/\(∀ p ∈ ps,Sz p.2.2)/\(∀ i,Sz (fo (0,1) ((amts ps).take i))) /\
 ∀ r H',Same H H'->SqT K H' r [.int (fo (0,1) (amts ps)).1,.int (fo (0,1) (amts ps)).2]->Q (.ref r) H'
def lA (K:PySem.W.Frag):Sp:=fun vs H Q _=>∃ (m q:Addr) (a:BQ.Q) (us:List V) (ps:List (Int × Str)),vs=[.ref m,.ref q]/\AmV H m a/\H q=some (.tup us)/\L2R (PrV H) us ps/\Sm a/\1<=ps.length/\ps.length<=4/\(∀ p ∈ ps,1<=p.1/\p.1<=9) /\
 ∀ l vs' H',Same H H'->H l=none->H' l=some (.lst vs')->L2R (PaV H') vs' (ps.map fun p=>(p.2,lw (a.1*p.1) (a.2*ptot ps)))->Q (.ref l) H'
def oP (K:PySem.W.Frag):Sp:=fun vs H Q _=>∃ (v:V) (m:Addr) (l:BQ.Q) (r:Rw),vs=[v,.ref m]/\RowV H v r/\SqT K H m [.int l.1,.int l.2]/\Am l/\Bt 480 l.1/\Bt 480 l.2/\ROk l r /\
 ∀ z vs' H',Same H H'->H z=none->H' z=some (.lst vs')->L2R (PaV H') vs' (rowQ l r)->Q (.ref z) H'
theorem bH {H H1:Hp}{p:Addr}(h:Same H H1)(n:H1 p=none):H p=none:=by
 cases e:H p with
 | none=>rfl
 | some o=>rw [h _ _ e] at n; cases n
theorem bQ {H H1:Hp}{p:Addr}{o:HO}(h:Same H H1)(n:H p=none):Same H (upd H1 p o):=fun b u e=>by
 have ne:b ≠ p:=fun z=>by rw [z,n] at e; cases e
 rw [aL ne]
 exact h b u e
theorem aF5 {a:BQ.Q}{n S:Int}(ha:Am a)(n1:1<=n)(S1:1<=S):lw ((lw (a.1*1) (a.2*S)).1*n) ((lw (a.1*1) (a.2*S)).2*1)=lw (a.1*n) (a.2*S):=by
 have a0:=ha.t0
 have a1:=ha.b1
 have c1:=BQ.mul1 a1 S1
 have am:=gP (show 0<=a.1*1 by omega) c1
 have cr:=eC (a.1*1) (a.2*S)
 generalize lw (a.1*1) (a.2*S)=z at *
 have z0:=am.t0
 have z1:=am.b1
 exact uY (Int.mul_nonneg z0 (by omega)) (by omega) (Int.mul_nonneg a0 (by omega)) c1 (by grind)
section
variable {P:Program}{w:World}{K:PySem.W.Frag}{mg:Str->Option Value}{base:Heap}
theorem iF:FnScope ["one","found","ware","part"] ["one"] (aG sWholeL):=⟨rfl,rfl,rfl,by decide +kernel,rfl,by decide +kernel,by decide +kernel⟩
theorem uM {f aN:Addr}{fd:FuncData}(F:Fun K "whole" "whole" sWholeL f fd)(mN:mg "NOUGHT" = some (.ref aN))(sN : ∀ H:Hp,SqT K H aN [.int 0,.int 1])(cP:Cal P w K mg base CX0 3 "plus" ["one","other"] (pV K)):FnOk P w K mg base CX0 4 f fd ["one"] (jC K):=by
 refine F.ok iF (fun vs H Q E h => ?_) (fun cdv A outer s H vs Q E hr h => ?_)
 ·obtain ⟨_,_,_,rfl,_⟩:=h
  rfl
 ·obtain ⟨l,us,ps,rfl,hl,hu,hs,ht,k⟩:=h
  refine ⟨_,(aD (aI (i:=1) iF.nd rfl (Or.inl rfl) (dQ (v:=.ref aN) rfl mN rfl))
   (aD (bL PassesOwn.never rfl (cJ (pv 0)) (dH rfl (aP (aJ (i:=2) iF.nd rfl (Or.inl rfl)) (aP (aJ (i:=3) iF.nd rfl (Or.inl rfl)) bW)))
    (aE (aI (i:=1) iF.nd rfl (Or.inl rfl) (aH cP hr rfl aQ (aA (pv 1) (aA (pv 3) aC))))))
   (aE (aO (pv 1))))),?_⟩
  refine ⟨_,rfl,l,rfl,⟨_,hl⟩,?_⟩
  refine eP (xs:=us) (fun i σ H'=>∃ (g:Addr) (v2 v3:Option V),σ=[some (.ref l),some (.ref g),v2,v3]/\Same H H'/\SqT K H' g [.int (fo (0,1) ((ps.map (·.2)).take i)).1,.int (fo (0,1) ((ps.map (·.2)).take i)).2]) ⟨aN,none,none,rfl,Same.refl _,sN H⟩ (fun i σ H' _ ⟨_,_,_,_,sm,_⟩=>sm.seq hl) ?_ ?_
  ·rintro i v σ H1 hv ⟨g,v2,v3,rfl,sm,hg⟩
   obtain ⟨p,hp,z,m,rfl,hz,hm⟩:=hu.get hv
   refine ⟨z,_,rfl,SqT.of (sm _ _ hz),rfl,_,_,rfl,_,_,rfl,rfl,?_⟩
   refine ⟨_,rfl,_,rfl,g,m,_,_,p.2.1,p.2.2,rfl,kJ hg (SqT.of (sm _ _ hm)) (ht i) (hs p (List.mem_of_getElem? hp)),fun r H2 s2 hr2 => ?_⟩
   refine ⟨r,_,_,rfl,sm.trans s2,?_⟩
   have e:(ps.map (·.2)).take (i+1)=(ps.map (·.2)).take i ++ [p.2]:=by rw [List.take_add_one,List.getElem?_map,hp]; rfl
   rw [e,kC]
   exact hr2
  ·rintro σ H1 ⟨g,v2,v3,rfl,sm,hg⟩
   rw [hu.len,List.take_of_length_le (by rw [List.length_map]; exact Nat.le_refl _)] at hg
   exact ⟨_,rfl,k g H1 sm hg⟩
theorem ndB:(["place","thing","many"]:List Str).Nodup:=by decide +kernel
theorem aD6:FnScope ["written"] ["written"] (aG sBowl):=⟨rfl,rfl,rfl,by decide +kernel,rfl,by decide +kernel,by decide +kernel⟩
theorem aCm {f:Addr}{fd:FuncData}(F:Fun K "whole_bowl" "whole_bowl" sBowl f fd)(cW:Cal P w K mg base CX0 4 "whole" ["one"] (jC K)):FnOk P w K mg base CX0 5 f fd ["written"] (tU K):=by
 refine F.ok aD6 (fun vs H Q E h => ?_) (fun cdv A outer s H vs Q E hr h => ?_)
 ·obtain ⟨_,_,_,rfl,_⟩:=h
  rfl
 ·obtain ⟨l,us,ps,rfl,hl,hu,ul,hs,ht,k⟩:=h
  refine ⟨_,(aE (aO (aH cW hr rfl aQ (aA (gX (N':=["place","thing","many"]) (cl:=[]) (g:=gTup K 3 (dZ (dA 0) (dZ (dA 1) (dZ (dA 2) gNil)))) (fun _=>[none,none,none]) rfl rfl (by decide +kernel) (by decide +kernel) (eA (by decide +kernel)) (fun _ _=>eM)
    (cJ (pv 0)) (fun _ _ _ _ _=>dH rfl (aP (aJ (i:=0) ndB rfl (Or.inl rfl) (Or.inr rfl)) (aP (aJ (i:=1) ndB rfl (Or.inl rfl) (Or.inr rfl)) (aP (aJ (i:=2) ndB rfl (Or.inl rfl) (Or.inr rfl)) bW)))) (fun _ _ _ _ _=>dF)
    (fun _ _ _ _ _=>aY (aA (pv 1) (aA (pv 2) aC)))) aC)))),?_⟩
  refine ⟨_,rfl,l,rfl,⟨_,hl⟩,fun D hD => ?_⟩
  refine dP (Ys.list hl) (fun i _ y H=>∀ p,ps[i]?=some p->PaV H y (p.2.1,p.2.2)) (fun i x y H H' h k p e=>(h p e).keep k) hD ul (fun i v H' R hv sm hR => ?_) (fun ys H' sm hD' yl hy => ?_)
  ·obtain ⟨p,hp,z,m,rfl,hz,hm⟩:=hu.get hv
   refine ⟨z,_,rfl,SqT.of (sm _ _ hz),rfl,_,_,rfl,_,_,rfl,_,_,rfl,rfl,(((Keep.refl _).set rfl).set rfl).set rfl,?_⟩
   refine ⟨_,rfl,_,rfl,(by show 2<=sizeLine; decide),fun t ht'=>hR _ _ (Same.upd ht') fun p' hp' => ?_⟩
   rw [hp] at hp'
   cases hp'
   exact ⟨t,m,rfl,aB,Same.upd ht' _ _ (sm _ _ hm)⟩
  ·have r:L2R (PaV H') ys (ps.map fun p=>(p.2.1,p.2.2)):=L2R.of (by rw [List.length_map,yl,hu.len]) fun i p u hp hu'=>by
    rw [List.getElem?_map] at hp
    cases e:ps[i]? with
    | none=>rw [e] at hp; cases hp
    | some p' =>
     rw [e] at hp
     cases hp
     obtain ⟨x,hx⟩ : ∃ x,us[i]?=some x:=⟨_,List.getElem?_eq_getElem (by rw [hu.len]; exact (List.getElem?_eq_some_iff.mp e).1)⟩
     exact hy i x u hx hu' p' e
   have em:(ps.map fun p=>(p.2.1,p.2.2)).map (·.2)=amts ps:=by unfold amts; rw [List.map_map]; rfl
   refine ⟨D,ys,_,rfl,SqL.of hD',r,fun p hp => ?_,fun i=>by rw [em]; exact ht i,fun q H2 s2 h2 => ?_⟩
   ·obtain ⟨p',hp',rfl⟩:=List.mem_map.mp hp
    exact hs p' hp'
   ·rw [em] at h2
    exact k q H2 (sm.trans s2) h2
end
end K25
namespace BQ
open PySem PySem.Spec PyProof.Rows L2 GM
theorem Rs.det {rs:List Rw}{ps:List Pu}{l:Q}(h:Rs rs ps l) : ∀ {ps' l'},Rs rs ps' l'->ps=ps'/\l=l':=by
 induction h with
 | nil =>
  intro ps' l' k
  generalize e:([]:List Rw)=rs at k
  cases k with
  | nil=>exact ⟨rfl,rfl⟩
  | snoc _ _=>simp at e
 | @snoc rs ps l r _ ok ih =>
  intro ps' l' k
  obtain ⟨ps2,l2,h2,_,e1,e2⟩:=k.cut rfl
  obtain ⟨rfl,rfl⟩:=ih h2
  exact ⟨e1.symm,e2.symm⟩
theorem Rs.pre {rs:List Rw}{ps:List Pu}{l:Q}(h:Rs rs ps l) : ∀ i,∃ ps' l',Rs (rs.take i) ps' l':=by
 induction h with
 | nil=>intro i; exact ⟨[],(0,1),by rw [List.take_nil]; exact .nil⟩
 | @snoc rs ps l r h0 ok ih =>
  intro i
  by_cases hi:i<=rs.length
  ·rw [List.take_append_of_le_length hi]
   exact ih i
  ·rw [List.take_of_length_le (by rw [List.length_append]; show rs.length+1<=i; omega)]
   exact ⟨_,_,.snoc h0 ok⟩
theorem Rs.turn {rs:List Rw}{ps:List Pu}{l:Q}{i:Nat}{r:Rw}{qs:List Pu}{m:Q}(h:Rs rs ps l)(hr:rs[i]?=some r)(k:Rs (rs.take i) qs m):ROk m r/\Rs (rs.take (i+1)) (qs ++ rowP i m r) (fo m (amts (rowP i m r))):=by
 obtain ⟨ps',l',h'⟩:=h.pre (i+1)
 have e:rs.take (i+1)=rs.take i ++ [r]:=by rw [List.take_add_one,hr]; rfl
 have hl:(rs.take i).length=i:=by rw [List.length_take]; have:=(List.getElem?_eq_some_iff.mp hr).1; omega
 obtain ⟨ps2,l2,h2,ok,e1,e2⟩:=h'.cut e
 obtain ⟨rfl,rfl⟩:=k.det h2
 rw [hl] at e1 e2
 subst e1 e2
 exact ⟨ok,h'⟩
theorem aCw : ∀ {ss:List Q} {l:Q} {n:Nat},Am l->Bt n l.1->Bt n l.2->(∀ s ∈ ss,Am s/\Bt 480 s.1/\Bt 480 s.2)->Bt (n+481*ss.length) (fo l ss).1/\Bt (n+481*ss.length) (fo l ss).2
 | [],l,n,_,h1,h2,_=>⟨h1,h2⟩
 | s :: r,l,n,al,h1,h2,hs=>by
  obtain ⟨am,b1,b2⟩:=hs s (List.mem_cons_self ..)
  have a1:Bt (n+481) (l.1*s.2+s.1*l.2):=((h1.mul b2).add ((b1.mul h2).mono (by omega))).mono (by omega)
  have a2:Bt (n+481) (l.2*s.2):=(h2.mul b2).mono (by omega)
  have w:=vA (al.num am) (al.mul am) a1 a2
  have:=aCw (ss:=r) (l:=add l s) (n:=n+481) (kX al am) w.1 w.2 fun x hx=>hs x (List.mem_cons_of_mem _ hx)
  have e:n+481*(s :: r).length=n+481+481*r.length:=by rw [List.length_cons]; omega
  rw [e]
  exact this
theorem aGq {ss:List Q}(hl:ss.length<=4)(hs : ∀ s ∈ ss,Am s/\Bt 480 s.1/\Bt 480 s.2)(i:Nat):Sz (fo (0,1) (ss.take i)):=by
 have hs' : ∀ s ∈ ss.take i,Am s/\Bt 480 s.1/\Bt 480 s.2:=fun s h=>hs s (List.mem_of_mem_take h)
 have l4:(ss.take i).length<=4:=by rw [List.length_take]; omega
 have b:=aCw (l:=(0,1)) (n:=2) am0 (bP 2 (c:=2) (by decide) (by decide)) (bP 2 (c:=2) (by decide) (by decide)) hs'
 exact ⟨aCx (fun s h=>(hs' s h).1) am0,b.1.mono (by omega),b.2.mono (by omega)⟩
theorem jY {M:Int}(hM:0 < M) : ∀ {ss:List Q} (i:Nat),(∀ s ∈ ss,Am s/\s.2 ∣ M)->0<=nsum M (ss.take i)/\nsum M (ss.take i)<=nsum M ss
 | [],i,_=>by rw [List.take_nil]; exact ⟨Int.le_refl _,Int.le_refl _⟩
 | s :: r,0,h=>by
  have:=jY hM (ss:=r) 0 fun x hx=>h x (List.mem_cons_of_mem _ hx)
  have a:=(h s (List.mem_cons_self ..)).1
  have d:=(h s (List.mem_cons_self ..)).2
  have:0<=s.1*(M / s.2):=Int.mul_nonneg a.t0 (Int.ediv_nonneg (by omega) (by have:=a.b1; omega))
  have e:nsum M (s :: r)=s.1*(M / s.2)+nsum M r:=by unfold nsum; rw [List.map_cons,List.sum_cons]
  refine ⟨Int.le_refl _,?_⟩
  show 0<=nsum M (s :: r)
  rw [e]
  have z:nsum M (r.take 0)=0:=rfl
  omega
 | s :: r,i+1,h=>by
  have:=jY hM (ss:=r) i fun x hx=>h x (List.mem_cons_of_mem _ hx)
  have a:=(h s (List.mem_cons_self ..)).1
  have:0<=s.1*(M / s.2):=Int.mul_nonneg a.t0 (Int.ediv_nonneg (by omega) (by have:=a.b1; omega))
  have e : ∀ q:List Q,nsum M (s :: q)=s.1*(M / s.2)+nsum M q:=fun q=>by unfold nsum; rw [List.map_cons,List.sum_cons]
  rw [List.take_succ_cons,e,e]
  omega
theorem vP {M N:Int}{a:Q}(hM:0 < M)(h:Fq M a N):a.1<=N/\a.2<=M:=by
 have hb:=Int.le_of_dvd hM h.dvd
 refine ⟨?_,hb⟩
 have n0:=h.nonneg hM
 have:=Int.mul_le_mul_of_nonneg_left hb n0
 rw [<- h.e] at this
 exact Int.le_of_mul_le_mul_right this hM
theorem RI.part {n:Nat}{ps:List Pu}{l:Q}{M N V:Int}(h:RI n ps l M N V)(hn:n<=6)(i:Nat):Sz (fo (0,1) ((amts ps).take i)):=by
 have hs : ∀ s ∈ amts ps,Am s/\s.2 ∣ M:=fun s hs=>by
  obtain ⟨p,hp,rfl⟩:=List.mem_map.mp hs
  exact ⟨(h.dv p hp).1,(h.dv p hp).2.2.1⟩
 have hs' : ∀ s ∈ (amts ps).take i,Am s/\s.2 ∣ M:=fun s h=>hs s (List.mem_of_mem_take h)
 have f1:=rZ (l:=(0,1)) (N:=0) hs' (Fr.zero:Fr M 0 1 0)
 have f2:=rZ (l:=(0,1)) (N:=0) hs (Fr.zero:Fr M 0 1 0)
 rw [Int.zero_add] at f1 f2
 rw [<- h.lf] at f2
 have e:N=nsum M (amts ps):=by
  have e1:=h.fq.e
  have e2:=f2.e
  rw [e1] at e2
  exact Int.eq_of_mul_eq_mul_right (by have:=h.fq.am.b1; omega) e2
 have nt:=jY h.M0 i hs
 have sm:=vP h.M0 f1
 have bN:Bt 480 (V*M):=(h.bV.mul h.bM).mono (by omega)
 have NV:=h.NV
 exact ⟨f1.am,(bN.le f1.am.t0 (by omega)).mono (by decide),(h.bM.le (by have:=f1.am.b1; omega) sm.2).mono (by omega)⟩
theorem Rs.sz {rs:List Rw}{ps:List Pu}{l:Q}(h:Rs rs ps l)(hn:rs.length<=6):Am l/\Bt 480 l.1/\Bt 480 l.2/\(∀ p ∈ ps,Am p.2.2/\1<=p.2.2.1/\Bt 480 p.2.2.1/\Bt 480 p.2.2.2)/\(∀ i,Sz (fo (0,1) ((amts ps).take i)))/\l=fo (0,1) (amts ps)/\ps.length<=24:=by
 obtain ⟨M,N,V,ri⟩:=h.ri
 have sm:=ri.small hn
 exact ⟨ri.fq.am,sm.1,sm.2.1,fun p hp=>⟨(ri.dv p hp).1,(ri.dv p hp).2.1,sm.2.2 p hp⟩,ri.part hn,ri.lf,by have:=ri.ln; omega⟩
theorem Rs.pos {rs:List Rw}{ps:List Pu}{l:Q}(h:Rs rs ps l)(hn:1<=rs.length):1<=l.1:=by
 obtain ⟨M,N,V,ri⟩:=h.ri
 exact ri.ps' hn
end BQ
namespace K25
open PySem PySem.Spec PyProof.Rows L2 GM TM BQ
theorem tH {n:Int}(h0:0<=n)(h:n<=100):Sz (n,1):=⟨pQ h0,(bP 8 (c:=200) h0 (by omega):Bt 8 n).mono (by decide),(bP 2 (c:=2) (by decide) (by decide):Bt 2 (1:Int)).mono (by decide)⟩
theorem aBe {a:BQ.Q}(h:Sm a):Sz a:=⟨h.am,h.bt.mono (by decide),h.bb.mono (by decide)⟩
section
variable {P:Program}{w:World}{K:PySem.W.Frag}{mg:Str->Option Value}{base:Heap}
theorem ndS1:(["number","thing"]:List Str).Nodup:=by decide +kernel
theorem ndS2:(["number","thing","one_part"]:List Str).Nodup:=by decide +kernel
theorem pY:FnScope ["all_of_it","pairs","one_part"] ["all_of_it","pairs"] (aG sShares):=⟨rfl,rfl,rfl,by decide +kernel,rfl,by decide +kernel,by decide +kernel⟩
theorem uQ {f:Addr}{fd:FuncData}(F:Fun K "shares" "shares" sShares f fd)(T:Txt mg)(cO:Cal P w K mg base CX0 3 "over" ["one","other"] (mL K))(cT:Cal P w K mg base CX0 3 "times" ["one","other"] (jN K)):FnOk P w K mg base CX0 4 f fd ["all_of_it","pairs"] (lA K):=by
 refine F.ok pY (fun vs H Q E h => ?_) (fun cdv A outer s H vs Q E hr h => ?_)
 ·obtain ⟨_,_,_,_,_,rfl,_⟩:=h
  rfl
 ·obtain ⟨m,q,a,us,ps,rfl,hm,hq,hu,sa,l1,l4,hn,k⟩:=h
  refine ⟨_,(aD (aI (i:=2) pY.nd rfl (Or.inr rfl) (aH cO hr rfl aQ (aA (pv 0) (aA (aY (aA (aS (lZ rfl) rfl T.sum' boot_sum (aA
     (gX (N':=["number","thing"]) (cl:=[]) (g:=gTup K 2 (dZ (dA 0) (dZ (dA 1) gNil))) (fun _=>[none,none]) rfl rfl (by decide +kernel) (by decide +kernel) (eA (by decide +kernel)) (fun _ _=>eM)
    (eJ (pv 1)) (fun _ _ _ _ _=>dH rfl (aP (aJ (i:=0) ndS1 rfl (Or.inl rfl) (Or.inr rfl)) (aP (aJ (i:=1) ndS1 rfl (Or.inl rfl) (Or.inr rfl)) bW))) (fun _ _ _ _ _=>dF)
    (fun _ _ _ _ _=>pv 0)) aC)) (aA aF aC))) aC))))
   (aE (aO (fJ (N':=["number","thing","one_part"]) (g:=gTup K 2 (dZ (dA 0) (dZ (dA 1) gNil))) (fun σ=>[none,none,some 2].map fun t=>t.bind fun j=>(σ[j]?).join) rfl rfl (by decide +kernel) (by decide +kernel)
     (lT (sc:=aG sShares) rfl (by decide +kernel)) (fun _ _ _=>fR (sc:=aG sShares) (N:=["all_of_it","pairs","one_part"]) [none,none,some 2] rfl rfl rfl rfl (by decide +kernel))
     (eJ (pv 1)) (fun _ _ _ _ _ _=>dH rfl (aP (aJ (i:=0) ndS2 rfl (Or.inl rfl) (Or.inr rfl)) (aP (aJ (i:=1) ndS2 rfl (Or.inl rfl) (Or.inr rfl)) bW)))
     (fun _ _ _ _ _ _=>dF)
     (fun _ _ _ _ _ _=>aY (aA (pv 1) (aA (aH cT hr rfl aQ (aA (pv 2) (aA (aY (aA (pv 0) (aA aF aC))) aC))) aC))))))),?_⟩
  have ul:=hu.len
  have S1:1<=ptot ps:=by
   cases ps with
   | nil=>exact absurd l1 (by decide)
   | cons p r =>
    have:=jU (fun p hp=>(hn p hp).1) (List.mem_cons_self (a:=p) (l:=r))
    have:=(hn p (List.mem_cons_self ..)).1
    omega
  have S36:=lN fun p hp=>(hn p hp).2
  refine ⟨_,rfl,_,rfl,q,rfl,⟨_,SqT.of hq⟩,fun D hD => ?_⟩
  refine dP (Ys.tup (SqT.of hq)) (fun i _ y _=>∀ p:Int × Str,ps[i]?=some p->y = .int p.1) (fun _ _ _ _ _ h _=>h) hD (by omega) (fun i v H' R hv sm hR => ?_) (fun ys H1 s1 hD' yl hy => ?_)
  ·obtain ⟨p,hp,z,rfl,hz⟩:=hu.get hv
   exact ⟨z,_,rfl,SqT.of (sm _ _ hz),rfl,_,_,rfl,_,_,rfl,rfl,((Keep.refl _).set rfl).set rfl,_,rfl,hR _ _ (Same.refl _) fun p' hp'=>by rw [hp] at hp'; cases hp'; rfl⟩
  have ey:ys=(ps.map (·.1)).map V.int:=by
   refine gE (by rw [List.length_map,List.length_map,yl,ul]) fun i x y hx hy' => ?_
   rw [List.map_map,List.getElem?_map] at hx
   cases e:ps[i]? with
   | none=>rw [e] at hx; cases hx
   | some p =>
    rw [e] at hx
    cases hx
    obtain ⟨u',hu'⟩ : ∃ x,us[i]?=some x:=⟨_,List.getElem?_eq_getElem (by rw [ul]; exact (List.getElem?_eq_some_iff.mp e).1)⟩
    exact hy i u' y hu' hy' p e
  subst ey
  refine ⟨D,ps.map (·.1),rfl,SqL.of hD',(by show 2<=sizeLine; decide),fun z hz => ?_⟩
  have s2:=s1.trans (Same.upd (o:=.tup [.int (ptot ps),.int 1]) hz)
  have hz2:upd H1 z (.tup [.int (ptot ps),.int 1]) z=some (.tup [.int (ptot ps),.int 1]):=aB
  show mL K [V.ref m,V.ref z] (upd H1 z (.tup [.int (ptot ps),.int 1])) _ E0
  generalize upd H1 z (.tup [.int (ptot ps),.int 1])=H2 at s2 hz2 ⊢
  refine ⟨m,z,a.1,a.2,ptot ps,1,rfl,kJ (b:=(ptot ps,1)) (SqT.of (s2 _ _ hm)) (SqT.of hz2) (aBe sa) (tH (by omega) (by omega)),S1,fun r H3 s3 hr3 => ?_⟩
  have hr3':H3 r=some (.tup [.int (lw (a.1*1) (a.2*ptot ps)).1,.int (lw (a.1*1) (a.2*ptot ps)).2]):=hr3
  have s03:=s2.trans s3
  have c1:=BQ.mul1 sa.am.b1 S1
  have amz:=gP (show 0<=a.1*1 by have:=sa.am.t0; omega) c1
  have bz:=vA (n:=50) (show 0<=a.1*1 by have:=sa.am.t0; omega) c1 (by rw [Int.mul_one]; exact sa.bt.mono (by decide)) ((sa.bb.mul (bP 7 (c:=128) (by omega) (by omega):Bt 7 (ptot ps))).mono (by decide))
  have szz:Sz (lw (a.1*1) (a.2*ptot ps)):=⟨amz,bz.1.mono (by decide),bz.2.mono (by decide)⟩
  refine ⟨_,rfl,q,rfl,⟨_,SqT.of (s03 _ _ hq)⟩,fun D2 hD2 => ?_⟩
  refine dP (Ys.tup (SqT.of (s03 _ _ hq))) (fun i _ y H=>∀ p:Int × Str,ps[i]?=some p->PaV H y (p.2,lw (a.1*p.1) (a.2*ptot ps))) (fun i x y H H' h k p e=>(h p e).keep k) hD2 (by omega) (fun i v H' R hv sm hR => ?_) (fun ys H4 s4 hD4 yl hy => ?_)
  ·obtain ⟨p,hp,zz,rfl,hzz⟩:=hu.get hv
   have pn:=hn p (List.mem_of_getElem? hp)
   refine ⟨zz,_,rfl,SqT.of ((s03.trans sm) _ _ hzz),rfl,_,_,rfl,_,_,rfl,rfl,((Keep.refl _).set rfl).set rfl,?_⟩
   refine ⟨_,rfl,_,rfl,_,rfl,(by show 2<=sizeLine; decide),fun o ho => ?_⟩
   have so:=Same.upd (o:=.tup [.int p.1,.int 1]) ho
   refine ⟨r,o,_,_,p.1,1,rfl,kJ (b:=(p.1,1)) (SqT.of (so _ _ (sm _ _ hr3'))) (SqT.of aB) szz (tH (by omega) (by omega)),fun r2 H5 s5 hr5 => ?_⟩
   refine ⟨(by show 2<=sizeLine; decide),fun t ht=>hR _ _ ((so.trans s5).trans (Same.upd ht)) fun p' hp' => ?_⟩
   rw [hp] at hp'
   cases hp'
   refine ⟨t,r2,rfl,aB,?_⟩
   rw [<- aF5 sa.am pn.1 S1]
   exact Same.upd ht _ _ hr5
  ·refine k D2 ys H4 (s03.trans s4) (bH s03 hD2) hD4 (L2R.of (by rw [List.length_map,yl,ul]) fun i p u hp hu' => ?_)
   rw [List.getElem?_map] at hp
   cases e:ps[i]? with
   | none=>rw [e] at hp; cases hp
   | some p' =>
    rw [e] at hp
    cases hp
    obtain ⟨x,hx⟩ : ∃ x,us[i]?=some x:=⟨_,List.getElem?_eq_getElem (by rw [ul]; exact (List.getElem?_eq_some_iff.mp e).1)⟩
    exact hy i x u hx hu' p' e
end
theorem mH {a:BQ.Q}(h:Am a)(b1:Bt 480 a.1)(b2:Bt 480 a.2):Sz a:=⟨h,b1.mono (by decide),b2.mono (by decide)⟩
def wZ (K:PySem.W.Frag):Sp:=fun vs H Q _=>∃ (r:Addr) (us:List V) (rs:List Rw) (ps:List Pu) (l:BQ.Q),vs=[.ref r]/\H r=some (.tup us)/\L2R (RowV H) us rs/\Rs rs ps l/\rs.length<=6/\∀ z vs' H',Same H H'->H z=none->H' z=some (.lst vs')->L2R (PuV H') vs' ps->Q (.ref z) H'
section
variable {P:Program}{w:World}{K:PySem.W.Frag}{mg:Str->Option Value}{base:Heap}
theorem tZ:FnScope ["row","lies","lacks"] ["row","lies"] (aG sPutBy):=⟨rfl,rfl,rfl,by decide +kernel,rfl,by decide +kernel,by decide +kernel⟩
theorem yA {f aN:Addr}{fd:FuncData}(F:Fun K "put_by" "put_by" sPutBy f fd)(mN:mg "NOUGHT" = some (.ref aN))(sN : ∀ H:Hp,SqT K H aN [.int 0,.int 1])(cS:Cal P w K mg base CX0 4 "shares" ["all_of_it","pairs"] (lA K))(cT:Cal P w K mg base CX0 4 "times" ["one","other"] (jN K))(cM:Cal P w K mg base CX0 4 "minus" ["one","other"] (oS K)):FnOk P w K mg base CX0 5 f fd ["row","lies"] (oP K):=by
 refine F.ok tZ (fun vs H Q E h => ?_) (fun cdv A outer s H vs Q E hr h => ?_)
 ·obtain ⟨_,_,_,_,rfl,_⟩:=h
  rfl
 ·obtain ⟨v,m,l,r,rfl,hv,hm,la,lb1,lb2,ok,k⟩:=h
  refine ⟨_,(aD (bF (aK eG (pit 0 0) bX (aT _))
    (aE (aO (bC (aA (aY (aA (pit 0 2) (aA (pit 0 1) aC))) aC))))
    aU)
   (aD (bF (aK eG (pit 0 0) bX (aT _))
    (aE (aO (aH cS hr rfl aQ (aA (pit 0 1) (aA (pit 0 2) aC)))))
    aU)
   (aD (bF (aK eG (pit 0 0) bX (aT _))
    (aE (aO (bC (aA (aY (aA (pit 0 2) (aA (aH cT hr rfl aQ (aA (aY (aA (pit 0 1) (aA aF aC))) (aA (pv 1) aC))) aC))) aC))))
    aU)
   (aD (aI (i:=2) tZ.nd rfl (Or.inl rfl) (aH cM hr rfl aQ (aA (pit 0 1) (aA (pv 1) aC))))
   (aE (aO (xL (aK (uL hr.units) (pv 2) (dQ (v:=.ref aN) rfl mN rfl) (aT _)) (bC aC) (bC (aA (aY (aA (pit 0 2) (aA (pv 2) aC))) aC))))))))),?_⟩
  have lz:=mH la lb1 lb2
  cases hv with
  | @take p m' a x hp hm' =>
   refine ⟨p,_,_,rfl,SqT.of hp,rfl,rfl,_,rfl,iteT ?_⟩
   refine ⟨p,_,_,rfl,SqT.of hp,rfl,p,_,_,rfl,SqT.of hp,rfl,(by show 2<=sizeLine; decide),fun z hz=>⟨(by show 1<=sizeLine; decide),fun t ht => ?_⟩⟩
   have s1:=(Same.upd (o:=.tup [.str x,.ref m']) hz).trans (Same.upd (o:=.lst [.ref z]) ht)
   exact k t _ _ s1 (bH (Same.upd hz) ht) aB (L2R.one ⟨z,m',rfl,Same.upd ht _ _ aB,s1 _ _ hm'⟩)
  | @parts p m' q a us ps hp hm' hq hu =>
   obtain ⟨sa,l1,l4,hn⟩:=ok
   refine ⟨p,_,_,rfl,SqT.of hp,rfl,rfl,_,rfl,iteF ⟨p,_,_,rfl,SqT.of hp,rfl,rfl,_,rfl,iteT ?_⟩⟩
   refine ⟨p,_,_,rfl,SqT.of hp,rfl,p,_,_,rfl,SqT.of hp,rfl,m',q,a,us,ps,rfl,hm',hq,hu,sa,l1,l4,hn,fun t vs' H1 s1 nt ht hr'=>k t vs' H1 s1 nt ht ?_⟩
   have e:rowQ l (.parts a ps)=ps.map fun p=>(p.2,lw (a.1*p.1) (a.2*ptot ps)):=by unfold rowQ rowP; rw [List.map_map]; rfl
   rw [e]
   exact hr'
  | @to p n x hp =>
   obtain ⟨n1,n9,l1⟩:=ok
   refine ⟨p,_,_,rfl,SqT.of hp,rfl,rfl,_,rfl,iteF ⟨p,_,_,rfl,SqT.of hp,rfl,rfl,_,rfl,iteF ⟨p,_,_,rfl,SqT.of hp,rfl,rfl,_,rfl,iteT ?_⟩⟩⟩
   refine ⟨p,_,_,rfl,SqT.of hp,rfl,p,_,_,rfl,SqT.of hp,rfl,(by show 2<=sizeLine; decide),fun o ho => ?_⟩
   have so:=Same.upd (o:=.tup [.int n,.int 1]) ho
   refine ⟨_,rfl,o,m,n,1,l.1,l.2,rfl,kJ (a:=(n,1)) (SqT.of aB) (so.tup hm) (tH (by omega) (by omega)) lz,fun r H1 s1 hr1 => ?_⟩
   refine ⟨(by show 2<=sizeLine; decide),fun z hz=>⟨(by show 1<=sizeLine; decide),fun t ht => ?_⟩⟩
   have s2:=(Same.upd (o:=.tup [.str x,.ref r]) hz).trans (Same.upd (o:=.lst [.ref z]) ht)
   have s02:=(so.trans s1).trans s2
   have nt:=bH ((so.trans s1).trans (Same.upd (o:=.tup [.str x,.ref r]) hz)) ht
   refine k t _ _ s02 nt aB (L2R.one ⟨z,r,rfl,Same.upd ht _ _ aB,?_⟩)
   have e:lw (l.1*n) l.2=lw (n*l.1) (1*l.2):=by rw [Int.mul_comm l.1,Int.one_mul]
   show AmV _ r (lw (l.1*n) l.2)
   rw [e]
   exact s2 _ _ hr1
  | @fill p m' a x hp hm' =>
   obtain ⟨sa,le⟩:=ok
   refine ⟨p,_,_,rfl,SqT.of hp,rfl,rfl,_,rfl,iteF ⟨p,_,_,rfl,SqT.of hp,rfl,rfl,_,rfl,iteF ⟨p,_,_,rfl,SqT.of hp,rfl,rfl,_,rfl,iteF ?_⟩⟩⟩
   refine ⟨p,_,_,rfl,SqT.of hp,rfl,_,rfl,m',m,a.1,a.2,l.1,l.2,rfl,kJ (SqT.of hm') hm (aBe sa) lz,le,fun r H1 s1 hr1 => ?_⟩
   have am:=qM sa.am la le
   have hr1':AmV H1 r (dI a l):=hr1
   have er:rowQ l (.fill a x)=if 0 < (dI a l).1 then [(x,dI a l)] else []:=by
    have e:rowP 0 l (.fill a x)=if 0 < (dI a l).1 then [((0:Int),x,dI a l)] else []:=rfl
    unfold rowQ
    rw [e]
    split <;> rfl
   refine ⟨_,rfl,r,aN,[(dI a l).1,(dI a l).2],[0,1],rfl,rfl,SqT.of hr1',sN _,_,rfl,ite2 (fun hc => ?_) (fun hc => ?_)⟩
   ·have e:=of_decide_eq_true hc
    injection e with e1 e
    refine ⟨(by show 0<=sizeLine; decide),fun t ht => ?_⟩
    refine k t [] _ (s1.trans (Same.upd ht)) (bH s1 ht) aB ?_
    rw [er,if_neg (by rw [e1]; decide)]
    exact L2R.nil
   ·have pos:0 < (dI a l).1:=by
     have t0:=am.t0
     by_cases z:(dI a l).1=0
     ·exfalso
      apply hc
      have u:=Fr.uniq (M:=1) (t:=(dI a l).1) (b:=(dI a l).2) (N:=0) (by decide) ⟨am,by rw [z]; simp⟩ Fr.zero
      rw [u.1,u.2]
      rfl
     ·omega
    refine ⟨p,_,_,rfl,SqT.of (s1 _ _ hp),rfl,_,rfl,(by show 2<=sizeLine; decide),fun z hz=>⟨(by show 1<=sizeLine; decide),fun t ht => ?_⟩⟩
    have s2:=(Same.upd (o:=.tup [.str x,.ref r]) hz).trans (Same.upd (o:=.lst [.ref z]) ht)
    refine k t _ _ (s1.trans s2) (bH (s1.trans (Same.upd (o:=.tup [.str x,.ref r]) hz)) ht) aB ?_
    rw [er,if_pos pos]
    exact L2R.one ⟨z,r,rfl,Same.upd ht _ _ aB,s2 _ _ hr1'⟩
theorem ndW:(["thing","many","place"]:List Str).Nodup:=by decide +kernel
theorem pB:FnScope ["rows","found","lies","place","row","pairs"] ["rows"] (aG sPaw):=⟨rfl,rfl,rfl,by decide +kernel,rfl,by decide +kernel,by decide +kernel⟩
theorem aEy {f aN:Addr}{fd:FuncData}(F:Fun K "puts_as_written" "puts_as_written" sPaw f fd)(T:Txt mg)(mN:mg "NOUGHT" = some (.ref aN))(sN : ∀ H:Hp,SqT K H aN [.int 0,.int 1])(cB:Cal P w K mg base CX0 5 "put_by" ["row","lies"] (oP K))(cP:Cal P w K mg base CX0 5 "plus" ["one","other"] (pV K))(cW:Cal P w K mg base CX0 5 "whole" ["one"] (jC K)):FnOk P w K mg base CX0 6 f fd ["rows"] (wZ K):=by
 refine F.ok pB (fun vs H Q E h => ?_) (fun cdv A outer s H vs Q E hr h => ?_)
 ·obtain ⟨_,_,_,_,_,rfl,_⟩:=h
  rfl
 ·obtain ⟨r,us,rs,ps,lz,rfl,hrr,hu,hrs,r5,k⟩:=h
  refine ⟨_,(aD (aI (i:=1) pB.nd rfl (Or.inl rfl) (bC aC))
   (aD (aI (i:=2) pB.nd rfl (Or.inl rfl) (dQ (v:=.ref aN) rfl mN rfl))
   (aD (bL PassesOwn.never rfl (xK rfl T.enum' (aA (pv 0) aC)) (dH rfl (aP (aJ (i:=3) pB.nd rfl (Or.inr rfl)) (aP (aJ (i:=4) pB.nd rfl (Or.inl rfl)) bW)))
    (aD (aI (i:=5) pB.nd rfl (Or.inl rfl) (aH cB hr rfl aQ (aA (pv 4) (aA (pv 2) aC))))
   (aD (bZ (eT PySem.F.plainAttrs_list PySem.F.slot_list_extend PySem.F.type_list_extend eX (pv 1) (aA
    (fJ (N':=["thing","many","place"]) (g:=gTup K 2 (dZ (dA 0) (dZ (dA 1) gNil))) (fun σ=>[none,none,some 3].map fun t=>t.bind fun j=>(σ[j]?).join) rfl rfl (by decide +kernel) (by decide +kernel)
     (lT (sc:=aG sPaw) rfl (by decide +kernel)) (fun _ _ _=>fR (sc:=aG sPaw) (N:=["rows","found","lies","place","row","pairs"]) [none,none,some 3] rfl rfl rfl rfl (by decide +kernel))
     (cJ (pv 5)) (fun _ _ _ _ _ _=>dH rfl (aP (aJ (i:=0) ndW rfl (Or.inl rfl) (Or.inr rfl)) (aP (aJ (i:=1) ndW rfl (Or.inl rfl) (Or.inr rfl)) bW)))
     (fun _ _ _ _ _ _=>dF)
     (fun _ _ _ _ _ _=>aY (aA (pv 2) (aA (pv 0) (aA (pv 1) aC))))) aC)))
   (aE (aI (i:=2) pB.nd rfl (Or.inl rfl) (aH cP hr rfl aQ (aA (pv 2) (aA (aH cW hr rfl aQ (aA (pv 5) aC)) aC))))))))
   (aE (aO (pv 1)))))),?_⟩
  refine ⟨(by show 0<=sizeLine; decide),fun Fd nF => ?_⟩
  have sF:=Same.upd (o:=.lst []) nF
  refine ⟨_,rfl,r,rfl,⟨_,SqT.of (sF _ _ hrr)⟩,?_⟩
  refine vQ (ys:=us) (fun i σ H'=>∃ (m:Addr) (fs:List V) (qs:List Pu) (l:BQ.Q) (v3 v4 v5:Option V),σ=[some (.ref r),some (.ref Fd),some (.ref m),v3,v4,v5]/\Same H H'/\H' Fd=some (.lst fs)/\L2R (PuV H') fs qs/\SqT K H' m [.int l.1,.int l.2]/\Rs (rs.take i) qs l)
   ⟨aN,[],[],(0,1),none,none,none,rfl,sF,aB,L2R.nil,sN _,.nil⟩ (fun i σ H' _ ⟨_,_,_,_,_,_,_,_,sm,_⟩=>SqT.of (sm _ _ hrr)) ?_ ?_
  ·rintro i v T' σ H1 hv nT ⟨m,fs,qs,l,v3,v4,v5,rfl,sm,hF,hfs,hm,rsi⟩
   obtain ⟨rw',hrw,rv⟩:=hu.get hv
   obtain ⟨ok,rsn⟩:=hrs.turn hrw rsi
   have hi:i < rs.length:=(List.getElem?_eq_some_iff.mp hrw).1
   have z1:=rsi.sz (by rw [List.length_take]; omega)
   have z2:=rsn.sz (by rw [List.length_take]; omega)
   have sT:=Same.upd (o:=.tup [.int (i:Nat),v]) nT
   have sm1:=sm.trans sT
   refine ⟨T',_,rfl,SqT.of aB,rfl,_,_,rfl,_,_,rfl,rfl,?_⟩
   generalize upd H1 T' (.tup [.int (i:Nat),v])=H2 at sT sm1 ⊢
   refine ⟨_,rfl,_,rfl,v,m,l,rw',rfl,rv.keep sm1.tk,sT.tup hm,z1.1,z1.2.1,z1.2.2.1,ok,fun z vs' H3 s3 nz hz hp => ?_⟩
   have hF3:=s3 _ _ (sT _ _ hF)
   refine ⟨_,rfl,.inl ⟨rfl,_,SqL.of hF3⟩,_,rfl,z,rfl,⟨_,SqL.of hz⟩,fun D hD => ?_⟩
   have aml : ∀ p ∈ rowQ l rw',Am p.2/\Bt 480 p.2.1/\Bt 480 p.2.2:=fun p hp'=>by
    have:=z2.2.2.2.1 ((i:Int),p.1,p.2) (List.mem_append_right _ (by rw [jS]; exact List.mem_map.mpr ⟨p,hp',rfl⟩))
    exact ⟨this.1,this.2.2.1,this.2.2.2⟩
   have rl:(rowQ l rw').length<=24:=by
    have:=z2.2.2.2.2.2.2
    rw [jS,List.length_append,List.length_map] at this
    omega
   have rl4:(rowQ l rw').length<=4:=by
    obtain ⟨M,N,V,ri⟩:=rsi.ri
    obtain ⟨_,_,_,_,_,_,h5,_⟩:=qB (i:Int) ri ok
    rw [jS,List.length_map] at h5
    exact h5
   refine dP (Ys.list (SqL.of hz)) (fun j _ y H=>∀ p,(rowQ l rw')[j]?=some p->PuV H y ((i:Int),p.1,p.2)) (fun j x y H H' h k p e=>(h p e).keep k) hD (by rw [hp.len]; omega) (fun j y H' R hy smj hR => ?_) (fun ys H4 s4 hD' yl hy => ?_)
   ·obtain ⟨p,hpj,t,mm,rfl,ht,hmm⟩:=hp.get hy
    refine ⟨t,_,rfl,SqT.of (smj _ _ ht),rfl,_,_,rfl,_,_,rfl,rfl,((Keep.refl _).set rfl).set rfl,?_⟩
    refine ⟨_,rfl,_,rfl,_,rfl,(by show 3<=sizeLine; decide),fun o ho=>hR _ _ (Same.upd ho) fun p' hp' => ?_⟩
    rw [hpj] at hp'
    cases hp'
    exact ⟨o,mm,rfl,aB,Same.upd ho _ _ (smj _ _ hmm)⟩
   have hF4:=s4 _ _ hF3
   have ry:L2R (PuV H4) ys (rowP i l rw'):=by
    rw [jS]
    refine L2R.of (by rw [List.length_map,yl,hp.len]) fun j p u hpj hu' => ?_
    rw [List.getElem?_map] at hpj
    cases e:(rowQ l rw')[j]? with
    | none=>rw [e] at hpj; cases hpj
    | some p' =>
     rw [e] at hpj
     cases hpj
     obtain ⟨x,hx⟩ : ∃ x,vs'[j]?=some x:=⟨_,List.getElem?_eq_getElem (by rw [hp.len]; exact (List.getElem?_eq_some_iff.mp e).1)⟩
     exact hy j x u hx hu' p' e
   refine ⟨Fd,D,_,_,rfl,rfl,hF4,hD',?_,?_⟩
   ·have a:=hfs.len
    have b:=ry.len
    have c:=z2.2.2.2.2.2.2
    rw [List.length_append] at c
    exact Nat.le_trans (show _<=1000 by omega) (by decide)
   have sF5:Tk H4 (upd H4 Fd (.lst (fs ++ ys))):=Tk.lst hF4
   have s04:=sm1.trans (s3.trans s4)
   have s05:Same H (upd H4 Fd (.lst (fs ++ ys))):=bQ s04 nF
   have hz5:upd H4 Fd (.lst (fs ++ ys)) z=some (.lst vs'):=by
    have zF:z ≠ Fd:=fun e=>by
     have:=sT _ _ hF
     rw [<- e,nz] at this
     cases this
    rw [aL zF]
    exact s4 _ _ hz
   have hm5:SqT K (upd H4 Fd (.lst (fs ++ ys))) m [.int l.1,.int l.2]:=by
    have h4:=s4.tup (s3.tup (sT.tup hm))
    rcases h4 with (h | ⟨o,h⟩) | h
    ·exact .inl (.inl (sF5 _ _ h))
    ·refine .inl (.inr ⟨o,?_⟩)
     rw [aL (fun e=>by rw [e,hF4] at h; cases h)]
     exact h
    ·exact .inr h
   have hp5:L2R (PaV (upd H4 Fd (.lst (fs ++ ys)))) vs' (rowQ l rw'):=hp.imp fun _ _ x=>x.keep (s4.tk.trans sF5)
   have hf5:L2R (PuV (upd H4 Fd (.lst (fs ++ ys)))) (fs ++ ys) (qs ++ rowP i l rw'):=(hfs.imp fun _ _ x=>x.keep (((sT.trans s3).trans s4).tk.trans sF5)).append (ry.imp fun _ _ x=>x.keep sF5)
   have hF5:upd H4 Fd (.lst (fs ++ ys)) Fd=some (.lst (fs ++ ys)):=aB
   generalize upd H4 Fd (.lst (fs ++ ys))=H5 at s05 hz5 hm5 hp5 hf5 hF5 ⊢
   have em:(rowQ l rw').map (·.2)=amts (rowP i l rw'):=(wN i l rw').symm
   have hsA : ∀ s ∈ (rowQ l rw').map (·.2),Am s/\Bt 480 s.1/\Bt 480 s.2:=fun s hs=>by
    obtain ⟨p,hp',rfl⟩:=List.mem_map.mp hs
    exact aml p hp'
   have hsum:=aGq (by rw [List.length_map]; exact rl4) hsA
   refine ⟨_,rfl,_,rfl,z,vs',rowQ l rw',rfl,SqL.of hz5,hp5,fun p hp'=>mH (aml p hp').1 (aml p hp').2.1 (aml p hp').2.2,hsum,fun g H6 s6 hg => ?_⟩
   have hw:=hsum (rowQ l rw').length
   rw [List.take_of_length_le (by rw [List.length_map]; exact Nat.le_refl _)] at hw
   refine ⟨m,g,l.1,l.2,_,_,rfl,kJ (s6.tup hm5) hg (mH z1.1 z1.2.1 z1.2.2.1) hw,fun g2 H7 s7 hg2 => ?_⟩
   have s67:=s6.trans s7
   refine ⟨g2,fs ++ ys,_,fo l (amts (rowP i l rw')),_,_,_,rfl,s05.trans s67,s67 _ _ hF5,hf5.imp fun _ _ x=>x.keep s67.tk,?_,rsn⟩
   rw [<- em,zJ z1.1 (fun s hs=>(hsA s hs).1)]
   exact hg2
  ·rintro σ H1 ⟨m,fs,qs,l,v3,v4,v5,rfl,sm,hF,hfs,hm,rsi⟩
   rw [hu.len,List.take_length] at rsi
   obtain ⟨rfl,_⟩:=hrs.det rsi
   exact ⟨_,rfl,k Fd fs H1 sm nF hF hfs⟩
end
end K25
namespace K25
open PySem PySem.Spec PyProof.Rows L2 GM TM BQ TR
def RecV (H:Hp)(v:V)(p:Str × List Rw):Prop:=∃ z q vs,v = .ref z/\H z=some (.tup [.str p.1,.ref q])/\H q=some (.tup vs)/\L2R (RowV H) vs p.2
theorem RecV.keep {H H':Hp}{v:V}{p:Str × List Rw}(k:Tk H H')(h:RecV H v p):RecV H' v p:=by
 obtain ⟨z,q,vs,e,a,b,c⟩:=h
 exact ⟨z,q,vs,e,k _ _ a,k _ _ b,c.imp fun _ _ x=>x.keep k⟩
def BkV (H:Hp)(b:Addr)(us:List V)(rc:List (Str × List Rw)):Prop:=∃ x y f,H b=some (.tup [x,y,.ref f])/\H f=some (.tup us)/\L2R (RecV H) us rc
theorem BkV.keep {H H':Hp}{b:Addr}{us:List V}{rc:List (Str × List Rw)}(k:Tk H H')(h:BkV H b us rc):BkV H' b us rc:=by
 obtain ⟨x,y,f,a,b',c⟩:=h
 exact ⟨x,y,f,k _ _ a,k _ _ b',c.imp fun _ _ x=>x.keep k⟩
def due (a l s:BQ.Q):BQ.Q:=lw (s.1*a.1*l.2) (s.2*a.2*l.1)
def dues (a l:BQ.Q)(ps:List Pu):List Pu:=ps.map fun p=>(p.1,p.2.1,due a l p.2.2)
theorem aFj {a l s:BQ.Q}(ha:Am a)(hl:Am l)(l1:1<=l.1)(hs:Am s):lw (s.1*(lw (a.1*l.2) (a.2*l.1)).1) (s.2*(lw (a.1*l.2) (a.2*l.1)).2)=due a l s:=by
 have n0:=Int.mul_nonneg ha.t0 (show 0<=l.2 by have:=hl.b1; omega)
 have n1:=BQ.mul1 ha.b1 l1
 have am:=gP n0 n1
 have cr:=eC (a.1*l.2) (a.2*l.1)
 unfold due
 generalize lw (a.1*l.2) (a.2*l.1)=z at *
 refine uY (Int.mul_nonneg hs.t0 am.t0) (BQ.mul1 hs.b1 am.b1) (Int.mul_nonneg (Int.mul_nonneg hs.t0 ha.t0) (by have:=hl.b1; omega)) (BQ.mul1 (BQ.mul1 hs.b1 ha.b1) l1) (by grind)
def iD:Sp:=fun vs H Q _=>∃ (b:Addr) (us:List V) (rc:List (Str × List Rw)) (j:Nat) (p:Str × List Rw),vs=[.ref b,.str p.1]/\BkV H b us rc/\(rc.map (·.1)).Nodup/\rc[j]?=some p/\∀ q vs',H q=some (.tup vs')->L2R (RowV H) vs' p.2->Q (.ref q) H
def tN (K:PySem.W.Frag):Sp:=fun vs H Q _=>∃ (b m:Addr) (us:List V) (rc:List (Str × List Rw)) (j:Nat) (p:Str × List Rw) (a l:BQ.Q) (ps:List Pu),vs=[.ref b,.str p.1,.ref m]/\BkV H b us rc/\(rc.map (·.1)).Nodup/\rc[j]?=some p/\AmV H m a/\Am a/\Bt 3200 a.1/\Bt 3200 a.2/\Rs p.2 ps l/\1<=p.2.length/\p.2.length<=6 /\
 ∀ z vs' H',Same H H'->H z=none->H' z=some (.lst vs')->L2R (PuV H') vs' (dues a l ps)->Q (.ref z) H'
section
variable {P:Program}{w:World}{K:PySem.W.Frag}{mg:Str->Option Value}{base:Heap}
theorem lG:FnScope ["book","name","recipe","rows"] ["book","name"] (aG sRowsOf):=⟨rfl,rfl,rfl,by decide +kernel,rfl,by decide +kernel,by decide +kernel⟩
theorem uR {f:Addr}{fd:FuncData}(F:Fun K "rows_of" "rows_of" sRowsOf f fd):FnOk P w K mg base CX0 1 f fd ["book","name"] iD:=by
 refine F.ok lG (fun vs H Q E h => ?_) (fun cdv A outer s H vs Q E hr h => ?_)
 ·obtain ⟨_,_,_,_,_,rfl,_⟩:=h
  rfl
 ·obtain ⟨b,us,rc,j,p,rfl,⟨x,y,g,hb,hg,hu⟩,nd,hj,k⟩:=h
  refine ⟨_,(aD (bL PassesOwn.never rfl (eJ (pit 0 2)) (dH rfl (aP (aJ (i:=2) lG.nd rfl (Or.inl rfl)) (aP (aJ (i:=3) lG.nd rfl (Or.inl rfl)) bW)))
    (aE (bF (aK eG (pv 2) (pv 1) (aT _))
    (aE (aO (pv 3)))
    aU)))
   (aE (aO (aY aC)))),?_⟩
  have jl:j < us.length:=by rw [hu.len]; exact (List.getElem?_eq_some_iff.mp hj).1
  refine ⟨b,_,_,rfl,SqT.of hb,rfl,g,rfl,⟨_,SqT.of hg⟩,?_⟩
  refine fP (xs:=us) (fun i σ H'=>∃ v2 v3:Option V,σ=[some (.ref b),some (.str p.1),v2,v3]/\H'=H/\i<=j) ⟨none,none,rfl,rfl,Nat.zero_le _⟩ (fun i σ H' _ ⟨_,_,_,e,_⟩=>by rw [e]; exact SqT.of hg) ?_ ?_
  ·rintro i v σ H1 hv ⟨v2,v3,rfl,rfl,ij⟩
   obtain ⟨p',hp',z,q,vs',rfl,hz,hq,hr'⟩:=hu.get hv
   refine ⟨z,_,rfl,SqT.of hz,rfl,_,_,rfl,_,_,rfl,rfl,?_⟩
   refine ⟨_,rfl,_,rfl,rfl,_,rfl,ite2 (fun hc => ?_) (fun hc => ?_)⟩
   ·have e:p'.1=p.1:=by simpa using hc
    have e':i=j:=by
     have h1:(rc.map (·.1))[i]?=some p'.1:=by rw [List.getElem?_map,hp']; rfl
     have h2:(rc.map (·.1))[j]?=some p.1:=by rw [List.getElem?_map,hj]; rfl
     rw [e] at h1
     exact (List.getElem?_inj (List.getElem?_eq_some_iff.mp h1).1 nd).mp (h1.trans h2.symm)
    subst e'
    rw [hj] at hp'
    cases hp'
    exact ⟨_,rfl,k q vs' hq hr'⟩
   ·have ne:i ≠ j:=fun z'=>by
     subst z'
     rw [hj] at hp'
     cases hp'
     exact hc (by simp)
    exact ⟨_,_,rfl,rfl,by omega⟩
  ·rintro σ H1 ⟨v2,v3,rfl,rfl,ij⟩
   omega
theorem ndP:(["place","thing","many","share"]:List Str).Nodup:=by decide +kernel
theorem tY:FnScope ["book","recipe","asked","written","share"] ["book","recipe","asked"] (aG sPuts):=⟨rfl,rfl,rfl,by decide +kernel,rfl,by decide +kernel,by decide +kernel⟩
theorem aCb {f:Addr}{fd:FuncData}(F:Fun K "puts" "puts" sPuts f fd)(cR:Cal P w K mg base CX0 6 "rows_of" ["book","name"] iD)(cA:Cal P w K mg base CX0 6 "puts_as_written" ["rows"] (wZ K))(cO:Cal P w K mg base CX0 6 "over" ["one","other"] (mL K))(cB:Cal P w K mg base CX0 6 "whole_bowl" ["written"] (tU K))(cT:Cal P w K mg base CX0 6 "times" ["one","other"] (jN K)):FnOk P w K mg base CX0 7 f fd ["book","recipe","asked"] (tN K):=by
 refine F.ok tY (fun vs H Q E h => ?_) (fun cdv A outer s H vs Q E hr h => ?_)
 ·obtain ⟨_,_,_,_,_,_,_,_,_,rfl,_⟩:=h
  rfl
 ·obtain ⟨b,m,us,rc,j,p,a,l,ps,rfl,hb,nd,hj,hm,aa,ab1,ab2,hrs,p1,p5,k⟩:=h
  refine ⟨_,(aD (aI (i:=3) tY.nd rfl (Or.inl rfl) (aH cA hr rfl aQ (aA (aH cR hr rfl aQ (aA (pv 0) (aA (pv 1) aC))) aC)))
   (aD (aI (i:=4) tY.nd rfl (Or.inr rfl) (aH cO hr rfl aQ (aA (pv 2) (aA (aH cB hr rfl aQ (aA (pv 3) aC)) aC))))
   (aE (aO (fJ (N':=["place","thing","many","share"]) (g:=gTup K 3 (dZ (dA 0) (dZ (dA 1) (dZ (dA 2) gNil)))) (fun σ=>[none,none,none,some 4].map fun t=>t.bind fun j=>(σ[j]?).join) rfl rfl (by decide +kernel) (by decide +kernel)
     (lT (sc:=aG sPuts) rfl (by decide +kernel)) (fun _ _ _=>fR (sc:=aG sPuts) (N:=["book","recipe","asked","written","share"]) [none,none,none,some 4] rfl rfl rfl rfl (by decide +kernel))
     (cJ (pv 3)) (fun _ _ _ _ _ _=>dH rfl (aP (aJ (i:=0) ndP rfl (Or.inl rfl) (Or.inr rfl)) (aP (aJ (i:=1) ndP rfl (Or.inl rfl) (Or.inr rfl)) (aP (aJ (i:=2) ndP rfl (Or.inl rfl) (Or.inr rfl)) bW))))
     (fun _ _ _ _ _ _=>dF)
     (fun _ _ _ _ _ _=>aY (aA (pv 0) (aA (pv 1) (aA (aH cT hr rfl aQ (aA (pv 2) (aA (pv 3) aC))) aC))))))))),?_⟩
  have z:=hrs.sz p5
  have l1:=hrs.pos p1
  have hl:=z.1
  have asz:Sz a:=⟨aa,ab1.mono (by decide),ab2.mono (by decide)⟩
  refine ⟨_,rfl,_,rfl,b,us,rc,j,p,rfl,hb,nd,hj,fun q vs' hq hqr => ?_⟩
  refine ⟨q,vs',p.2,ps,l,rfl,hq,hqr,hrs,p5,fun w' ws H1 s1 nw hw hws => ?_⟩
  refine ⟨_,rfl,_,rfl,w',ws,ps,rfl,SqL.of hw,hws,by rw [hws.len]; omega,fun p hp=>mH (z.2.2.2.1 p hp).1 (z.2.2.2.1 p hp).2.2.1 (z.2.2.2.1 p hp).2.2.2,z.2.2.2.2.1,fun g H2 s2 hg => ?_⟩
  rw [<- z.2.2.2.2.2.1] at hg
  have s02:=s1.trans s2
  refine ⟨m,g,a.1,a.2,l.1,l.2,rfl,kJ (SqT.of (s02 _ _ hm)) hg asz (mH hl z.2.1 z.2.2.1),l1,fun r H3 s3 hr3 => ?_⟩
  have hr3':AmV H3 r (lw (a.1*l.2) (a.2*l.1)):=hr3
  have n0:=Int.mul_nonneg aa.t0 (show 0<=l.2 by have:=hl.b1; omega)
  have n1:=BQ.mul1 aa.b1 l1
  have bz:=vA (n:=3700) n0 n1 ((ab1.mul z.2.2.1).mono (by decide)) ((ab2.mul z.2.1).mono (by decide))
  have szz:Sz (lw (a.1*l.2) (a.2*l.1)):=⟨gP n0 n1,bz.1.mono (by decide),bz.2.mono (by decide)⟩
  have s23:=s2.trans s3
  have s03:=s02.trans s3
  refine ⟨_,rfl,w',rfl,⟨_,SqL.of (s23 _ _ hw)⟩,fun D hD => ?_⟩
  refine dP (Ys.list (SqL.of (s23 _ _ hw))) (fun i _ y H=>∀ p,ps[i]?=some p->PuV H y (p.1,p.2.1,due a l p.2.2)) (fun i x y H H' h k p e=>(h p e).keep k) hD (by rw [hws.len]; omega) (fun i v H' R hv sm hR => ?_) (fun ys H4 s4 hD' yl hy => ?_)
  ·obtain ⟨pp,hpp,t,mm,rfl,ht,hmm⟩:=hws.get hv
   have pz:=z.2.2.2.1 pp (List.mem_of_getElem? hpp)
   have sA:=s23.trans sm
   refine ⟨t,_,rfl,SqT.of (sA _ _ ht),rfl,_,_,rfl,_,_,rfl,_,_,rfl,rfl,(((Keep.refl _).set rfl).set rfl).set rfl,?_⟩
   refine ⟨_,rfl,_,rfl,_,rfl,_,rfl,mm,r,pp.2.2.1,pp.2.2.2,_,_,rfl,kJ (SqT.of (sA _ _ hmm)) (SqT.of (sm _ _ hr3')) (mH pz.1 pz.2.2.1 pz.2.2.2) szz,fun r2 H5 s5 hr5 => ?_⟩
   refine ⟨(by show 3<=sizeLine; decide),fun o ho=>hR _ _ (s5.trans (Same.upd ho)) fun p' hp' => ?_⟩
   rw [hpp] at hp'
   cases hp'
   refine ⟨o,r2,rfl,aB,?_⟩
   show AmV _ r2 (due a l pp.2.2)
   rw [<- aFj aa hl l1 pz.1]
   exact Same.upd ho _ _ hr5
  ·refine k D ys H4 (s03.trans s4) (bH s03 hD) hD' (L2R.of (by unfold dues; rw [List.length_map,yl,hws.len]) fun i p u hp hu' => ?_)
   unfold dues at hp
   rw [List.getElem?_map] at hp
   cases e:ps[i]? with
   | none=>rw [e] at hp; cases hp
   | some p' =>
    rw [e] at hp
    cases hp
    obtain ⟨x,hx⟩ : ∃ x,ws[i]?=some x:=⟨_,List.getElem?_eq_getElem (by rw [hws.len]; exact (List.getElem?_eq_some_iff.mp e).1)⟩
    exact hy i x u hx hu' p' e
end
def rowC (i:Int)(l:BQ.Q):Rw->List Pu
 | .fill a x=>[(i,x,dI a l)]
 | r=>rowP i l r
def posP (p:Pu):Bool:=decide (0 < p.2.2.1)
theorem pE {n:Nat}{ps:List Pu}{l:BQ.Q}{M N V:Int}{r:Rw}{i:Int}(ri:RI n ps l M N V)(ok:ROk l r):(rowC i l r).filter posP=rowP i l r:=by
 obtain ⟨_,_,_,_,_,_,_,h6,_⟩:=qB i ri ok
 have all:(rowP i l r).filter posP=rowP i l r:=List.filter_eq_self.mpr fun p hp=>decide_eq_true (by have:=(h6 p hp).2.1; omega)
 cases r with
 | take a x=>exact all
 | parts a ps=>exact all
 | to n x=>exact all
 | fill a x =>
  have e:rowP i l (.fill a x)=if 0 < (dI a l).1 then [(i,x,dI a l)] else []:=rfl
  rw [e]
  show List.filter posP [(i,x,dI a l)]=_
  by_cases h:0 < (dI a l).1
  ·rw [if_pos h]
   exact List.filter_eq_self.mpr fun p hp=>by rw [List.mem_singleton.mp hp]; exact decide_eq_true h
  ·rw [if_neg h]
   exact List.filter_eq_nil_iff.mpr fun p hp=>by rw [List.mem_singleton.mp hp]; simpa [posP] using h
theorem aGh {K:PySem.W.Frag}{H:Hp}{r:Addr}{us:List V}{i:Int}{v:V}{Q:VK}(h:SqL K H r us\/SqT K H r us)(e:atI us i=some v)(q:Q v H):rIx K (.ref r) (.int i) H Q:=by
 rcases h with h | h
 ·exact .inl ⟨r,us,i,v,rfl,rfl,h,e,q⟩
 ·exact .inr (.inl ⟨r,us,i,v,rfl,rfl,h,e,q⟩)
theorem tJ {K:PySem.W.Frag}{H H':Hp}{r:Addr}{us:List V}(h:SqL K H r us\/SqT K H r us)(s:Same H H'):SqL K H' r us\/SqT K H' r us:=h.imp (s.seq ·) (s.tup ·)
def tM (K:PySem.W.Frag):Sp:=fun vs H Q _=>∃ (r:Addr) (us:List V) (rs:List Rw) (ps:List Pu) (l:BQ.Q),vs=[.ref r]/\(SqL K H r us\/SqT K H r us)/\L2R (RowV H) us rs/\Rs rs ps l/\rs.length<=6 /\
 ∀ t g m fs H',Same H H'->H' t=some (.tup [.ref g,.ref m])->H g=none->H' g=some (.lst fs)->L2R (PuV H') fs ps->AmV H' m l->Q (.ref t) H'
section
variable {P:Program}{w:World}{K:PySem.W.Frag}{mg:Str->Option Value}{base:Heap}
theorem ndMT:(["_law_many","_law_thing"]:List Str).Nodup:=by decide +kernel
theorem gU:FnScope ["_law_rows","_law_lies","_law_found","_law_place","_law_row_here","_law_put","_law_total","_law_many","_law_thing","_law_top","_law_one"] ["_law_rows"] (aG sRaw):=⟨rfl,rfl,rfl,by decide +kernel,rfl,by decide +kernel,by decide +kernel⟩
theorem aEx {f:Addr}{fd:FuncData}(F:Fun K "_law_raw" "_law_raw" sRaw f fd)(T:Txt mg)(cL:Cal P w K mg base CX0 3 "_law_low" ["_law_top","_law_bottom"] gS)(cS:Cal P w K mg base CX0 3 "_law_sum" ["_law_one","_law_other"] (wY K)):FnOk P w K mg base CX0 4 f fd ["_law_rows"] (tM K):=by
 refine F.ok gU (fun vs H Q E h => ?_) (fun cdv A outer s H vs Q E hr h => ?_)
 ·obtain ⟨_,_,_,_,_,rfl,_⟩:=h
  rfl
 ·obtain ⟨r,us,rs,ps,lz,rfl,hrr,hu,hrs,r5,k⟩:=h
  refine ⟨_,(aD (aI (i:=1) gU.nd rfl (Or.inl rfl) (aY (aA aF (aA aF aC))))
   (aD (aI (i:=2) gU.nd rfl (Or.inl rfl) (bC aC))
   (aD (bL PassesOwn.never rfl (eF rfl T.range (aA (aS aW rfl T.len PySem.boot_len (aA (pv 0) aC)) aC)) (aJ (i:=3) gU.nd rfl (Or.inl rfl))
    (aD (aI (i:=4) gU.nd rfl (Or.inl rfl) (dG aFf (pv 0) (pv 3) (fun _ _=>rfl)))
   (aD (aI (i:=5) gU.nd rfl (Or.inl rfl) (bC (aA (aY (aA (pv 3) (aA (pit 4 2) (aA (pit 4 1) aC)))) aC)))
   (aD (bF (aK eG (pit 4 0) bX (aT _))
    (aD (aI (i:=5) gU.nd rfl (Or.inl rfl) (bC aC))
   (aD (aI (i:=6) gU.nd rfl (Or.inl rfl) (aV bA (dG fU (pit 4 1) aF (fun _ _=>rfl)) (aS (lZ rfl) rfl T.sum' boot_sum (aA
     (gX (N':=["_law_many","_law_thing"]) (cl:=[]) (g:=gTup K 2 (dZ (dA 0) (dZ (dA 1) gNil))) (fun _=>[none,none]) rfl rfl (by decide +kernel) (by decide +kernel) (eA (by decide +kernel)) (fun _ _=>eM)
    (eJ (pit 4 2)) (fun _ _ _ _ _=>dH rfl (aP (aJ (i:=0) ndMT rfl (Or.inl rfl) (Or.inr rfl)) (aP (aJ (i:=1) ndMT rfl (Or.inl rfl) (Or.inr rfl)) bW))) (fun _ _ _ _ _=>dF)
    (fun _ _ _ _ _=>pv 0)) aC))))
   (aE (bL PassesOwn.never rfl (eJ (pit 4 2)) (dH rfl (aP (aJ (i:=7) gU.nd rfl (Or.inl rfl)) (aP (aJ (i:=8) gU.nd rfl (Or.inl rfl)) bW)))
    (aE (bZ (eT PySem.F.plainAttrs_list PySem.F.slot_list_append PySem.F.type_list_append bY (pv 5) (aA (aY (aA (pv 3) (aA (pv 8) (aA (aH cL hr rfl aQ (aA (aV bA (dG fU (pit 4 1) aF (fun _ _=>rfl)) (pv 7)) (aA (pv 6) aC))) aC)))) aC))))))))
    (aE (bF (aK eG (pit 4 0) bX (aT _))
    (aE (aI (i:=5) gU.nd rfl (Or.inl rfl) (bC (aA (aY (aA (pv 3) (aA (pit 4 2) (aA (aH cL hr rfl aQ (aA (aV bA (pit 1 0) (pit 4 1)) (aA (pit 1 1) aC))) aC)))) aC))))
    (aE (bF (aK eG (pit 4 0) bX (aT _))
    (aD (aI (i:=9) gU.nd rfl (Or.inl rfl) (aV mX (aV bA (dG fU (pit 4 1) aF (fun _ _=>rfl)) (pit 1 1)) (aV bA (pit 1 0) (dG fU (pit 4 1) aF (fun _ _=>rfl)))))
   (aE (aI (i:=5) gU.nd rfl (Or.inl rfl) (bC (aA (aY (aA (pv 3) (aA (pit 4 2) (aA (aH cL hr rfl aQ (aA (pv 9) (aA (aV bA (dG fU (pit 4 1) aF (fun _ _=>rfl)) (pit 1 1)) aC))) aC)))) aC)))))
    aU)))))
   (aE (bL PassesOwn.never rfl (cJ (pv 5)) (aJ (i:=10) gU.nd rfl (Or.inl rfl))
    (aE (bF (aK pH (dG fU (pit 10 2) aF (fun _ _=>rfl)) aF (aT _))
    (aD (bZ (eT PySem.F.plainAttrs_list PySem.F.slot_list_append PySem.F.type_list_append bY (pv 2) (aA (pv 10) aC)))
   (aE (aI (i:=1) gU.nd rfl (Or.inl rfl) (aH cS hr rfl aQ (aA (pv 1) (aA (pit 10 2) aC))))))
    aU))))))))
   (aE (aO (aY (aA (pv 2) (aA (pv 1) aC)))))))),?_⟩
  have ul:=hu.len
  refine ⟨(by show 2<=sizeLine; decide),fun m0 nm0=>⟨(by show 0<=sizeLine; decide),fun Fd nF => ?_⟩⟩
  have sm0:=Same.upd (o:=.tup [.int 0,.int 1]) nm0
  have sF:=Same.upd (o:=.lst []) nF
  have nF0:H Fd=none:=bH sm0 nF
  have s00:=sm0.trans sF
  refine ⟨_,rfl,r,_,rfl,tJ hrr s00,_,rfl,by omega,by omega,?_⟩
  rw [Int.toNat_natCast]
  refine dU (fun i σ H'=>∃ (m:Addr) (fs:List V) (qs:List Pu) (l:BQ.Q) (v3 v4 v5 v6 v7 v8 v9 v10:Option V),σ=[some (.ref r),some (.ref m),some (.ref Fd),v3,v4,v5,v6,v7,v8,v9,v10]/\Same H H'/\H' Fd=some (.lst fs)/\L2R (PuV H') fs qs/\AmV H' m l/\Rs (rs.take i) qs l)
   ⟨m0,[],[],(0,1),none,none,none,none,none,none,none,none,rfl,s00,aB,L2R.nil,sF _ _ aB,.nil⟩ ?_ ?_
  ·rintro i σ H1 hi ⟨m,fs,qs,l,v3,v4,v5,v6,v7,v8,v9,v10,rfl,sm,hF,hfs,hm,rsi⟩
   obtain ⟨v,hv⟩ : ∃ v,us[i]?=some v:=⟨_,List.getElem?_eq_getElem hi⟩
   obtain ⟨rw',hrw,rv0⟩:=hu.get hv
   obtain ⟨ok,rsn⟩:=hrs.turn hrw rsi
   have hi':i < rs.length:=(List.getElem?_eq_some_iff.mp hrw).1
   have z1:=rsi.sz (by rw [List.length_take]; omega)
   have z2:=rsn.sz (by rw [List.length_take]; omega)
   obtain ⟨M,N,V',ri⟩:=rsi.ri
   have fC:=pE (i:=(i:Int)) ri ok
   have rv:=rv0.keep sm.tk
   have e0:(0:Int)+(i:Nat)=(i:Int):=by omega
   rw [e0]
   refine ⟨_,rfl,_,rfl,aGh (tJ hrr sm) (bG hv) ?_⟩
   obtain ⟨p,k0,x1,x2,ev,hp⟩ : ∃ p k0 x1 x2,v = .ref p/\H1 p=some (.tup [.str k0,x1,x2]):=by
    cases rv with
    | take a b=>exact ⟨_,_,_,_,rfl,a⟩
    | parts a b c d=>exact ⟨_,_,_,_,rfl,a⟩
    | to a=>exact ⟨_,_,_,_,rfl,a⟩
    | fill a b=>exact ⟨_,_,_,_,rfl,a⟩
   subst ev
   refine ⟨_,rfl,p,_,_,rfl,SqT.of hp,rfl,p,_,_,rfl,SqT.of hp,rfl,(by show 3<=sizeLine; decide),fun z nz=>⟨(by show 1<=sizeLine; decide),fun L nL => ?_⟩⟩
   have sz:=Same.upd (o:=.tup [.int (i:Int),x2,x1]) nz
   have sL:=Same.upd (o:=.lst [.ref z]) nL
   have s2:=sz.trans sL
   have hL2:upd (upd H1 z (.tup [.int (i:Int),x2,x1])) L (.lst [.ref z]) L=some (.lst [.ref z]):=aB
   have hz2:=sL _ _ (aB (H:=H1) (a:=z) (o:=.tup [.int (i:Int),x2,x1]))
   have nL1:H1 L=none:=bH sz nL
   dsimp only [dA]
   generalize upd (upd H1 z (.tup [.int (i:Int),x2,x1])) L (.lst [.ref z])=H2 at s2 hL2 hz2 ⊢
   refine mQ (fun σ' H'=>∃ (L':Addr) (vs':List V) (v6' v7' v8' v9':Option V),σ'=[some (.ref r),some (.ref m),some (.ref Fd),some (.int (i:Int)),some (.ref p),some (.ref L'),v6',v7',v8',v9',v10]/\Same H1 H'/\H1 L'=none/\H' L'=some (.lst vs')/\L2R (PuV H') vs' (rowC i l rw')) ?_ (fun N hN => ?_)
   ·rintro σ' H3 ⟨L',vs',v6',v7',v8',v9',rfl,s3,nL',hL',hC⟩
    have LF:L' ≠ Fd:=fun e=>by rw [e,hF] at nL'; cases nL'
    refine ⟨_,rfl,L',rfl,⟨_,SqL.of hL'⟩,?_⟩
    have cl:(rowC i l rw').length<=4:=by
     obtain ⟨_,_,_,_,_,_,h5,_⟩:=qB (i:Int) ri ok
     cases rw' with
     | fill a x=>show 1<=4; decide
     | take a x=>exact h5
     | parts a ps=>exact h5
     | to n x=>exact h5
    have posB : ∀ p ∈ (rowC i l rw').filter posP,Am p.2.2/\Bt 480 p.2.2.1/\Bt 480 p.2.2.2:=fun p hp=>by
     rw [fC] at hp
     have:=z2.2.2.2.1 p (List.mem_append_right _ hp)
     exact ⟨this.1,this.2.2.1,this.2.2.2⟩
    refine eP (xs:=vs') (fun j σ H'=>∃ (m':Addr) (fs':List V) (v10':Option V),σ=[some (.ref r),some (.ref m'),some (.ref Fd),some (.int (i:Int)),some (.ref p),some (.ref L'),v6',v7',v8',v9',v10']/\Same H H'/\Tk H3 H'/\H' L'=some (.lst vs')/\H' Fd=some (.lst (fs ++ fs'))/\L2R (PuV H') fs' (((rowC i l rw').take j).filter posP)/\AmV H' m' (fo l (amts (((rowC i l rw').take j).filter posP))))
     ⟨m,[],_,rfl,sm.trans s3,Tk.refl,hL',by rw [List.append_nil]; exact s3 _ _ hF,L2R.nil,s3 _ _ hm⟩ (fun j σ H' _ ⟨_,_,_,_,_,_,hh,_⟩=>SqL.of hh) ?_ ?_
    ·rintro j y σ H4 hy ⟨m',fs',v10',rfl,s4,tk4,hL4,hF4,hfs4,hm4⟩
     obtain ⟨pu,hpu,t,mm,rfl,ht,hmm⟩:=hC.get hy
     have ht4:=tk4 _ _ ht
     have hmm4:=tk4 _ _ hmm
     have et:(rowC i l rw').take (j+1)=(rowC i l rw').take j ++ [pu]:=by rw [List.take_add_one,hpu]; rfl
     have mem:pu ∈ rowC i l rw':=List.mem_of_getElem? hpu
     refine ⟨t,_,_,rfl,SqT.of ht4,rfl,mm,_,0,.int pu.2.2.1,rfl,rfl,SqT.of hmm4,bG (j:=0) rfl,_,_,rfl,rfl,_,rfl,ite2 (fun hc => ?_) (fun hc => ?_)⟩
     ·have pos:posP pu=true:=hc
      have e2:((rowC i l rw').take (j+1)).filter posP=((rowC i l rw').take j).filter posP ++ [pu]:=by rw [et,List.filter_append,List.filter_cons_of_pos pos]; rfl
      have pb:=posB pu (List.mem_filter.mpr ⟨mem,pos⟩)
      have fl:fs'.length<=4:=by
       rw [hfs4.len]
       exact Nat.le_trans (List.length_filter_le _ _) (by rw [List.length_take]; omega)
      have fl0:=hfs.len
      have ql:=z1.2.2.2.2.2.2
      refine ⟨_,rfl,.inl ⟨rfl,_,SqL.of hF4⟩,_,rfl,Fd,_,_,rfl,rfl,hF4,aX (by rw [List.length_append]; omega),?_⟩
      have tkF:Tk H4 (upd H4 Fd (.lst ((fs ++ fs') ++ [.ref t]))):=Tk.lst hF4
      have s5:Same H (upd H4 Fd (.lst ((fs ++ fs') ++ [.ref t]))):=bQ s4 nF0
      have hL5:upd H4 Fd (.lst ((fs ++ fs') ++ [.ref t])) L'=some (.lst vs'):=by rw [aL LF]; exact hL4
      have hF5:upd H4 Fd (.lst ((fs ++ fs') ++ [.ref t])) Fd=some (.lst (fs ++ (fs' ++ [.ref t]))):=by rw [aB,List.append_assoc]
      have hm5:=tkF _ _ hm4
      have hmm5:=tkF _ _ hmm4
      have hfs5:L2R (PuV (upd H4 Fd (.lst ((fs ++ fs') ++ [.ref t])))) (fs' ++ [.ref t]) (((rowC i l rw').take (j+1)).filter posP):=by
       rw [e2]
       exact (hfs4.imp fun _ _ x=>x.keep tkF).snoc ⟨t,mm,rfl,tkF _ _ ht4,hmm5⟩
      generalize upd H4 Fd (.lst ((fs ++ fs') ++ [.ref t]))=H5 at tkF s5 hL5 hF5 hm5 hmm5 hfs5 ⊢
      have hb : ∀ s ∈ amts (((rowC i l rw').take j).filter posP),Am s/\Bt 480 s.1/\Bt 480 s.2:=fun s hs=>by
       obtain ⟨q,hq,rfl⟩:=List.mem_map.mp hs
       have:=List.mem_filter.mp hq
       exact posB q (List.mem_filter.mpr ⟨List.mem_of_mem_take this.1,this.2⟩)
      have bl:=aCw z1.1 z1.2.1 z1.2.2.1 hb
      have aml:=aCx (fun s hs=>(hb s hs).1) z1.1
      have ll:(amts (((rowC i l rw').take j).filter posP)).length<=4:=by
       unfold amts
       rw [List.length_map,<- hfs4.len]
       exact fl
      refine ⟨_,rfl,t,_,_,rfl,SqT.of (tkF _ _ ht4),rfl,m',mm,_,_,pu.2.2.1,pu.2.2.2,rfl,kJ (SqT.of hm5) (SqT.of hmm5) ⟨aml,bl.1.mono (by omega),bl.2.mono (by omega)⟩ (mH pb.1 pb.2.1 pb.2.2),fun g H6 s6 hg => ?_⟩
      refine ⟨g,fs' ++ [.ref t],_,rfl,s5.trans s6,(tk4.trans tkF).trans s6.tk,s6 _ _ hL5,s6 _ _ hF5,hfs5.imp fun _ _ x=>x.keep s6.tk,?_⟩
      rw [e2]
      unfold amts
      rw [List.map_append,kC]
      exact hg
     ·have npos : ¬ posP pu=true:=hc
      have e2:((rowC i l rw').take (j+1)).filter posP=((rowC i l rw').take j).filter posP:=by rw [et,List.filter_append,List.filter_cons_of_neg npos]; simp
      refine ⟨m',fs',_,rfl,s4,tk4,hL4,hF4,by rw [e2]; exact hfs4,by rw [e2]; exact hm4⟩
    ·rintro σ H4 ⟨m',fs',v10',rfl,s4,tk4,hL4,hF4,hfs4,hm4⟩
     rw [hC.len,List.take_length,fC] at hfs4 hm4
     exact ⟨m',fs ++ fs',_,_,_,_,_,_,_,_,_,_,rfl,s4,hF4,(hfs.imp fun _ _ x=>x.keep (s3.tk.trans tk4)).append hfs4,hm4,rsn⟩
   ·have hm2:=s2 _ _ hm
    have SM:=SqT.of (K:=K) hm2
    have lz1:=z1.1
    have l0:=lz1.t0
    have lb:=lz1.b1
    have b6t:Bt 1000000 l.1:=z1.2.1.mono (by decide)
    have b6b:Bt 1000000 l.2:=z1.2.2.1.mono (by decide)
    cases rv with
    | @take _ m' a x hp' hm' =>
     have hp2:=s2 _ _ hp'
     cases (hp.symm.trans hp')
     refine ⟨p,_,_,rfl,SqT.of hp2,rfl,rfl,_,rfl,iteF ⟨p,_,_,rfl,SqT.of hp2,rfl,rfl,_,rfl,iteF ⟨p,_,_,rfl,SqT.of hp2,rfl,rfl,_,rfl,iteF ?_⟩⟩⟩
     exact hN _ _ ⟨L,_,_,_,_,_,rfl,s2,nL1,hL2,L2R.one ⟨z,m',rfl,hz2,s2 _ _ hm'⟩⟩
    | @parts _ m' q a us' qs' hp' hm' hq hu' =>
     have hp2:=s2 _ _ hp'
     cases (hp.symm.trans hp')
     obtain ⟨sa,l1,l4,hn⟩:=ok
     have uql:=hu'.len
     have a0:=sa.am.t0
     have S1:1<=ptot qs':=by
      cases qs' with
      | nil=>exact absurd l1 (by decide)
      | cons p r =>
       have:=jU (fun p hp=>(hn p hp).1) (List.mem_cons_self (a:=p) (l:=r))
       have:=(hn p (List.mem_cons_self ..)).1
       omega
     have S36:=lN fun p hp=>(hn p hp).2
     have bS:Bt 7 (ptot qs'):=bP 7 (c:=128) (by omega) (by omega)
     refine ⟨p,_,_,rfl,SqT.of hp2,rfl,rfl,_,rfl,iteT ?_⟩
     refine ⟨(by show 0<=sizeLine; decide),fun L' nL' => ?_⟩
     have sL':=Same.upd (o:=.lst []) nL'
     have s3:=s2.trans sL'
     have nL'1:H1 L'=none:=bH s2 nL'
     have hL3:upd H2 L' (.lst []) L'=some (.lst []):=aB
     generalize upd H2 L' (.lst [])=H3 at s3 hL3 sL' ⊢
     have hp3:=s3 _ _ hp'
     refine ⟨p,_,_,rfl,SqT.of hp3,rfl,m',_,1,.int a.2,rfl,rfl,SqT.of (s3 _ _ hm'),bG (j:=1) rfl,p,_,_,rfl,SqT.of hp3,rfl,q,rfl,⟨_,SqT.of (s3 _ _ hq)⟩,fun D hD => ?_⟩
     refine dP (Ys.tup (SqT.of (s3 _ _ hq))) (fun i _ y _=>∀ p:Int × Str,qs'[i]?=some p->y = .int p.1) (fun _ _ _ _ _ h _=>h) hD (by omega) (fun i v H' R hv sm' hR => ?_) (fun ys H4 s4 hD' yl hy => ?_)
     ·obtain ⟨pp,hpp,zz,rfl,hzz⟩:=hu'.get hv
      exact ⟨zz,_,rfl,SqT.of ((s3.trans sm') _ _ hzz),rfl,_,_,rfl,_,_,rfl,rfl,((Keep.refl _).set rfl).set rfl,_,rfl,hR _ _ (Same.refl _) fun p' hp'=>by rw [hpp] at hp'; cases hp'; rfl⟩
     have ey:ys=(qs'.map (·.1)).map V.int:=by
      refine gE (by rw [List.length_map,List.length_map,yl,uql]) fun i x y hx hy' => ?_
      rw [List.map_map,List.getElem?_map] at hx
      cases e:qs'[i]? with
      | none=>rw [e] at hx; cases hx
      | some pp =>
       rw [e] at hx
       cases hx
       obtain ⟨u',hu''⟩ : ∃ x,us'[i]?=some x:=⟨_,List.getElem?_eq_getElem (by rw [uql]; exact (List.getElem?_eq_some_iff.mp e).1)⟩
       exact hy i u' y hu'' hy' pp e
     subst ey
     refine ⟨D,qs'.map (·.1),rfl,SqL.of hD',_,_,rfl,rfl,⟨sa.bb.mono (by decide),bS.mono (by decide)⟩,?_⟩
     have s04:=s3.trans s4
     have hp4:=s04 _ _ hp'
     refine ⟨p,_,_,rfl,SqT.of hp4,rfl,q,rfl,⟨_,SqT.of (s04 _ _ hq)⟩,?_⟩
     have c1:=BQ.mul1 sa.am.b1 S1
     refine fP (xs:=us') (fun j σ H'=>∃ (vs':List V) (v7' v8':Option V),σ=[some (.ref r),some (.ref m),some (.ref Fd),some (.int (i:Int)),some (.ref p),some (.ref L'),some (.int (a.2*ptot qs')),v7',v8',v9,v10]/\Same H1 H'/\H' L'=some (.lst vs')/\L2R (PuV H') vs' ((rowC i l (.parts a qs')).take j))
      ⟨[],_,_,rfl,s04,s4 _ _ hL3,L2R.nil⟩ (fun j σ H' _ ⟨_,_,_,_,sx,_⟩=>SqT.of (sx _ _ hq)) ?_ ?_
     ·rintro j y σ H5 hy' ⟨vs',v7',v8',rfl,s5,hL5,hv5⟩
      obtain ⟨pp,hpp,zz,rfl,hzz⟩:=hu'.get hy'
      have pn:=hn pp (List.mem_of_getElem? hpp)
      refine ⟨zz,_,rfl,SqT.of (s5 _ _ hzz),rfl,_,_,rfl,_,_,rfl,rfl,?_⟩
      refine ⟨_,rfl,.inl ⟨rfl,_,SqL.of hL5⟩,_,rfl,_,rfl,p,_,_,rfl,SqT.of (s5 _ _ hp'),rfl,m',_,0,.int a.1,rfl,rfl,SqT.of (s5 _ _ hm'),bG (j:=0) rfl,_,rfl,_,_,rfl,rfl,⟨sa.bt.mono (by decide),(bP 4 (c:=16) (by omega) (by omega):Bt 4 pp.1).mono (by decide)⟩,_,rfl,?_⟩
      refine ⟨_,_,rfl,Int.mul_nonneg a0 (by omega),c1,(sa.bb.mul bS).mono (by decide),fun g H6 s6 hg => ?_⟩
      refine ⟨(by show 3<=sizeLine; decide),fun t nt => ?_⟩
      have st:=Same.upd (o:=.tup [.int (i:Int),.str pp.2,.ref g]) nt
      have hL6:=st _ _ (s6 _ _ hL5)
      have vl:vs'.length<=4:=by
       rw [hv5.len,List.length_take]
       have:(rowC i l (.parts a qs')).length=qs'.length:=List.length_map ..
       omega
      refine ⟨L',_,_,rfl,rfl,hL6,aX (by omega),?_⟩
      have tL:t ≠ L':=fun e=>by rw [e,s6 _ _ hL5] at nt; cases nt
      have tkL:Tk (upd H6 t (.tup [.int (i:Int),.str pp.2,.ref g])) (upd (upd H6 t (.tup [.int (i:Int),.str pp.2,.ref g])) L' (.lst (vs' ++ [.ref t]))):=Tk.lst hL6
      have et:(rowC i l (.parts a qs')).take (j+1)=(rowC i l (.parts a qs')).take j ++ [((i:Int),pp.2,lw (a.1*pp.1) (a.2*ptot qs'))]:=by
       rw [List.take_add_one]
       have:(rowC i l (.parts a qs'))[j]?=some ((i:Int),pp.2,lw (a.1*pp.1) (a.2*ptot qs')):=by
        show (qs'.map _)[j]?=_
        rw [List.getElem?_map,hpp]
        rfl
       rw [this]
       rfl
      refine ⟨vs' ++ [.ref t],_,_,rfl,bQ ((s5.trans s6).trans st) nL'1,aB,?_⟩
      rw [et]
      exact (hv5.imp fun _ _ x=>x.keep ((s6.trans st).tk.trans tkL)).snoc ⟨t,g,rfl,tkL _ _ aB,tkL _ _ (st _ _ hg)⟩
     ·rintro σ H5 ⟨vs',v7',v8',rfl,s5,hL5,hv5⟩
      have elen:(rowC i l (.parts a qs')).length=qs'.length:=List.length_map ..
      rw [uql,<- elen,List.take_length] at hv5
      exact hN _ _ ⟨L',vs',_,_,_,_,rfl,s5,nL'1,hL5,hv5⟩
    | @to _ n x hp' =>
     have hp2:=s2 _ _ hp'
     cases (hp.symm.trans hp')
     obtain ⟨n1,n9,l1⟩:=ok
     refine ⟨p,_,_,rfl,SqT.of hp2,rfl,rfl,_,rfl,iteF ⟨p,_,_,rfl,SqT.of hp2,rfl,rfl,_,rfl,iteT ?_⟩⟩
     refine ⟨_,rfl,p,_,_,rfl,SqT.of hp2,rfl,m,_,_,rfl,SM,rfl,p,_,_,rfl,SqT.of hp2,rfl,_,_,rfl,rfl,⟨b6t,(bP 4 (c:=16) (by omega) (by omega):Bt 4 n).mono (by decide)⟩,m,_,_,rfl,SM,rfl,?_⟩
     refine ⟨_,_,rfl,Int.mul_nonneg l0 (by omega),lb,z1.2.2.1.mono (by decide),fun g H3 s3 hg => ?_⟩
     refine ⟨(by show 3<=sizeLine; decide),fun t nt=>⟨(by show 1<=sizeLine; decide),fun L' nL' => ?_⟩⟩
     have st:=Same.upd (o:=.tup [.int (i:Int),.str x,.ref g]) nt
     have sL':=Same.upd (o:=.lst [.ref t]) nL'
     have s5:=(s2.trans s3).trans (st.trans sL')
     exact hN _ _ ⟨L',[.ref t],_,_,_,_,rfl,s5,bH ((s2.trans s3).trans st) nL',aB,L2R.one ⟨t,g,rfl,sL' _ _ aB,(st.trans sL') _ _ hg⟩⟩
    | @fill _ m' a x hp' hm' =>
     have hp2:=s2 _ _ hp'
     cases (hp.symm.trans hp')
     obtain ⟨sa,le⟩:=ok
     have SA:=SqT.of (K:=K) (s2 _ _ hm')
     refine ⟨p,_,_,rfl,SqT.of hp2,rfl,rfl,_,rfl,iteF ⟨p,_,_,rfl,SqT.of hp2,rfl,rfl,_,rfl,iteF ⟨p,_,_,rfl,SqT.of hp2,rfl,rfl,_,rfl,iteT ?_⟩⟩⟩
     refine ⟨p,_,_,rfl,SqT.of hp2,rfl,m',_,0,.int a.1,rfl,rfl,SA,bG (j:=0) rfl,m,_,_,rfl,SM,rfl,_,_,rfl,rfl,⟨sa.bt.mono (by decide),b6b⟩,m,_,_,rfl,SM,rfl,p,_,_,rfl,SqT.of hp2,rfl,m',_,1,.int a.2,rfl,rfl,SA,bG (j:=1) rfl,_,_,rfl,rfl,⟨b6t,sa.bb.mono (by decide)⟩,_,_,rfl,rfl,?_⟩
     refine ⟨_,rfl,p,_,_,rfl,SqT.of hp2,rfl,_,rfl,p,_,_,rfl,SqT.of hp2,rfl,m',_,1,.int a.2,rfl,rfl,SA,bG (j:=1) rfl,m,_,_,rfl,SM,rfl,_,_,rfl,rfl,⟨sa.bb.mono (by decide),b6b⟩,?_⟩
     refine ⟨_,_,rfl,by omega,BQ.mul1 sa.am.b1 lb,(sa.bb.mul z1.2.2.1).mono (by decide),fun g H3 s3 hg => ?_⟩
     refine ⟨(by show 3<=sizeLine; decide),fun t nt=>⟨(by show 1<=sizeLine; decide),fun L' nL' => ?_⟩⟩
     have st:=Same.upd (o:=.tup [.int (i:Int),.str x,.ref g]) nt
     have sL':=Same.upd (o:=.lst [.ref t]) nL'
     have s5:=(s2.trans s3).trans (st.trans sL')
     exact hN _ _ ⟨L',[.ref t],_,_,_,_,rfl,s5,bH ((s2.trans s3).trans st) nL',aB,L2R.one ⟨t,g,rfl,sL' _ _ aB,(st.trans sL') _ _ hg⟩⟩
  ·rintro σ H1 ⟨m,fs,qs,l,v3,v4,v5,v6,v7,v8,v9,v10,rfl,sm,hF,hfs,hm,rsi⟩
   rw [ul,List.take_length] at rsi
   obtain ⟨rfl,rfl⟩:=hrs.det rsi
   refine ⟨_,rfl,_,rfl,(by show 2<=sizeLine; decide),fun t nt => ?_⟩
   have st:=Same.upd (o:=.tup [.ref Fd,.ref m]) nt
   exact k t Fd m fs _ (sm.trans st) aB nF0 (st _ _ hF) (hfs.imp fun _ _ x=>x.keep st.tk) (st _ _ hm)
end
end K25
namespace L2
open PySem PySem.Spec PyProof.Rows
def Itz3 (K:PySem.W.Frag)(a b:Addr):It :=
  ⟨fun i H=>∃ xs ys,SqL K H a xs/\SqL K H b ys/\i < xs.length/\i < ys.length,
   fun i H v H'=>∃ T,H T=none/\v = .ref T/\∀ xs ys,SqL K H a xs->SqL K H b ys->∃ x y,xs[i]?=some x/\ys[i]?=some y/\H'=upd H T (.tup [x,y]),
   fun i H=>∃ xs ys,SqL K H a xs/\SqL K H b ys/\(i=xs.length\/(i < xs.length/\i=ys.length))⟩
def aAu (n a b:Nat)(i:Nat)(h:Heap):Prop:=IsZip h (n+4) (n+2) (n+3) .none/\IsPair h (n+2) (.ref n) (.ref (n+1))/\(∃ x y,IsPair h (n+3) x y)/\h.IsListIter n a i/\h.IsListIter (n+1) b i
theorem sX {P:Program}{w:World}{K:PySem.W.Frag}{es:List Expr}{k1:Nat}{p1:Pos}{n a b:Nat}(ha:a < n)(hb:b < n) :
  Turn P w K (.Tuple es k1 p1) (Itz3 K a b) [n+4,n+2,n+3,n,n+1] (n+4) (aAu n a b) where
 mem:=by simp
 obj:=fun i h st c hc=>by
  obtain ⟨c1,c2,⟨x,y,c3⟩,⟨o4,d4,_,f4⟩,⟨o5,d5,_,f5⟩⟩:=st
  have hc':c=n+4\/c=n+2\/c=n+3\/c=n\/c=n+1:=by simpa using hc
  rcases hc' with e | e | e | e | e
  ·subst e; exact ⟨_,c1,fun v z=>by cases z⟩
  ·subst e; exact ⟨_,c2,fun v z=>by cases z⟩
  ·subst e; exact ⟨_,c3,fun v z=>by cases z⟩
  ·subst e; exact ⟨_,d4,fun v z=>by rw [f4] at z; cases z⟩
  ·subst e; exact ⟨_,d5,fun v z=>by rw [f5] at z; cases z⟩
 keep:=fun i h h' st k=>by
  obtain ⟨c1,c2,⟨x,y,c3⟩,c4,c5⟩:=st
  exact ⟨k _ (by simp) _ c1,k _ (by simp) _ c2,⟨x,y,k _ (by simp) _ c3⟩,c4.at fun o e=>k _ (by simp) o e,c5.at fun o e=>k _ (by simp) o e⟩
 item:=by
  intro X hP hw hK hc i pins s σ H E I hf st hg
  subst hP hw hK
  obtain ⟨xs,ys,hx,hy,l1,l2⟩:=hg
  obtain ⟨its,r1,tx,_⟩:=I.list hx
  obtain ⟨its',r2,ty,_⟩:=I.list hy
  have e1:=r1.length
  have e2:=r2.length
  obtain ⟨c1,c2,⟨x0,y0,c3⟩,c4,c5⟩:=st
  have hh:X.A.in1.handled=none:=I.ok.hd hc
  refine aC7 (Draws.list hh n a (by show (_:Nat) ≠ _; omega) its.toArray) (Draws.list hh (n+1) b (by show (_:Nat) ≠ _; omega) its'.toArray) (qW ha hb) c1 c2 c3 ⟨c4,bK tx⟩ ⟨c5,bK ty⟩ (by rw [List.size_toArray]; omega) (by rw [List.size_toArray]; omega) fun x y T g t' px py hT cz cO s1 s2 cT kp=>⟨.ref T,rfl,?_⟩
  subst hT
  refine wpAny_letOwnedTupleGo_zip (s:={ s with heap:=g,toks:=t' }) cz fun g' cz' sb => ?_
  obtain ⟨vx,hvx⟩ : ∃ v,xs[i]?=some v:=⟨_,List.getElem?_eq_getElem l1⟩
  obtain ⟨vy,hvy⟩ : ∃ v,ys[i]?=some v:=⟨_,List.getElem?_eq_getElem l2⟩
  obtain ⟨ux,hux,rx⟩:=r1.get hvx
  obtain ⟨uy,huy,ry⟩:=r2.get hvy
  have ex:x=ux:=by
   have:its.toArray[i]?=some x:=px
   rw [<- Array.getElem?_toList,List.toList_toArray,hux] at this
   exact (Option.some.inj this).symm
  have ey:y=uy:=by
   have:its'.toArray[i]?=some y:=py
   rw [<- Array.getElem?_toList,List.toList_toArray,huy] at this
   exact (Option.some.inj this).symm
  subst ex ey
  have hfr:H s.heap.objs.size=none:=I.hok.fresh (Nat.le_refl _)
  have I0:Inv X pins σ (upd H s.heap.objs.size (.tup [vx,vy])) { s with heap:=s.heap.push { cls:=.type "tuple",data:=.seq #[x,y] },toks:=t' } :=
   I.laid (fun c u q=>Heap.get?_push_of_some _ q) (Nat.le_refl _) ⟨by show 2<=sizeLine; decide,[x,y],.cons rx (.cons ry .nil),⟨_,Heap.get?_push_size s.heap rfl,rfl,_,rfl⟩⟩
  have lz:n+4 < s.heap.objs.size:=Heap.lt_size c1
  have fpn : ∀ c ∈ [n+4,n+2,n+3,n,n+1],c ≠ s.heap.objs.size:=fun c hc'=>by
   have hc'':c=n+4\/c=n+2\/c=n+3\/c=n\/c=n+1:=by simpa using hc'
   rcases hc'' with e | e | e | e | e <;> (subst e; exact Nat.ne_of_lt (by omega))
  have hf0 : ∀ c ∈ [n+4,n+2,n+3,n,n+1],FpOk X pins (upd H s.heap.objs.size (.tup [vx,vy])) c:=fun c hc'=>⟨by rw [aL (fpn c hc')]; exact (hf c hc').1,(hf c hc').2⟩
  have I1:Inv X pins σ (upd H s.heap.objs.size (.tup [vx,vy])) { s with heap:=g',toks:=t' }:=by
   refine Inv.turnedL (s:={ s with heap:=s.heap.push { cls:=.type "tuple",data:=.seq #[x,y] },toks:=t' }) (h':=g') (t':=t') (ch:=[n+4,n+2,n+3,n,n+1]) I0 (fun c o hc' e => ?_) hf0
   replace e:(s.heap.push { cls:=.type "tuple",data:=.seq #[x,y] }).get? c=some o:=e
   have hn : ∀ d ∈ [n+4,n+2,n+3,n,n+1],c ≠ d:=fun d hd z=>hc' (by rw [z]; exact hd)
   refine sb.extBut _ _ (hn _ (by simp)) ?_
   by_cases ec:c=s.heap.objs.size
   ·rw [ec] at e ⊢
    rw [Heap.get?_push_size s.heap rfl] at e
    cases e
    exact cT
   ·rw [Heap.get?_push_ne _ _ _ ec] at e
    exact kp c o (hn _ (by simp)) (hn _ (by simp)) (hn _ (by simp)) (hn _ (by simp)) e
  refine ⟨.ref s.heap.objs.size,_,I1,rfl,⟨_,hfr,rfl,fun xs' ys' hx' hy'=>⟨vx,vy,by rw [I.list_inj hx' hx]; exact hvx,by rw [I.list_inj hy' hy]; exact hvy,rfl⟩⟩,?_,fun c hc'=>(hf0 c hc').1⟩
  have nz : ∀ d:Nat,d < n+4->d ≠ n+4:=fun d hd=>Nat.ne_of_lt hd
  exact ⟨cz',sb.extBut _ _ (nz _ (by omega)) (kp _ _ (nz _ (by omega)) (by show (_:Nat) ≠ _; omega) (by show (_:Nat) ≠ _; omega) (by show (_:Nat) ≠ _; omega) c2),⟨x,y,sb.extBut _ _ (nz _ (by omega)) cO⟩,s1.1.extBut sb.extBut (nz _ (by omega)),s2.1.extBut sb.extBut (nz _ (by omega))⟩
 done:=by
  intro X hP hw hK hc i pins s σ H E I hf st hg
  subst hP hw hK
  obtain ⟨xs,ys,hx,hy,l⟩:=hg
  obtain ⟨its,r1,tx,_⟩:=I.list hx
  obtain ⟨its',r2,ty,_⟩:=I.list hy
  have e1:=r1.length
  have e2:=r2.length
  obtain ⟨c1,c2,⟨x0,y0,c3⟩,c4,c5⟩:=st
  have hh:X.A.in1.handled=none:=I.ok.hd hc
  refine mD (Draws.list hh n a (by show (_:Nat) ≠ _; omega) its.toArray) (Draws.list hh (n+1) b (by show (_:Nat) ≠ _; omega) its'.toArray) (qW ha hb) c1 c2 c3 ⟨c4,bK tx⟩ ⟨c5,bK ty⟩ (by rw [List.size_toArray,List.size_toArray]; omega) fun g t' kp=>⟨rfl,I.turnedL (ch:=[n+4,n+2,n+3,n,n+1]) (fun c o hc' e => ?_) hf⟩
  have hn : ∀ d ∈ [n+4,n+2,n+3,n,n+1],c ≠ d:=fun d hd z=>hc' (by rw [z]; exact hd)
  exact kp c o (hn _ (by simp)) (hn _ (by simp)) (hn _ (by simp)) (hn _ (by simp)) e
 self:=fun _ _ _ _ _ st h=>wpAny_pyIter_zip st.1 h
abbrev xo1 (h:Heap)(a:Addr):Heap:=h.push { cls:=.type "list_iterator",data:=.fields #[.ref a,.int 0 0] }
abbrev xo2 (h:Heap)(a b:Addr):Heap:=(xo1 h a).push { cls:=.type "list_iterator",data:=.fields #[.ref b,.int 0 0] }
abbrev xo3 (h:Heap)(a b:Addr):Heap:=(xo2 h a b).push { cls:=.type "tuple",data:=.seq #[.ref h.objs.size,.ref (xo1 h a).objs.size] }
abbrev xo4 (h:Heap)(a b:Addr):Heap:=(xo3 h a b).push { cls:=.type "tuple",data:=.seq #[.none,.none] }
abbrev xo5 (h:Heap)(a b:Addr):Heap:=(xo4 h a b).push { cls:=.type "zip",data:=.fields #[.none,.bool false,.bool false,.ref (xo2 h a b).objs.size,.ref (xo3 h a b).objs.size] }
theorem wQ (a b:Addr)(xs ys:Array Value):Meets (Builtin.«zip.__new__» ⟨[.type "zip",.ref a,.ref b],[]⟩) (fun _ R s=>s.heap.IsList a xs/\s.heap.IsList b ys/\R (.ok (.ret (.ref (xo4 s.heap a b).objs.size))) { s with heap:=xo5 s.heap a b }):=.of_wp fun prog w A R s h=>by
 obtain ⟨hp,g,d,tk,os⟩:=s
 obtain ⟨q1,q2,q⟩:=h
 have hsub:=sub_zip
 have u1:Heap.IsList (Shared.heap ⟨hp,g,d,tk,os⟩) a xs:=q1
 have u2:Heap.IsList (Shared.heap ⟨hp.push { cls:=.type "list_iterator",data:=.fields #[.ref a,.int 0 0] },g,d,tk,os⟩) b ys:=Heap.IsList.push q2 _
 wp_walk using wpAny_pyIter_list u1,wpAny_pyIter_list u2
 exact ⟨_,rfl,q⟩
theorem sJ {prog:Program}{w:World}{A:Around}{E:Value->Shared->Prop}{s:Shared}{a b:Addr}{xs ys:Array Value}{Q:Value->Shared->Prop}(q1:s.heap.IsList a xs)(q2:s.heap.IsList b ys)
  (q : ∀ g,aAu s.heap.objs.size a b 0 g->(∀ c o,s.heap.get? c=some o->g.get? c=some o)->Q (.ref (s.heap.objs.size+4)) { s with heap:=g }):wpAny (model prog w) A (call (.type "zip") [.ref a,.ref b]) Q E s:=by
 refine callType_new F.called_zip (by decide) (F.typeCall_zip_2 _ _) (F.newCall_zip_2 _ _) (fun obj=>F.args_object_init_3 obj _ _) F.entry_zip_new (wQ a b xs ys) ⟨q1,q2,?_⟩
 have z1:(xo1 s.heap a).objs.size=s.heap.objs.size+1:=Heap.size_push ..
 have z2:(xo2 s.heap a b).objs.size=s.heap.objs.size+2:=by rw [Heap.size_push,z1]
 have z3:(xo3 s.heap a b).objs.size=s.heap.objs.size+3:=by rw [Heap.size_push,z2]
 have z4:(xo4 s.heap a b).objs.size=s.heap.objs.size+4:=by rw [Heap.size_push,z3]
 have o5:(xo5 s.heap a b).get? (xo4 s.heap a b).objs.size=some _:=Heap.get?_push_size _ rfl
 have o4:(xo5 s.heap a b).get? (xo3 s.heap a b).objs.size=some _:=Heap.get?_push_of_some _ (Heap.get?_push_size _ rfl)
 have o3:(xo5 s.heap a b).get? (xo2 s.heap a b).objs.size=some _:=Heap.get?_push_of_some _ (Heap.get?_push_of_some _ (Heap.get?_push_size _ rfl))
 have o2:(xo5 s.heap a b).get? (xo1 s.heap a).objs.size=some _:=Heap.get?_push_of_some _ (Heap.get?_push_of_some _ (Heap.get?_push_of_some _ (Heap.get?_push_size _ rfl)))
 have o1:(xo5 s.heap a b).get? s.heap.objs.size=some _:=Heap.get?_push_of_some _ (Heap.get?_push_of_some _ (Heap.get?_push_of_some _ (Heap.get?_push_of_some _ (Heap.get?_push_size _ rfl))))
 rw [z2,z3,z4] at o5
 rw [z1,z2] at o3
 rw [z3] at o4
 rw [z1] at o2
 show _/\_
 rw [z4]
 exact ⟨⟨_,o5,rfl⟩,q _ ⟨o5,o3,⟨_,_,o4⟩,⟨_,o1,rfl,rfl⟩,⟨_,o2,rfl,rfl⟩⟩ fun c o x=>Heap.get?_push_of_some _ (Heap.get?_push_of_some _ (Heap.get?_push_of_some _ (Heap.get?_push_of_some _ (Heap.get?_push_of_some _ x))))⟩
def aGj (K:PySem.W.Frag)(ta:TA):TI:=fun σ H R=>ta σ H fun vs H1=>∃ a b,vs=[.ref a,.ref b]/\(∃ xs,SqL K H1 a xs)/\(∃ ys,SqL K H1 b ys)/\R (Itz3 K a b) H1
theorem aBw {X:Cx}{es:List Expr}{k1:Nat}{p1:Pos}{e1 e2:Expr}{ta:TA}{p pos:Pos}(hg:Gl X "zip")(hm:X.mg "zip" = none)(ha:PA X [e1,e2] ta)(hs:starEach [e1,e2] X.env=[(false,eval e1 X.env),(false,eval e2 X.env)]:=by rfl)(hs2:starEach [e2] X.env=[(false,eval e2 X.env)]:=by rfl) :
  PI X (.Tuple es k1 p1) (.Call (.Name "zip" p) [e1,e2] [] pos) (aGj X.K ta):=by
 intro pins s σ H R I h
 refine Call_ (iU I hg hm aAs (PyProof.Rows.callWith_type1 (thn (ha pos pins s σ H _ I h) fun us s1 ⟨vs,H1,I1,r1,q1⟩ => ?_) (by rw [hs,hs2]) (by rw [hs2]; rfl)))
 obtain ⟨a,b,rfl,⟨xs,hx⟩,⟨ys,hy⟩,q⟩:=q1
 cases r1 with
 | cons r rr =>
  cases rr with
  | cons r' rr =>
   cases rr
   cases r
   cases r'
   obtain ⟨its,_,tx,_⟩:=I1.list hx
   obtain ⟨its',_,ty,_⟩:=I1.list hy
   have la:a < s1.heap.objs.size:=by obtain ⟨o,e,_⟩:=bK tx; exact Heap.lt_size e
   have lb:b < s1.heap.objs.size:=by obtain ⟨o,e,_⟩:=bK ty; exact Heap.lt_size e
   refine sJ (bK tx) (bK ty) fun g st kp=>wpAny_pyIter_zip st.1 ?_
   have I2:Inv X pins σ H1 { s1 with heap:=g }:=I1.kept (t':=s1.toks) kp
   refine ⟨s1.heap.objs.size+4,_,_,_,H1,rfl,I2,sX la lb,st,fun c hc => ?_,q⟩
   refine I1.fpOk ?_ (I1.hok.fresh ?_)
   all_goals
    have hc':c=s1.heap.objs.size+4\/c=s1.heap.objs.size+2\/c=s1.heap.objs.size+3\/c=s1.heap.objs.size\/c=s1.heap.objs.size+1:=by simpa using hc
    rcases hc' with e | e | e | e | e <;> (subst e; omega)
theorem zG {K:PySem.W.Frag}{a b:Addr}{xs ys:List V}{g:TG}{tb:TS}{D:Ends}{σ:St}{H:Hp}(Pv:Nat->St->Hp->Prop)(h0:Pv 0 σ H)(hl : ∀ i σ H,i<=xs.length->Pv i σ H->SqL K H a xs/\SqL K H b ys)(hn:xs.length=ys.length)
  (hs : ∀ i x y T σ H,xs[i]?=some x->ys[i]?=some y->H T=none->Pv i σ H->g (.ref T) σ (upd H T (.tup [x,y])) fun σ2 H2=>tb { D with nx:=Pv (i+1),ct:=Pv (i+1),bk:=D.nx } σ2 H2) (hd : ∀ σ H,Pv xs.length σ H->D.nx σ H) :
  ∃ W:Nat->Nat->St->Hp->Prop,(∃ m,W 0 m σ H)/\∀ i m σ H,W i m σ H ->
   ((Itz3 K a b).stop i H/\D.nx σ H)\/((Itz3 K a b).go i H/\∃ N:St->Hp->Prop,(∀ σ' H',N σ' H'->∃ m',m' < m/\W (i+1) m' σ' H')/\∀ v H',(Itz3 K a b).yld i H v H'->g v σ H' fun σ2 H2=>tb { D with nx:=N,ct:=N,bk:=D.nx } σ2 H2):=by
 refine ⟨fun i m σ H=>m=xs.length - i/\i<=xs.length/\Pv i σ H,⟨xs.length,by simp,Nat.zero_le _,h0⟩,?_⟩
 rintro i m σ H ⟨rfl,hi,p⟩
 obtain ⟨q1,q2⟩:=hl i σ H hi p
 by_cases hlt:i < xs.length
 ·refine .inr ⟨⟨xs,ys,q1,q2,hlt,by omega⟩,Pv (i+1),fun σ' H' p'=>⟨xs.length - (i+1),by omega,rfl,hlt,p'⟩,fun v H' y => ?_⟩
  obtain ⟨T,hT,rfl,y⟩:=y
  obtain ⟨x',y',e1,e2,rfl⟩:=y xs ys q1 q2
  exact hs i x' y' T σ H e1 e2 hT p
 ·have e:i=xs.length:=by omega
  subst e
  exact .inl ⟨⟨xs,ys,q1,q2,.inl rfl⟩,hd σ H p⟩
end L2
namespace K25
open PySem PySem.Spec PyProof.Rows L2 GM TM BQ TR
def oT (K:PySem.W.Frag):Sp:=fun vs H Q _=>∃ (r m:Addr) (us:List V) (rs:List Rw) (ps:List Pu) (l a:BQ.Q),vs=[.ref r,.ref m]/\H r=some (.tup us)/\L2R (RowV H) us rs/\Rs rs ps l/\rs.length<=6/\1<=rs.length/\AmV H m a/\Am a/\Bt 3200 a.1/\Bt 3200 a.2 /\
 ∀ z vs' H',Same H H'->H z=none->H' z=some (.lst vs')->L2R (PuV H') vs' (dues a l ps)->Q (.ref z) H'
def oY:Sp:=fun vs H Q _=>∃ (a:Addr),vs=[.ref a]/\Lf H a/\∀ (q:BQ.Q) p H',Am q->1<=q.1->Bt 210 q.1->Bt 210 q.2->SmB a H H'->Lf H' a->AmV H' p q->Q (.ref p) H'
def jD:Sp:=fun vs H Q _=>∃ (a:Addr) (n:Int),vs=[.ref a,.int n]/\Lf H a/\∀ (q:BQ.Q) p H',Sm q->SmB a H H'->Lf H' a->AmV H' p q->Q (.ref p) H'
theorem aBj {a p:Addr}{H H':Hp}(h:SmB a H H')(n:H' p=none)(pa:p ≠ a):H p=none:=by
 cases e:H p with
 | none=>rfl
 | some o =>
  have:=h p o pa e
  rw [n] at this
  cases this
theorem aGf {T B:Int}(h0:1<=T)(h1:1<=B)(hT:Bt 31 T)(hB:Bt 31 B):Sm (lw T B):=by
 have b:=vA (show 0<=T by omega) h1 hT hB
 exact ⟨gP (by omega) h1,nA h0 h1,b.1,b.2⟩
theorem at6 {j:Nat}(h:j < 6) : ∃ b:Int,([V.int 1,.int 2,.int 3,.int 4,.int 6,.int 12])[j]?=some (.int b)/\1<=b/\b<=12:=by
 have:j=0\/j=1\/j=2\/j=3\/j=4\/j=5:=by omega
 rcases this with rfl | rfl | rfl | rfl | rfl | rfl
 ·exact ⟨1,rfl,by decide,by decide⟩
 ·exact ⟨2,rfl,by decide,by decide⟩
 ·exact ⟨3,rfl,by decide,by decide⟩
 ·exact ⟨4,rfl,by decide,by decide⟩
 ·exact ⟨6,rfl,by decide,by decide⟩
 ·exact ⟨12,rfl,by decide,by decide⟩
theorem t60:(10:Int) ^ Int.toNat 60=1000000000000000000000000000000000000000000000000000000000000:=by decide +kernel
theorem iT:bootBuiltins "list" = some (.type "list"):=by decide +kernel
section
variable {P:Program}{w:World}{K:PySem.W.Frag}{mg:Str->Option Value}{base:Heap}
theorem fZ:FnScope ["_law_rows","_law_asked_here","_law_raw_here","_law_lies","_law_found","_law_place","_law_thing","_law_one","_law_top"] ["_law_rows","_law_asked_here"] (aG sLputs):=⟨rfl,rfl,rfl,by decide +kernel,rfl,by decide +kernel,by decide +kernel⟩
theorem yF {f:Addr}{fd:FuncData}(F:Fun K "_law_puts" "_law_puts" sLputs f fd)(cR:Cal P w K mg base CX0 4 "_law_raw" ["_law_rows"] (tM K))(cL:Cal P w K mg base CX0 4 "_law_low" ["_law_top","_law_bottom"] gS):FnOk P w K mg base CX0 5 f fd ["_law_rows","_law_asked_here"] (oT K):=by
 refine F.ok fZ (fun vs H Q E h => ?_) (fun cdv A outer s H vs Q E hr h => ?_)
 ·obtain ⟨_,_,_,_,_,_,_,rfl,_⟩:=h
  rfl
 ·obtain ⟨r,m,us,rs,ps,l,a,rfl,hrr,hu,hrs,r5,r1,hm,aa,ab1,ab2,k⟩:=h
  refine ⟨_,(aD (uH (aH cR hr rfl aQ (aA (pv 0) aC)) (dH rfl (aP (aJ (i:=2) fZ.nd rfl (Or.inl rfl)) (aP (aJ (i:=3) fZ.nd rfl (Or.inl rfl)) bW))))
   (aD (aI (i:=4) fZ.nd rfl (Or.inl rfl) (bC aC))
   (aD (bL PassesOwn.never rfl (cJ (pv 2)) (dH rfl (aP (aJ (i:=5) fZ.nd rfl (Or.inl rfl)) (aP (aJ (i:=6) fZ.nd rfl (Or.inl rfl)) (aP (aJ (i:=7) fZ.nd rfl (Or.inl rfl)) bW))))
    (aD (aI (i:=8) fZ.nd rfl (Or.inl rfl) (aV bA (aV bA (pit 7 0) (pit 1 0)) (pit 3 1)))
   (aE (bZ (eT PySem.F.plainAttrs_list PySem.F.slot_list_append PySem.F.type_list_append bY (pv 4) (aA (aY (aA (pv 5) (aA (pv 6) (aA (aH cL hr rfl aQ (aA (pv 8) (aA (aV bA (aV bA (pit 7 1) (pit 1 1)) (pit 3 0)) aC))) aC)))) aC))))))
   (aE (aO (pv 4)))))),?_⟩
  have z:=hrs.sz r5
  have l1:=hrs.pos r1
  refine ⟨_,rfl,r,us,rs,ps,l,rfl,.inr (SqT.of hrr),hu,hrs,r5,fun t g lm fs H1 s1 ht ng hg hfs hlm => ?_⟩
  refine ⟨t,_,rfl,SqT.of ht,rfl,_,_,rfl,_,_,rfl,rfl,?_⟩
  refine ⟨(by show 0<=sizeLine; decide),fun Fd nF => ?_⟩
  have sF:=Same.upd (o:=.lst []) nF
  have s2:=s1.trans sF
  have nF0:H Fd=none:=bH s1 nF
  refine ⟨_,rfl,g,rfl,⟨_,SqL.of (sF _ _ hg)⟩,?_⟩
  have Fg:Fd ≠ g:=fun e=>by rw [e,hg] at nF; cases nF
  refine eP (xs:=fs) (fun i σ H'=>∃ (vs':List V) (v5 v6 v7 v8:Option V),σ=[some (.ref r),some (.ref m),some (.ref g),some (.ref lm),some (.ref Fd),v5,v6,v7,v8]/\Same H H'/\H' g=some (.lst fs)/\Tk H1 H'/\H' Fd=some (.lst vs')/\L2R (PuV H') vs' ((dues a l ps).take i))
   ⟨[],none,none,none,none,rfl,s2,sF _ _ hg,sF.tk,aB,L2R.nil⟩ (fun i σ H' _ ⟨_,_,_,_,_,_,_,hh,_⟩=>SqL.of hh) ?_ ?_
  ·rintro i v σ H3 hv ⟨vs',v5,v6,v7,v8,rfl,s3,hg3,tk3,hF3,hv3⟩
   obtain ⟨p,hp,t',mm,rfl,ht',hmm⟩:=hfs.get hv
   have pz:=z.2.2.2.1 p (List.mem_of_getElem? hp)
   have hmm3:=SqT.of (K:=K) (tk3 _ _ hmm)
   have hm3:=SqT.of (K:=K) (s3 _ _ hm)
   have hl3:=SqT.of (K:=K) (tk3 _ _ hlm)
   refine ⟨t',_,rfl,SqT.of (tk3 _ _ ht'),rfl,_,_,rfl,_,_,rfl,_,_,rfl,rfl,?_⟩
   have c6 : ∀ {n:Nat} {x:Int},Bt n x->n<=1000000->Bt 1000000 x:=fun h hn=>h.mono hn
   refine ⟨mm,_,_,rfl,hmm3,rfl,m,_,_,rfl,hm3,rfl,_,_,rfl,rfl,⟨c6 pz.2.2.1 (by decide),c6 ab1 (by decide)⟩,lm,_,_,rfl,hl3,rfl,_,_,rfl,rfl,⟨c6 (pz.2.2.1.mul ab1) (by decide),c6 z.2.2.1 (by decide)⟩,?_⟩
   refine ⟨_,rfl,.inl ⟨rfl,_,SqL.of hF3⟩,_,rfl,_,rfl,_,rfl,mm,_,_,rfl,hmm3,rfl,m,_,_,rfl,hm3,rfl,_,_,rfl,rfl,⟨c6 pz.2.2.2 (by decide),c6 ab2 (by decide)⟩,lm,_,_,rfl,hl3,rfl,_,_,rfl,rfl,⟨c6 (pz.2.2.2.mul ab2) (by decide),c6 z.2.1 (by decide)⟩,?_⟩
   refine ⟨_,_,rfl,Int.mul_nonneg (Int.mul_nonneg pz.1.t0 aa.t0) (by have:=z.1.b1; omega),BQ.mul1 (BQ.mul1 pz.1.b1 aa.b1) l1,((pz.2.2.2.mul ab2).mul z.2.1).mono (by decide),fun q H4 s4 hq => ?_⟩
   refine ⟨(by show 3<=sizeLine; decide),fun o no => ?_⟩
   have so:=Same.upd (o:=.tup [.int p.1,.str p.2.1,.ref q]) no
   have hF5:=so _ _ (s4 _ _ hF3)
   have vl:vs'.length<=100:=by
    rw [hv3.len,List.length_take]
    have:(dues a l ps).length=ps.length:=List.length_map ..
    omega
   refine ⟨Fd,_,_,rfl,rfl,hF5,aX (by omega),?_⟩
   have tkF:Tk (upd H4 o (.tup [.int p.1,.str p.2.1,.ref q])) (upd (upd H4 o (.tup [.int p.1,.str p.2.1,.ref q])) Fd (.lst (vs' ++ [.ref o]))):=Tk.lst hF5
   have et:(dues a l ps).take (i+1)=(dues a l ps).take i ++ [(p.1,p.2.1,due a l p.2.2)]:=by
    rw [List.take_add_one]
    have:(dues a l ps)[i]?=some (p.1,p.2.1,due a l p.2.2):=by
     unfold dues
     rw [List.getElem?_map,hp]
     rfl
    rw [this]
    rfl
   refine ⟨vs' ++ [.ref o],_,_,_,_,rfl,bQ ((s3.trans s4).trans so) nF0,by rw [aL Fg.symm]; exact so _ _ (s4 _ _ hg3),(tk3.trans (s4.trans so).tk).trans tkF,aB,?_⟩
   rw [et]
   exact (hv3.imp fun _ _ x=>x.keep ((s4.trans so).tk.trans tkF)).snoc ⟨o,q,rfl,tkF _ _ aB,tkF _ _ (so _ _ hq)⟩
  ·rintro σ H3 ⟨vs',v5,v6,v7,v8,rfl,s3,hg3,tk3,hF3,hv3⟩
   have el:fs.length=(dues a l ps).length:=by unfold dues; rw [List.length_map,hfs.len]
   rw [el,List.take_length] at hv3
   exact ⟨_,rfl,k Fd vs' H3 s3 nF0 hF3 hv3⟩
end
end K25
namespace L2
open PySem PySem.Spec PyProof.Rows
section
variable {X:Cx}{a b c d:Expr}{ta tb tc td:TE}{pos:Pos}
def tChain3 (r r' r'':R2)(ta tb tc td:TE):TE:=fun σ H Q=>ta σ H fun x H1=>tb σ H1 fun y H2=>r x y H2 fun z H3=>∃ k,z = .bl k /\
 (if k=true then tc σ H3 fun w' H4=>r' y w' H4 fun z' H5=>∃ k',z' = .bl k'/\(if k'=true then td σ H5 fun w'' H6=>r'' w' w'' H6 Q else Q (.bl false) H5) else Q (.bl false) H3)
end
section
variable {X:Cx}{a b c d:Expr}{ta tb tc td:TE}{pos:Pos}
end
end L2
namespace K25
open PySem PySem.Spec PyProof.Rows L2 GM TM BQ TR
theorem e9:(10:Int) ^ Int.toNat 9=1000000000:=by decide +kernel
theorem b60 {x:Int}(h0:0<=x)(h:x<=1000000000000000000000000000000000000000000000000000000000000):Bt 210 x:=hW 210 h0 (Int.lt_of_le_of_lt h (by decide:(1000000000000000000000000000000000000000000000000000000000000:Int) < 1000000000000000000000000000000000000000000000000000000000001)) (by decide +kernel)
theorem bt31 {x:Int}(h0:0<=x)(h:x<=1000000000):Bt 31 x:=bP 31 (c:=1000000001) h0 (by omega)
theorem bl9 {n:Nat}{x:Int}(h:Bt n x)(hn:n<=9000:=by decide):Bt 9000 x:=h.mono hn
def NmV (K:PySem.W.Frag)(H:Hp)(l:Addr)(ws:List Str):Prop:=H l=some (.lst (ws.map V.str))/\1<=ws.length/\ws.length<=20
def oQ (K:PySem.W.Frag):Sp:=fun vs H Q _=>∃ (a al:Addr) (n:Int) (ws:List Str),vs=[.ref a,.int n,.ref al]/\Lf H a/\NmV K H al ws/\al ≠ a/\∀ p q ps H',ROk (0,1) (.parts q ps)->(∀ x ∈ ps,x.2 ∈ ws)->SmB a H H'->Lf H' a->RowV H' (.ref p) (.parts q ps)->Q (.ref p) H'
def thg:Rw->List Str
 | .take _ x=>[x]
 | .parts _ ps=>ps.map (·.2)
 | .to _ x=>[x]
 | .fill _ x=>[x]
def aBb (K:PySem.W.Frag):Sp:=fun vs H Q _=>∃ (a al m:Addr) (n:Int) (ws:List Str) (l:BQ.Q),vs=[.ref a,.int n,.ref al,.ref m]/\Lf H a/\NmV K H al ws/\al ≠ a/\AmV H m l/\Am l/\Bt 480 l.1/\Bt 480 l.2/\∀ p r H',ROk l r->(∀ y ∈ thg r,y ∈ ws)->SmB a H H'->Lf H' a->RowV H' (.ref p) r->Q (.ref p) H'
theorem kL {a:Addr}{H H':Hp}(s:SmB a H H')(l:Lf H a):Tk H H':=by
 obtain ⟨n,fl,e,_⟩:=l
 exact Bx.tk s e
section
variable {P:Program}{w:World}{K:PySem.W.Frag}{mg:Str->Option Value}{base:Heap}
theorem pC:FnScope ["_law_left_here","_law_top"] ["_law_left_here"] (aG sAsked):=⟨rfl,rfl,rfl,by decide +kernel,rfl,by decide +kernel,by decide +kernel⟩
theorem yL {f:Addr}{fd:FuncData}(F:Fun K "_law_asked" "_law_asked" sAsked f fd)(cN:Cal P w K mg base CX0 2 "_law_next" ["_law_left_here","_law_many"] gR)(cL:Cal P w K mg base CX0 2 "_law_low" ["_law_top","_law_bottom"] gS):FnOk P w K mg base CX0 3 f fd ["_law_left_here"] oY:=by
 refine F.ok pC (fun vs H Q E h => ?_) (fun cdv A outer s H vs Q E hr h => ?_)
 ·obtain ⟨_,rfl,_⟩:=h
  rfl
 ·obtain ⟨a,rfl,lf,k⟩:=h
  refine ⟨_,(aD (bF (aK eG (aH cN hr rfl aQ (aA (pv 0) (aA aF aC))) aF (aT _))
    (aD (aI (i:=1) pC.nd rfl (Or.inl rfl) (aV cX aF (aH cN hr rfl aQ (aA (pv 0) (aA (aV mX (aV jW aF aF) aF) aC)))))
   (aE (aO (aH cL hr rfl aQ (aA (pv 1) (aA (aV cX aF (aH cN hr rfl aQ (aA (pv 0) (aA (aV mX (aV jW aF aF) aF) aC)))) aC))))))
    aU)
   (aD (aI (i:=1) pC.nd rfl (Or.inl rfl) (aV cX aF (aH cN hr rfl aQ (aA (pv 0) (aA aF aC)))))
   (aE (aO (aH cL hr rfl aQ (aA (pv 1) (aA (aV cX aF (aH cN hr rfl aQ (aA (pv 0) (aA aF aC)))) aC))))))),?_⟩
  have fin : ∀ (T B:Int) (H1:Hp),1<=T->1<=B->Bt 210 T->Bt 210 B->SmB a H H1->Lf H1 a->gS [.int T,.int B] H1 Q E0:=fun T B H1 T1 B1 bT bB sb lf1=>by
   refine ⟨T,B,rfl,by omega,B1,bB.mono (by decide),fun p H2 s2 hp => ?_⟩
   have b:=vA (show 0<=T by omega) B1 bT bB
   exact k (lw T B) p H2 (gP (by omega) B1) (nA T1 B1) b.1 b.2 (sb.trans (SmB.of s2)) (lf1.keep s2) hp
  have t60' : ∀ {d:Int},0<=d->d < (10:Int) ^ Int.toNat 60 - 1->1<=1+d/\Bt 210 (1+d):=fun h0 h1=>by
   rw [t60] at h1
   exact ⟨by omega,b60 (by omega) (by omega)⟩
  have m60:1<=(10:Int) ^ Int.toNat 60 - 1/\Bt 9000 ((10:Int) ^ Int.toNat 60 - 1):=by
   rw [t60]
   exact ⟨by decide,bl9 (b60 (by decide) (by decide))⟩
  refine ⟨_,rfl,a,4,rfl,lf,by decide,bl9 (bP 4 (c:=5) (by decide) (by decide)),fun d H1 d0 dl s1 lf1=>⟨rfl,_,rfl,ite2 (fun _ => ?_) (fun _ => ?_)⟩⟩
  ·refine ⟨_,rfl,_,_,rfl,rfl,⟨by decide,by decide,bk⟩,_,_,rfl,rfl,a,_,rfl,lf1,m60.1,m60.2,fun d2 H2 d20 d2l s2 lf2=>⟨_,_,rfl,rfl,?_⟩⟩
   refine ⟨_,rfl,_,rfl,_,_,rfl,rfl,⟨by decide,by decide,bk⟩,_,_,rfl,rfl,a,_,rfl,lf2,m60.1,m60.2,fun d3 H3 d30 d3l s3 lf3=>⟨_,_,rfl,rfl,?_⟩⟩
   exact fin _ _ H3 (t60' d20 d2l).1 (t60' d30 d3l).1 (t60' d20 d2l).2 (t60' d30 d3l).2 ((s1.trans s2).trans s3) lf3
  ·refine ⟨_,rfl,a,1000,rfl,lf1,by decide,bl9 (bP 10 (c:=1024) (by decide) (by decide)),fun d2 H2 d20 d2l s2 lf2=>⟨_,_,rfl,rfl,?_⟩⟩
   refine ⟨_,rfl,_,rfl,a,12,rfl,lf2,by decide,bl9 (bP 4 (c:=16) (by decide) (by decide)),fun d3 H3 d30 d3l s3 lf3=>⟨_,_,rfl,rfl,?_⟩⟩
   exact fin _ _ H3 (by omega) (by omega) ((bP 11 (c:=2000) (by omega) (by omega):Bt 11 (1+d2)).mono (by decide)) ((bP 11 (c:=2000) (by omega) (by omega):Bt 11 (1+d3)).mono (by decide)) ((s1.trans s2).trans s3) lf3
theorem lK:FnScope ["_law_left_here","_law_at","_law_top","_law_bottom"] ["_law_left_here","_law_at"] (aG sAmount):=⟨rfl,rfl,rfl,by decide +kernel,rfl,by decide +kernel,by decide +kernel⟩
theorem uT {f:Addr}{fd:FuncData}(F:Fun K "_law_amount" "_law_amount" sAmount f fd)(cN:Cal P w K mg base CX0 2 "_law_next" ["_law_left_here","_law_many"] gR)(cL:Cal P w K mg base CX0 2 "_law_low" ["_law_top","_law_bottom"] gS):FnOk P w K mg base CX0 3 f fd ["_law_left_here","_law_at"] jD:=by
 refine F.ok lK (fun vs H Q E h => ?_) (fun cdv A outer s H vs Q E hr h => ?_)
 ·obtain ⟨_,_,rfl,_⟩:=h
  rfl
 ·obtain ⟨a,n,rfl,lf,k⟩:=h
  refine ⟨_,(aD (bF (PW.pt (jT (aK jX (pv 1) aF (aT _)) (gW (aK eG (aH cN hr rfl aQ (aA (pv 0) (aA aF aC))) aF (aT _)))))
    (aD (aI (i:=2) lK.nd rfl (Or.inl rfl) (aV cX aF (aH cN hr rfl aQ (aA (pv 0) (aA aF aC)))))
   (aE (aO (aH cL hr rfl aQ (aA (pv 2) (aA (aV cX aF (aH cN hr rfl aQ (aA (pv 0) (aA aF aC)))) aC))))))
    aU)
   (aD (aI (i:=3) lK.nd rfl (Or.inl rfl) (dG cI (bC (aA aF (aA aF (aA aF (aA aF (aA aF (aA aF aC))))))) (aH cN hr rfl aQ (aA (pv 0) (aA aF aC))) (fun _ _=>rfl)))
   (aE (aO (aH cL hr rfl aQ (aA (aV cX aF (aH cN hr rfl aQ (aA (pv 0) (aA aF aC)))) (aA (pv 3) aC))))))),?_⟩
  have fin : ∀ (T B:Int) (H1:Hp),1<=T->1<=B->T<=1000000000->B<=1000000000->SmB a H H1->Lf H1 a->gS [.int T,.int B] H1 Q E0:=fun T B H1 T1 B1 bT bB sb lf1=>by
   refine ⟨T,B,rfl,by omega,B1,bl9 (bt31 (by omega) bB),fun p H2 s2 hp => ?_⟩
   exact k (lw T B) p H2 (aGf T1 B1 (bt31 (by omega) bT) (bt31 (by omega) bB)) (sb.trans (SmB.of s2)) (lf1.keep s2) hp
  refine mQ (fun σ' H1=>σ'=[some (.ref a),some (.int n),none,none]/\SmB a H H1/\Lf H1 a) ?_ (fun N hN => ?_)
  ·rintro σ' H1 ⟨rfl,s1,lf1⟩
   refine ⟨(by show 6<=sizeLine; decide),fun z nz => ?_⟩
   have za:z ≠ a:=lf1.there nz
   refine ⟨_,rfl,a,6,rfl,lf1.own za,by decide,bl9 (bP 4 (c:=16) (by decide) (by decide)),fun d H2 d0 dl s2 lf2 => ?_⟩
   obtain ⟨dn,rfl⟩:=Int.eq_ofNat_of_zero_le d0
   obtain ⟨b,hb,b1,b12⟩:=at6 (j:=dn) (by omega)
   refine ⟨z,_,(dn:Int),.int b,rfl,rfl,SqL.of (s2 _ _ za aB),bG hb,?_⟩
   refine ⟨_,rfl,a,12,rfl,lf2,by decide,bl9 (bP 4 (c:=16) (by decide) (by decide)),fun d2 H3 d20 d2l s3 lf3=>⟨_,_,rfl,rfl,_,rfl,?_⟩⟩
   have sz:SmB a H (upd H1 z (.lst [.int 1,.int 2,.int 3,.int 4,.int 6,.int 12])):=s1.trans (SmB.of (Same.upd nz))
   exact fin _ _ H3 (by omega) b1 (by omega) (by omega) ((sz.trans s2).trans s3) lf3
  ·refine ⟨_,rfl,_,_,rfl,rfl,_,rfl,ite2 (fun _ => ?_) (fun _=>iteF (hN _ _ ⟨rfl,SmB.refl,lf⟩))⟩
   refine ⟨_,rfl,a,3,rfl,lf,by decide,bl9 (bP 4 (c:=5) (by decide) (by decide)),fun d H1 d0 dl s1 lf1=>⟨rfl,_,rfl,ite2 (fun _ => ?_) (fun _=>hN _ _ ⟨rfl,s1,lf1⟩)⟩⟩
   refine ⟨_,rfl,a,999999999,rfl,lf1,by decide,bl9 (bt31 (by decide) (by decide)),fun d2 H2 d20 d2l s2 lf2=>⟨_,_,rfl,rfl,?_⟩⟩
   refine ⟨_,rfl,_,rfl,a,999999999,rfl,lf2,by decide,bl9 (bt31 (by decide) (by decide)),fun d3 H3 d30 d3l s3 lf3=>⟨_,_,rfl,rfl,?_⟩⟩
   exact fin _ _ H3 (by omega) (by omega) (by omega) (by omega) ((s1.trans s2).trans s3) lf3
theorem lH:FnScope ["_law_left_here","_law_at","_law_allowed","_law_pairs","_law_k","_law_many"] ["_law_left_here","_law_at","_law_allowed"] (aG sParts):=⟨rfl,rfl,rfl,by decide +kernel,rfl,by decide +kernel,by decide +kernel⟩
theorem yB {f:Addr}{fd:FuncData}(F:Fun K "_law_parts" "_law_parts" sParts f fd)(T:Txt mg)(cN:Cal P w K mg base CX0 3 "_law_next" ["_law_left_here","_law_many"] gR)(cA:Cal P w K mg base CX0 3 "_law_amount" ["_law_left_here","_law_at"] jD):FnOk P w K mg base CX0 4 f fd ["_law_left_here","_law_at","_law_allowed"] (oQ K):=by
 refine F.ok lH (fun vs H Q E h => ?_) (fun cdv A outer s H vs Q E hr h => ?_)
 ·obtain ⟨_,_,_,_,rfl,_⟩:=h
  rfl
 ·obtain ⟨a,al,n,ws,rfl,lf,⟨hal,w1,w20⟩,ala,k⟩:=h
  refine ⟨_,(aD (aI (i:=3) lH.nd rfl (Or.inl rfl) (bC aC))
   (aD (bL PassesOwn.never rfl (eF rfl T.range (aA (aV cX aF (aH cN hr rfl aQ (aA (pv 0) (aA aF aC)))) aC)) (aJ (i:=4) lH.nd rfl (Or.inl rfl))
    (aD (aI (i:=5) lH.nd rfl (Or.inl rfl) (aV cX aF (aH cN hr rfl aQ (aA (pv 0) (aA aF aC)))))
   (aE (bZ (eT PySem.F.plainAttrs_list PySem.F.slot_list_append PySem.F.type_list_append bY (pv 3) (aA (aY (aA (pv 5) (aA (dG cI (pv 2) (aH cN hr rfl aQ (aA (pv 0) (aA (aS aW rfl T.len PySem.boot_len (aA (pv 2) aC)) aC))) (fun _ _=>rfl)) aC))) aC))))))
   (aE (aO (aY (aA bX (aA (aH cA hr rfl aQ (aA (pv 0) (aA (pv 1) aC))) (aA (bJ cU rfl T.tup' eD (aA (pv 3) aC)) aC)))))))),?_⟩
  refine ⟨(by show 0<=sizeLine; decide),fun Pl nP => ?_⟩
  have Pa:Pl ≠ a:=lf.there nP
  have sP:SmB a H (upd H Pl (.lst [])):=SmB.refl.own nP
  refine ⟨_,rfl,a,4,rfl,lf.own Pa,by decide,bl9 (bP 4 (c:=16) (by decide) (by decide)),fun d H1 d0 dl s1 lf1=>⟨_,_,rfl,rfl,_,rfl,by omega,by omega,?_⟩⟩
  refine dU (fun i σ H'=>∃ (us:List V) (ps:List (Int × Str)) (v4 v5:Option V),σ=[some (.ref a),some (.int n),some (.ref al),some (.ref Pl),v4,v5]/\SmB a H H'/\Lf H' a/\H' Pl=some (.lst us)/\L2R (PrV H') us ps/\ps.length=i/\(∀ p ∈ ps,1<=p.1/\p.1<=9)/\∀ p ∈ ps,p.2 ∈ ws)
   ⟨[],[],none,none,rfl,sP.trans s1,lf1,s1 _ _ Pa aB,L2R.nil,rfl,(fun _ h=>nomatch h),(fun _ h=>nomatch h)⟩ ?_ ?_
  ·rintro i σ H2 hi ⟨us,ps,v4,v5,rfl,s2,lf2,hP2,hu2,pl,hn,hw⟩
   refine ⟨_,rfl,a,9,rfl,lf2,by decide,bl9 (bP 4 (c:=16) (by decide) (by decide)),fun d2 H3 d20 d2l s3 lf3=>⟨_,_,rfl,rfl,?_⟩⟩
   have s03:=s2.trans s3
   have hP3:=s3 _ _ Pa hP2
   have hal3:=s03 _ _ ala hal
   refine ⟨_,rfl,.inl ⟨rfl,_,SqL.of hP3⟩,_,rfl,_,rfl,_,rfl,_,rfl,al,_,rfl,.inl (SqL.of hal3),a,_,rfl,lf3,?_,?_,fun d3 H4 d30 d3l s4 lf4 => ?_⟩
   ·rw [List.length_map]; omega
   ·rw [List.length_map]; exact bl9 (bP 8 (c:=256) (by omega) (by omega):Bt 8 ((ws.length:Nat):Int))
   rw [List.length_map] at d3l
   obtain ⟨dn,rfl⟩:=Int.eq_ofNat_of_zero_le d30
   obtain ⟨x,hx⟩ : ∃ x,ws[dn]?=some x:=⟨_,List.getElem?_eq_getElem (by omega)⟩
   have s04:=s03.trans s4
   have hP4:=s4 _ _ Pa hP3
   refine ⟨al,_,(dn:Int),.str x,rfl,rfl,SqL.of (s4 _ _ ala hal3),bG (by rw [List.getElem?_map,hx]; rfl),(by show 2<=sizeLine; decide),fun z nz => ?_⟩
   have za:z ≠ a:=lf4.there nz
   have zP:z ≠ Pl:=fun e=>by rw [e,hP4] at nz; cases nz
   have sz:=Same.upd (o:=.tup [.int (1+d2),.str x]) nz
   have hP5:=sz _ _ hP4
   have ul:=hu2.len
   refine ⟨Pl,_,_,rfl,rfl,hP5,aX (by omega),?_⟩
   have tkP:Tk (upd H4 z (.tup [.int (1+d2),.str x])) (upd (upd H4 z (.tup [.int (1+d2),.str x])) Pl (.lst (us ++ [.ref z]))):=Tk.lst hP5
   have tkA:=((kL s3 lf2).trans (kL s4 lf3)).trans (sz.tk.trans tkP)
   have nz0:H z=none:=aBj s04 nz za
   refine ⟨us ++ [.ref z],ps ++ [(1+d2,x)],_,_,rfl,(s04.own nz0).own nP,(lf4.own za).own Pa,aB,(hu2.imp fun _ _ y=>y.keep tkA).snoc ⟨z,rfl,tkP _ _ aB⟩,by rw [List.length_append,pl]; rfl,fun p hp => ?_,fun p hp => ?_⟩
   ·rcases List.mem_append.mp hp with h | h
    ·exact hn p h
    ·rw [List.mem_singleton.mp h]
     exact ⟨by show 1<=1+d2; omega,by show 1+d2<=9; omega⟩
   ·rcases List.mem_append.mp hp with h | h
    ·exact hw p h
    ·rw [List.mem_singleton.mp h]
     exact List.mem_of_getElem? hx
  ·rintro σ H2 ⟨us,ps,v4,v5,rfl,s2,lf2,hP2,hu2,pl,hn,hw⟩
   refine ⟨_,rfl,_,rfl,a,n,rfl,lf2,fun q m H3 sq s3 lf3 hm => ?_⟩
   have hP3:=s3 _ _ Pa hP2
   have tk3:=kL s3 lf2
   refine ⟨_,rfl,Pl,us,rfl,.inl ⟨SqL.of hP3,fun t nt => ?_⟩⟩
   have ta:t ≠ a:=lf3.there nt
   have st:=Same.upd (o:=.tup us) nt
   refine ⟨(by show 3<=sizeLine; decide),fun r nr => ?_⟩
   have sr:=Same.upd (o:=.tup [.str "parts",.ref m,.ref t]) nr
   have str':=st.trans sr
   refine k r q ps _ ⟨sq,by omega,by omega,hn⟩ hw ((s2.trans s3).trans (SmB.of str')) (lf3.keep str') ?_
   exact .parts aB (str' _ _ hm) (sr _ _ aB) (hu2.imp fun _ _ y=>y.keep (tk3.trans str'.tk))
end
theorem aFq {l o:BQ.Q}(hl:Am l)(ho:Am o):l.1*(add l o).2<=(add l o).1*l.2:=by
 have am:=kX hl ho
 have cr:(add l o).1*(l.2*o.2)=(l.1*o.2+o.1*l.2)*(add l o).2:=eC _ _
 have b1:=hl.b1
 have b2:=ho.b1
 have b3:=am.b1
 have o0:=ho.t0
 generalize add l o=z at *
 refine Int.le_of_mul_le_mul_right (a:=l.2*o.2) ?_ (by have:=BQ.mul1 b1 b2; omega)
 have e:z.1*l.2*(l.2*o.2)=z.1*(l.2*o.2)*l.2:=by grind
 rw [e,cr]
 have n:0<=o.1*l.2*z.2*l.2:=Int.mul_nonneg (Int.mul_nonneg (Int.mul_nonneg o0 (by omega)) (by omega)) (by omega)
 have e2:(l.1*o.2+o.1*l.2)*z.2*l.2=l.1*z.2*(l.2*o.2)+o.1*l.2*z.2*l.2:=by grind
 omega
theorem sm12:Sm (1,2):=⟨low12,by decide,bP 31 (c:=2) (by decide) (by decide),bP 31 (c:=3) (by decide) (by decide)⟩
 where low12:Am (1,2):=⟨by decide,by decide,by decide⟩
section
variable {P:Program}{w:World}{K:PySem.W.Frag}{mg:Str->Option Value}{base:Heap}
theorem rK:FnScope ["_law_left_here","_law_at","_law_allowed","_law_lies","_law_kind_here","_law_thing","_law_one","_law_level"] ["_law_left_here","_law_at","_law_allowed","_law_lies"] (aG sRow):=⟨rfl,rfl,rfl,by decide +kernel,rfl,by decide +kernel,by decide +kernel⟩
theorem aEv {f:Addr}{fd:FuncData}(F:Fun K "_law_row" "_law_row" sRow f fd)(T:Txt mg)(cN:Cal P w K mg base CX0 4 "_law_next" ["_law_left_here","_law_many"] gR)(cA:Cal P w K mg base CX0 4 "_law_amount" ["_law_left_here","_law_at"] jD)(cP:Cal P w K mg base CX0 4 "_law_parts" ["_law_left_here","_law_at","_law_allowed"] (oQ K))(cS:Cal P w K mg base CX0 4 "_law_sum" ["_law_one","_law_other"] (wY K)):FnOk P w K mg base CX0 5 f fd ["_law_left_here","_law_at","_law_allowed","_law_lies"] (aBb K):=by
 refine F.ok rK (fun vs H Q E h => ?_) (fun cdv A outer s H vs Q E hr h => ?_)
 ·obtain ⟨_,_,_,_,_,_,rfl,_⟩:=h
  rfl
 ·obtain ⟨a,al,m,n,ws,l,rfl,lf,nm,ala,hm,la,lb1,lb2,k⟩:=h
  obtain ⟨hal,w1,w20⟩:=id nm
  refine ⟨_,(aD (aI (i:=4) rK.nd rfl (Or.inl rfl) (aH cN hr rfl aQ (aA (pv 0) (aA aF aC))))
   (aD (bF (aK eG (pv 4) aF (aT _)) (aE (aO (aH cP hr rfl aQ (aA (pv 0) (aA (pv 1) (aA (pv 2) aC)))))) aU)
   (aD (aI (i:=5) rK.nd rfl (Or.inl rfl) (dG cI (pv 2) (aH cN hr rfl aQ (aA (pv 0) (aA (aS aW rfl T.len PySem.boot_len (aA (pv 2) aC)) aC))) (fun _ _=>rfl)))
   (aD (bF (PW.pt (jT (aK eG (pv 4) aF (aT _)) (gW (aK pH (pit 3 0) aF (aT _)))))
    (aE (aO (aY (aA bX (aA (aV cX aF (aH cN hr rfl aQ (aA (pv 0) (aA aF aC)))) (aA (pv 5) aC)))))) aU)
   (aD (aI (i:=6) rK.nd rfl (Or.inl rfl) (aY (aA aF (aA aF aC))))
   (aD (bF (PW.pt (fW (aK gD (pv 4) aF (aT _)) (eU (aK gD (aH cN hr rfl aQ (aA (pv 0) (aA aF aC))) aF (aT _)))))
    (aE (aI (i:=6) rK.nd rfl (Or.inl rfl) (aH cA hr rfl aQ (aA (pv 0) (aA (pv 1) aC))))) aU)
   (aD (bF (PW.pt (fW (aK eG (pv 4) aF (aT _)) (eU (aK eG (pv 4) aF (aT _)))))
    (aD (aI (i:=7) rK.nd rfl (Or.inl rfl) (aH cS hr rfl aQ (aA (pv 3) (aA (pv 6) aC))))
    (aD (bF (PW.pt (jT (xG jX jX aF (pit 7 0) (aV jW aF aF)) (gW (aK jX (pit 7 1) (aV jW aF aF) (aT _)))))
     (aE (aO (aY (aA bX (aA (pv 7) (aA (pv 5) aC)))))) aU)
    (aE (aO (aY (aA bX (aA (aY (aA aF (aA aF aC))) (aA (pv 5) aC))))))))
    aU)
   (aE (aO (aY (aA bX (aA (pv 6) (aA (pv 5) aC))))))))))))),?_⟩
  have lz:=mH la lb1 lb2
  refine ⟨_,rfl,a,6,rfl,lf,by decide,bl9 (bP 4 (c:=16) (by decide) (by decide)),fun kd H1 kd0 kdl s1 lf1 => ?_⟩
  have tk1:=kL s1 lf
  refine ⟨_,rfl,rfl,_,rfl,ite2 (fun hk => ?_) (fun hk => ?_)⟩
  ·exact ⟨_,rfl,_,rfl,_,rfl,a,al,n,ws,rfl,lf1,⟨s1 _ _ ala hal,w1,w20⟩,ala,fun p q ps H2 ok ot s2 lf2 rv=>k p (.parts q ps) H2 ok (fun y hy=>by obtain ⟨z,hz,rfl⟩:=List.mem_map.mp hy; exact ot z hz) (s1.trans s2) lf2 rv⟩
  refine ⟨_,rfl,_,rfl,_,rfl,al,_,rfl,.inl (SqL.of (s1 _ _ ala hal)),a,_,rfl,lf1,by rw [List.length_map]; omega,by rw [List.length_map]; exact bl9 (bP 8 (c:=256) (by omega) (by omega):Bt 8 ((ws.length:Nat):Int)),fun d2 H2 d20 d2l s2 lf2 => ?_⟩
  rw [List.length_map] at d2l
  obtain ⟨dn,rfl⟩:=Int.eq_ofNat_of_zero_le d20
  obtain ⟨x,hx⟩ : ∃ x,ws[dn]?=some x:=⟨_,List.getElem?_eq_getElem (by omega)⟩
  have xin : ∀ y ∈ [x],y ∈ ws:=fun y hy=>by rw [List.mem_singleton.mp hy]; exact List.mem_of_getElem? hx
  have s02:=s1.trans s2
  have tk2:=tk1.trans (kL s2 lf1)
  have hm2:=tk2 _ _ hm
  refine ⟨al,_,(dn:Int),.str x,rfl,rfl,SqL.of (s02 _ _ ala hal),bG (by rw [List.getElem?_map,hx]; rfl),?_⟩
  dsimp only [dA]
  refine mQ (fun σ' H'=>σ'=[some (.ref a),some (.int n),some (.ref al),some (.ref m),some (.int kd),some (.str x),none,none]/\H'=H2) ?_ (fun N hN => ?_)
  ·rintro σ' H' ⟨rfl,rfl⟩
   refine ⟨(by show 2<=sizeLine; decide),fun o no => ?_⟩
   have oa:o ≠ a:=lf2.there no
   have so:=Same.upd (o:=.tup [.int 0,.int 1]) no
   have s3:=s02.trans (SmB.of so)
   have lf3:=lf2.own (o:=.tup [.int 0,.int 1]) oa
   have tk3:=tk2.trans so.tk
   have ho:upd H' o (.tup [.int 0,.int 1]) o=some (.tup [.int 0,.int 1]):=aB
   generalize upd H' o (.tup [.int 0,.int 1])=H3 at s3 lf3 tk3 ho ⊢
   dsimp only [dA]
   refine mQ (fun σ' H'=>∃ (m1:Addr) (q:BQ.Q),σ'=[some (.ref a),some (.int n),some (.ref al),some (.ref m),some (.int kd),some (.str x),some (.ref m1),none]/\SmB a H H'/\Lf H' a/\AmV H' m l/\AmV H' m1 q/\(Sm q\/(q=(0,1)/\kd=3))) ?_ (fun N hN => ?_)
   ·rintro σ' H4 ⟨m1,q,rfl,s4,lf4,hm4,hq4,alt⟩
    have amq:Am q:=by
     rcases alt with h | ⟨rfl,_⟩
     ·exact h.am
     ·exact am0
    have szq:Sz q:=by
     rcases alt with h | ⟨rfl,_⟩
     ·exact aBe h
     ·exact sz0
    refine ⟨_,rfl,rfl,_,rfl,ite2 (fun h=>iteT ?_) (fun h=>⟨_,rfl,rfl,_,rfl,ite2 (fun h' => ?_) (fun h' => ?_)⟩)⟩
    rotate_left 2
    ·have sq:Sm q:=by
      rcases alt with h0 | ⟨_,rfl⟩
      ·exact h0
      ·exact absurd (decide_eq_true rfl) h'
     refine ⟨_,rfl,_,rfl,(by show 3<=sizeLine; decide),fun r nr => ?_⟩
     have sr:=Same.upd (o:=.tup [.str "take",.ref m1,.str x]) nr
     exact k r (.take q x) _ sq xin (s4.trans (SmB.of sr)) (lf4.keep sr) (.take aB (sr _ _ hq4))
    all_goals
     refine ⟨_,rfl,_,rfl,m,m1,l.1,l.2,q.1,q.2,rfl,kJ (SqT.of hm4) (SqT.of hq4) lz szq,fun g H5 s5 hg => ?_⟩
     have hg':AmV H5 g (add l q):=hg
     have s05:=s4.trans (SmB.of s5)
     have lf5:=lf4.keep s5
     dsimp only [dA]
     refine mQ (fun σ' H'=>σ'=[some (.ref a),some (.int n),some (.ref al),some (.ref m),some (.int kd),some (.str x),some (.ref m1),some (.ref g)]/\H'=H5) ?_ (fun N hN => ?_)
     ·rintro σ' H' ⟨rfl,rfl⟩
      refine ⟨(by show 2<=sizeLine; decide),fun o2 no2=>⟨_,rfl,(by show 3<=sizeLine; decide),fun r nr => ?_⟩⟩
      have so2:=Same.upd (o:=.tup [.int 1,.int 2]) no2
      have sr:=Same.upd (o:=.tup [.str "take",.ref o2,.str x]) nr
      exact k r (.take (1,2) x) _ sm12 xin (s05.trans (SmB.of (so2.trans sr))) (lf5.keep (so2.trans sr)) (.take aB (sr _ _ aB))
     ·refine ⟨g,_,_,rfl,SqT.of hg',rfl,_,_,rfl,rfl,_,rfl,ite2 (fun h1 => ?_) (fun h1=>⟨_,rfl,iteF (hN _ _ ⟨rfl,rfl⟩)⟩)⟩
      refine ⟨_,_,rfl,rfl,⟨by decide,by decide,bk⟩,_,_,rfl,rfl,_,rfl,ite2 (fun h2 => ?_) (fun h2=>iteF (hN _ _ ⟨rfl,rfl⟩))⟩
      refine ⟨g,_,_,rfl,SqT.of hg',rfl,_,_,rfl,rfl,⟨by decide,by decide,bk⟩,_,_,rfl,rfl,_,rfl,ite2 (fun h3 => ?_) (fun h3=>hN _ _ ⟨rfl,rfl⟩)⟩
      have a1:0 < (add l q).1:=of_decide_eq_true h1
      have a2:(add l q).1 < (10:Int) ^ Int.toNat 9:=of_decide_eq_true h2
      have a3:(add l q).2 < (10:Int) ^ Int.toNat 9:=of_decide_eq_true h3
      rw [e9] at a2 a3
      have ama:=kX la amq
      have ab1:=ama.b1
      refine ⟨_,rfl,_,rfl,(by show 3<=sizeLine; decide),fun r nr => ?_⟩
      have sr:=Same.upd (o:=.tup [.str "fill",.ref g,.str x]) nr
      exact k r (.fill (add l q) x) _ ⟨⟨ama,a1,bt31 (by omega) (by omega),bt31 (by omega) (by omega)⟩,aFq la amq⟩ xin (s05.trans (SmB.of sr)) (lf5.keep sr) (.fill aB (sr _ _ hg'))
   ·refine ⟨_,rfl,rfl,_,rfl,ite2 (fun h=>iteT ?_) (fun h => ?_)⟩
    ·refine ⟨_,rfl,_,rfl,a,n,rfl,lf3,fun q m1 H4 sq s4 lf4 hq=>hN _ _ ⟨m1,q,rfl,s3.trans s4,lf4,kL s4 lf3 _ _ (tk3 _ _ hm),hq,.inl sq⟩⟩
    ·have e3:kd=3:=by
      by_cases z:kd=3
      ·exact z
      ·exact absurd (by simp [z]) h
     refine ⟨_,rfl,a,5,rfl,lf3,by decide,bl9 (bP 4 (c:=16) (by decide) (by decide)),fun d3 H4 d30 d3l s4 lf4=>⟨rfl,_,rfl,ite2 (fun h' => ?_) (fun h' => ?_)⟩⟩
     ·refine ⟨_,rfl,_,rfl,a,n,rfl,lf4,fun q m1 H5 sq s5 lf5 hq=>hN _ _ ⟨m1,q,rfl,(s3.trans s4).trans s5,lf5,kL s5 lf4 _ _ (kL s4 lf3 _ _ (tk3 _ _ hm)),hq,.inl sq⟩⟩
     ·exact hN _ _ ⟨o,(0,1),rfl,s3.trans s4,lf4,kL s4 lf3 _ _ (tk3 _ _ hm),s4 _ _ oa ho,.inr ⟨rfl,e3⟩⟩
  ·refine ⟨_,rfl,rfl,_,rfl,ite2 (fun h => ?_) (fun h=>iteF (hN _ _ ⟨rfl,rfl⟩))⟩
   refine ⟨m,_,_,rfl,SqT.of hm2,rfl,_,_,rfl,rfl,_,rfl,ite2 (fun h' => ?_) (fun h'=>hN _ _ ⟨rfl,rfl⟩)⟩
   have l1:0 < l.1:=of_decide_eq_true h'
   refine ⟨_,rfl,a,9,rfl,lf2,by decide,bl9 (bP 4 (c:=16) (by decide) (by decide)),fun d3 H3 d30 d3l s3 lf3=>⟨_,_,rfl,rfl,_,rfl,(by show 3<=sizeLine; decide),fun r nr => ?_⟩⟩
   have sr:=Same.upd (o:=.tup [.str "to",.int (1+d3),.str x]) nr
   exact k r (.to (1+d3) x) _ ⟨by omega,by omega,l1⟩ xin ((s02.trans s3).trans (SmB.of sr)) (lf3.keep sr) (.to aB)
end
def thgs (rs:List Rw):List Str:=rs.flatMap thg
def cY (rc:List (Str × List Rw))(x:Str):List Str:=rc.flatMap fun p=>if p.1=x then thgs p.2 else []
def gI:Sp:=fun vs H Q _=>∃ (v:V) (r:Rw),vs=[v]/\RowV H v r/\(thg r).length<=10/\∀ l H',Same H H'->H l=none->H' l=some (.lst ((thg r).map V.str))->Q (.ref l) H'
def lC:Sp:=fun vs H Q _=>∃ (b:Addr) (x:Str) (us:List V) (rc:List (Str × List Rw)),vs=[.ref b,.str x]/\BkV H b us rc/\rc.length<=12/\(∀ p ∈ rc,p.2.length<=6/\∀ r ∈ p.2,(thg r).length<=10)/\∀ l H',Same H H'->H l=none->H' l=some (.lst ((cY rc x).map V.str))->Q (.ref l) H'
section
variable {P:Program}{w:World}{K:PySem.W.Frag}{mg:Str->Option Value}{base:Heap}
theorem xA:FnScope ["_law_row_here"] ["_law_row_here"] (aG sThings):=⟨rfl,rfl,rfl,by decide +kernel,rfl,by decide +kernel,by decide +kernel⟩
theorem uO {f:Addr}{fd:FuncData}(F:Fun K "_law_things" "_law_things" sThings f fd):FnOk P w K mg base CX0 1 f fd ["_law_row_here"] gI:=by
 refine F.ok xA (fun vs H Q E h => ?_) (fun cdv A outer s H vs Q E hr h => ?_)
 ·obtain ⟨_,_,rfl,_⟩:=h
  rfl
 ·obtain ⟨v,r,rfl,rv,tl,k⟩:=h
  refine ⟨_,(aD (bF (aK eG (pit 0 0) bX (aT _))
    (aE (aO (gX (N':=["_law_many","_law_thing"]) (cl:=[]) (g:=gTup K 2 (dZ (dA 0) (dZ (dA 1) gNil))) (fun _=>[none,none]) rfl rfl (by decide +kernel) (by decide +kernel) (eA (by decide +kernel)) (fun _ _=>eM)
    (eJ (pit 0 2)) (fun _ _ _ _ _=>dH rfl (aP (aJ (i:=0) ndMT rfl (Or.inl rfl) (Or.inr rfl)) (aP (aJ (i:=1) ndMT rfl (Or.inl rfl) (Or.inr rfl)) bW))) (fun _ _ _ _ _=>dF)
    (fun _ _ _ _ _=>pv 1))))
    aU)
   (aE (aO (bC (aA (pit 0 2) aC))))),?_⟩
  cases rv with
  | @take p m a x hp hm=>exact ⟨p,_,_,rfl,SqT.of hp,rfl,rfl,_,rfl,iteF ⟨p,_,_,rfl,SqT.of hp,rfl,(by show 1<=sizeLine; decide),fun l hl=>k l _ (Same.upd hl) hl aB⟩⟩
  | @to p n x hp=>exact ⟨p,_,_,rfl,SqT.of hp,rfl,rfl,_,rfl,iteF ⟨p,_,_,rfl,SqT.of hp,rfl,(by show 1<=sizeLine; decide),fun l hl=>k l _ (Same.upd hl) hl aB⟩⟩
  | @fill p m a x hp hm=>exact ⟨p,_,_,rfl,SqT.of hp,rfl,rfl,_,rfl,iteF ⟨p,_,_,rfl,SqT.of hp,rfl,(by show 1<=sizeLine; decide),fun l hl=>k l _ (Same.upd hl) hl aB⟩⟩
  | @parts p m q a us ps hp hm hq hu =>
   have pl:ps.length<=10:=by
    have:(thg (.parts a ps)).length=ps.length:=List.length_map ..
    omega
   have ul:=hu.len
   refine ⟨p,_,_,rfl,SqT.of hp,rfl,rfl,_,rfl,iteT ?_⟩
   refine ⟨p,_,_,rfl,SqT.of hp,rfl,q,rfl,⟨_,SqT.of hq⟩,fun D hD => ?_⟩
   refine dP (Ys.tup (SqT.of hq)) (fun i _ y _=>∀ p:Int × Str,ps[i]?=some p->y = .str p.2) (fun _ _ _ _ _ h _=>h) hD (by omega) (fun i v H' R hv sm hR => ?_) (fun ys H1 s1 hD' yl hy => ?_)
   ·obtain ⟨pp,hpp,z,rfl,hz⟩:=hu.get hv
    exact ⟨z,_,rfl,SqT.of (sm _ _ hz),rfl,_,_,rfl,_,_,rfl,rfl,((Keep.refl _).set rfl).set rfl,_,rfl,hR _ _ (Same.refl _) fun p' hp'=>by rw [hpp] at hp'; cases hp'; rfl⟩
   ·have ey:ys=(thg (.parts a ps)).map V.str:=by
     show ys=(ps.map (·.2)).map V.str
     refine gE (by rw [List.length_map,List.length_map,yl,ul]) fun i x y hx hy' => ?_
     rw [List.map_map,List.getElem?_map] at hx
     cases e:ps[i]? with
     | none=>rw [e] at hx; cases hx
     | some pp =>
      rw [e] at hx
      cases hx
      obtain ⟨u',hu'⟩ : ∃ x,us[i]?=some x:=⟨_,List.getElem?_eq_getElem (by rw [ul]; exact (List.getElem?_eq_some_iff.mp e).1)⟩
      exact hy i u' y hu' hy' pp e
    rw [ey] at hD'
    exact k D H1 s1 hD hD'
theorem jR:FnScope ["_law_book_here","_law_name","_law_things_here","_law_one","_law_rows","_law_row_here"] ["_law_book_here","_law_name"] (aG sBelow):=⟨rfl,rfl,rfl,by decide +kernel,rfl,by decide +kernel,by decide +kernel⟩
theorem iA : ∀ {rs:List Rw},(∀ r ∈ rs,(thg r).length<=10)->(thgs rs).length<=10*rs.length
 | [],_=>Nat.le_refl _
 | r :: t,h=>by
  have:=iA (rs:=t) fun x hx=>h x (List.mem_cons_of_mem _ hx)
  have:=h r (List.mem_cons_self ..)
  show (thg r ++ thgs t).length<=_
  rw [List.length_append,List.length_cons]
  omega
theorem gF {x:Str} : ∀ {rc:List (Str × List Rw)},(∀ p ∈ rc,p.2.length<=6/\∀ r ∈ p.2,(thg r).length<=10)->(cY rc x).length<=60*rc.length
 | [],_=>Nat.le_refl _
 | p :: t,h=>by
  have:=gF (x:=x) (rc:=t) fun y hy=>h y (List.mem_cons_of_mem _ hy)
  have hp:=h p (List.mem_cons_self ..)
  have:=iA hp.2
  show ((if p.1=x then thgs p.2 else []) ++ cY t x).length<=_
  rw [List.length_append,List.length_cons]
  split
  ·omega
  ·show 0+_<=_; omega
theorem yK {f:Addr}{fd:FuncData}(F:Fun K "_law_below" "_law_below" sBelow f fd)(cT:Cal P w K mg base CX0 1 "_law_things" ["_law_row_here"] gI):FnOk P w K mg base CX0 2 f fd ["_law_book_here","_law_name"] lC:=by
 refine F.ok jR (fun vs H Q E h => ?_) (fun cdv A outer s H vs Q E hr h => ?_)
 ·obtain ⟨_,_,_,_,rfl,_⟩:=h
  rfl
 ·obtain ⟨b,x,us,rc,rfl,⟨x1,y1,g,hb,hg,hu⟩,r12,hlen,k⟩:=h
  refine ⟨_,(aD (aI (i:=2) jR.nd rfl (Or.inl rfl) (bC aC))
   (aD (bL PassesOwn.never rfl (eJ (pit 0 2)) (dH rfl (aP (aJ (i:=3) jR.nd rfl (Or.inl rfl)) (aP (aJ (i:=4) jR.nd rfl (Or.inl rfl)) bW)))
    (aE (bF (aK eG (pv 3) (pv 1) (aT _))
    (aE (bL PassesOwn.never rfl (eJ (pv 4)) (aJ (i:=5) jR.nd rfl (Or.inl rfl))
    (aE (bZ (eT PySem.F.plainAttrs_list PySem.F.slot_list_extend PySem.F.type_list_extend eX (pv 2) (aA (aH cT hr rfl aQ (aA (pv 5) aC)) aC))))))
    aU)))
   (aE (aO (pv 2))))),?_⟩
  have bl:=gF (x:=x) hlen
  have pre : ∀ i,(cY (rc.take i) x).length<=720:=fun i=>by
   have:=gF (x:=x) (rc:=rc.take i) fun p hp=>hlen p (List.mem_of_mem_take hp)
   have:(rc.take i).length<=12:=by rw [List.length_take]; omega
   omega
  refine ⟨(by show 0<=sizeLine; decide),fun L nL => ?_⟩
  have sL:=Same.upd (o:=.lst []) nL
  refine ⟨b,_,_,rfl,SqT.of (sL _ _ hb),rfl,g,rfl,⟨_,SqT.of (sL _ _ hg)⟩,?_⟩
  refine fP (xs:=us) (fun i σ H'=>∃ v3 v4 v5:Option V,σ=[some (.ref b),some (.str x),some (.ref L),v3,v4,v5]/\Same H H'/\H' L=some (.lst ((cY (rc.take i) x).map V.str))) ⟨none,none,none,rfl,sL,aB⟩ (fun i σ H' _ ⟨_,_,_,_,sm,_⟩=>SqT.of (sm _ _ hg)) ?_ ?_
  ·rintro i v σ H1 hv ⟨v3,v4,v5,rfl,s1,hL1⟩
   obtain ⟨p,hp,z,q,vs',rfl,hz,hq,hrv⟩:=hu.get hv
   have et:cY (rc.take (i+1)) x=cY (rc.take i) x ++ (if p.1=x then thgs p.2 else []):=by
    unfold cY
    rw [List.take_add_one,hp,List.flatMap_append]
    simp
   have hl:=hlen p (List.mem_of_getElem? hp)
   refine ⟨z,_,rfl,SqT.of (s1 _ _ hz),rfl,_,_,rfl,_,_,rfl,rfl,?_⟩
   refine ⟨_,rfl,_,rfl,rfl,_,rfl,ite2 (fun hc => ?_) (fun hc => ?_)⟩
   ·have e:p.1=x:=by simpa using hc
    rw [if_pos e] at et
    refine ⟨_,rfl,q,rfl,⟨_,SqT.of (s1 _ _ hq)⟩,?_⟩
    refine fP (xs:=vs') (fun j σ H'=>∃ v5:Option V,σ=[some (.ref b),some (.str x),some (.ref L),some (.str p.1),some (.ref q),v5]/\Same H H'/\H' L=some (.lst ((cY (rc.take i) x ++ thgs (p.2.take j)).map V.str))) ⟨_,rfl,s1,by rw [hL1]; simp [thgs]⟩ (fun j σ H' _ ⟨_,_,sm,_⟩=>SqT.of (sm _ _ hq)) ?_ ?_
    ·rintro j y σ H2 hy ⟨v5',rfl,s2,hL2⟩
     obtain ⟨r,hr',rvj⟩:=hrv.get hy
     have rl:=hl.2 r (List.mem_of_getElem? hr')
     have e2:thgs (p.2.take (j+1))=thgs (p.2.take j) ++ thg r:=by
      unfold thgs
      rw [List.take_add_one,hr',List.flatMap_append]
      simp
     refine ⟨_,rfl,.inl ⟨rfl,_,SqL.of hL2⟩,_,rfl,y,r,rfl,rvj.keep s2.tk,rl,fun t H3 s3 nt ht => ?_⟩
     have hL3:=s3 _ _ hL2
     have tj:=iA (rs:=p.2.take j) fun r hr=>hl.2 r (List.mem_of_mem_take hr)
     have pj:(p.2.take j).length<=6:=by rw [List.length_take]; omega
     have pi:=pre i
     refine ⟨L,t,_,_,rfl,rfl,hL3,ht,?_,?_⟩
     ·rw [List.length_map,List.length_map,List.length_append]
      exact Nat.le_trans (show _<=1000 by omega) (by decide)
     ·refine ⟨_,rfl,bQ (s2.trans s3) nL,?_⟩
      rw [aB,e2,<- List.append_assoc,List.map_append (l₂:=thg r)]
    ·rintro σ H2 ⟨v5',rfl,s2,hL2⟩
     rw [hrv.len,List.take_length] at hL2
     exact ⟨_,_,_,rfl,s2,by rw [et]; exact hL2⟩
   ·have e:p.1 ≠ x:=by simpa using hc
    rw [if_neg e,List.append_nil] at et
    exact ⟨_,_,_,rfl,s1,by rw [et]; exact hL1⟩
  ·rintro σ H1 ⟨v3,v4,v5,rfl,s1,hL1⟩
   rw [hu.len,List.take_length] at hL1
   exact ⟨_,rfl,k L H1 s1 nL hL1⟩
end
theorem mY {X:Cx}{K:PySem.W.Frag}(h:X.K=K):OpR X (compareOp .NotIn) (rIn K true):=h ▸ gC
def Ord (rc:List (Str × List Rw))(ws xs:List Str):Prop:=∀ (i:Nat) x,xs[i]?=some x->∀ t ∈ cY rc x,t ∈ ws\/t ∈ xs.take i
theorem Ord.snoc {rc:List (Str × List Rw)}{ws xs:List Str}{x:Str}(h:Ord rc ws xs)(hx : ∀ t ∈ cY rc x,t ∈ ws ++ xs):Ord rc ws (xs ++ [x]):=fun i y hy t ht=>by
 rcases eB hy with ⟨hi,hy'⟩ | ⟨rfl,rfl⟩
 ·rcases h i y hy' t ht with h' | h'
  ·exact .inl h'
  ·rw [List.take_append_of_le_length (by omega)]
   exact .inr h'
 ·rw [List.take_append_of_le_length (Nat.le_refl _),List.take_length]
  exact List.mem_append.mp (hx t ht)
structure RcS (rc:List (Str × List Rw)):Prop where
 ln:rc.length<=12
 rw : ∀ p ∈ rc,p.2.length<=6/\∀ r ∈ p.2,(thg r).length<=10
def BwV (H:Hp)(b:Addr)(ws:List Str)(us:List V)(rc:List (Str × List Rw)):Prop:=∃ w' y f,H b=some (.tup [.ref w',y,.ref f])/\H w'=some (.tup (ws.map V.str))/\H f=some (.tup us)/\L2R (RecV H) us rc
theorem BwV.bk {H:Hp}{b:Addr}{ws:List Str}{us:List V}{rc:List (Str × List Rw)}(h:BwV H b ws us rc):BkV H b us rc:=by
 obtain ⟨w',y,f,a,_,c,d⟩:=h
 exact ⟨_,y,f,a,c,d⟩
theorem BwV.keep {H H':Hp}{b:Addr}{ws:List Str}{us:List V}{rc:List (Str × List Rw)}(k:Tk H H')(h:BwV H b ws us rc):BwV H' b ws us rc:=by
 obtain ⟨w',y,f,a,e,c,d⟩:=h
 exact ⟨w',y,f,k _ _ a,k _ _ e,k _ _ c,d.imp fun _ _ x=>x.keep k⟩
def NRp (rc:List (Str × List Rw))(ws xs:List Str)(p:Str × List Rw):Prop:=p.1 ∈ ws ++ xs\/∃ t ∈ cY rc p.1,t ∉ ws ++ xs
def iY (rc:List (Str × List Rw))(ws xs:List Str)(x:Str):Prop:=∃ (j:Nat) (p:Str × List Rw),rc[j]?=some p/\p.1=x/\¬ NRp rc ws xs p/\∀ j' < j,∀ p',rc[j']?=some p'->NRp rc ws xs p'
theorem iR {rc:List (Str × List Rw)}{ws xs:List Str}{y:Str}(h : ∀ (i:Nat) x,xs[i]?=some x->iY rc ws (xs.take i) x)(k:iY rc ws xs y) : ∀ (i:Nat) x,(xs ++ [y])[i]?=some x->iY rc ws ((xs ++ [y]).take i) x:=fun i x hx=>by
 rcases eB hx with ⟨l,hx'⟩ | ⟨rfl,rfl⟩
 ·rw [List.take_append_of_le_length (by omega)]
  exact h i x hx'
 ·rw [List.take_append_of_le_length (Nat.le_refl _),List.take_length]
  exact k
structure OrdE (rc:List (Str × List Rw))(ws xs:List Str):Prop where
 nd:xs.Nodup
 sub : ∀ x ∈ xs,x ∈ rc.map (·.1)
 full:xs.length=rc.length\/∀ p ∈ rc,NRp rc ws xs p
 fst : ∀ (i:Nat) x,xs[i]?=some x->iY rc ws (xs.take i) x
def lB:Sp:=fun vs H Q _=>∃ (b:Addr) (ws:List Str) (us:List V) (rc:List (Str × List Rw)),vs=[.ref b]/\BwV H b ws us rc/\RcS rc/\ws.length<=20/\∀ (xs:List Str) l H',Same H H'->H l=none->H' l=some (.lst (xs.map V.str))->xs.length<=12->Ord rc ws xs->OrdE rc ws xs->Q (.ref l) H'
section
variable {P:Program}{w:World}{K:PySem.W.Frag}{mg:Str->Option Value}{base:Heap}
abbrev Nord:List Str:=["_law_book_here","_law_there","_law_found","_law_turn","_law_name","_law_rows","_law_some","_law_lacks"]
theorem ndTT:(["_law_thing","_law_there"]:List Str).Nodup:=by decide +kernel
theorem fY:FnScope Nord ["_law_book_here"] (aG sOrder):=⟨rfl,rfl,rfl,by decide +kernel,rfl,by decide +kernel,by decide +kernel⟩
theorem yC {f:Addr}{fd:FuncData}(F:Fun K "_law_order" "_law_order" sOrder f fd)(T:Txt mg)(cB:Cal P w K mg base CX0 2 "_law_below" ["_law_book_here","_law_name"] lC):FnOk P w K mg base CX0 3 f fd ["_law_book_here"] lB:=by
 refine F.ok fY (fun vs H Q E h => ?_) (fun cdv A outer s H vs Q E hr h => ?_)
 ·obtain ⟨_,_,_,_,rfl,_⟩:=h
  rfl
 ·obtain ⟨b,ws,us,rc,rfl,bw,rcs,w20,k⟩:=h
  refine ⟨_,(aD (aI (i:=1) fY.nd rfl (Or.inr rfl) (bJ eQ rfl T.list' iT (aA (pit 0 0) aC)))
   (aD (aI (i:=2) fY.nd rfl (Or.inl rfl) (bC aC))
   (aD (bL PassesOwn.never rfl (eF rfl T.range (aA (aS aW rfl T.len PySem.boot_len (aA (pit 0 2) aC)) aC)) (aJ (i:=3) fY.nd rfl (Or.inl rfl))
    (aE (bL PassesOwn.never rfl (eJ (pit 0 2)) (dH rfl (aP (aJ (i:=4) fY.nd rfl (Or.inl rfl)) (aP (aJ (i:=5) fY.nd rfl (Or.inl rfl)) bW)))
     (aD (aI (i:=6) fY.nd rfl (Or.inl rfl) (aH cB hr rfl aQ (aA (pv 0) (aA (pv 4) aC))))
     (aD (qF (iy:=7) (N':=["_law_thing","_law_there"]) (fun σ=>[none,some 1].map fun t=>t.bind fun j=>(σ[j]?).join) rfl rfl (by decide +kernel) (by decide +kernel)
      (lT (sc:=aG sOrder) rfl (by decide +kernel)) (fun _ _ _=>fR (sc:=aG sOrder) (N:=Nord) [none,some 1] rfl rfl rfl rfl (by decide +kernel))
      (cJ (pv 6)) (fun _ _ _ _ _ _=>aJ (i:=0) ndTT rfl (Or.inl rfl))
      (fun _ _ _ _ _ _=>lO (aK (mY (K:=K) rfl) (pv 0) (pv 1) rfl))
      (fun _ _ _ _ _ _=>pv 0) fY.nd rfl (Or.inl rfl) (Or.inr rfl) rfl)
     (aE (bF (PW.pt (jT (aK gC (pv 4) (pv 1) rfl) (gW (aK (aAj hr.units) (pv 7) (bC aC) (aT _)))))
      (aD (bZ (eT PySem.F.plainAttrs_list PySem.F.slot_list_append PySem.F.type_list_append bY (pv 1) (aA (pv 4) aC)))
      (aD (bZ (eT PySem.F.plainAttrs_list PySem.F.slot_list_append PySem.F.type_list_append bY (pv 2) (aA (pv 4) aC)))
      (aE xI)))
      aU)))))))
   (aE (aO (pv 2)))))),?_⟩
  obtain ⟨w',y,g,hb,hw,hg,hu⟩:=id bw
  refine ⟨b,_,_,rfl,SqT.of hb,rfl,w',_,rfl,.inr (SqT.of hw),fun Th nT => ?_⟩
  have sT:=Same.upd (o:=.lst (ws.map V.str)) nT
  refine ⟨(by show 0<=sizeLine; decide),fun Fd nF => ?_⟩
  have sF:=Same.upd (o:=.lst []) nF
  have s0:=sT.trans sF
  have nF0:H Fd=none:=bH sT nF
  have TF:Th ≠ Fd:=fun e=>by rw [<- e,aB] at nF; cases nF
  refine ⟨b,_,_,rfl,SqT.of (s0 _ _ hb),rfl,g,_,rfl,.inr (SqT.of (s0 _ _ hg)),_,rfl,by have:=rcs.ln; have:=hu.len; omega,by have:=rcs.ln; have:=hu.len; omega,?_⟩
  rw [Int.toNat_natCast]
  have ul:=hu.len
  have rl:=rcs.ln
  refine dU (fun i σ H'=>∃ (xs:List Str) (v3 v4 v5 v6 v7:Option V),σ=[some (.ref b),some (.ref Th),some (.ref Fd),v3,v4,v5,v6,v7]/\Same H H'/\H' Th=some (.lst ((ws ++ xs).map V.str))/\H' Fd=some (.lst (xs.map V.str))/\xs.length<=i/\Ord rc ws xs/\xs.Nodup/\(∀ x ∈ xs,x ∈ rc.map (·.1))/\(xs.length=i\/∀ p ∈ rc,NRp rc ws xs p)/\∀ (i:Nat) x,xs[i]?=some x->iY rc ws (xs.take i) x)
   ⟨[],none,none,none,none,none,rfl,s0,by rw [List.append_nil]; exact sF _ _ aB,aB,Nat.le_refl _,(fun i x h=>by simp at h),List.nodup_nil,(fun x h=>nomatch h),.inl rfl,(fun i x h=>by simp at h)⟩ ?_ ?_
  ·rintro i σ H1 hi ⟨xs,v3,v4,v5,v6,v7,rfl,s1,hT1,hF1,xl,ord,xnd,xsub,xful,xfst⟩
   refine ⟨b,_,_,rfl,SqT.of (s1 _ _ hb),rfl,g,rfl,⟨_,SqT.of (s1 _ _ hg)⟩,?_⟩
   refine fP (xs:=us) (fun j σ H'=>∃ v4 v5 v6 v7:Option V,σ=[some (.ref b),some (.ref Th),some (.ref Fd),some (.int (0+i)),v4,v5,v6,v7]/\Same H H'/\H' Th=some (.lst ((ws ++ xs).map V.str))/\H' Fd=some (.lst (xs.map V.str))/\∀ j' < j,∀ p,rc[j']?=some p->NRp rc ws xs p) ⟨_,_,_,_,rfl,s1,hT1,hF1,fun j' h=>by omega⟩ (fun j σ H' _ ⟨_,_,_,_,_,sm,_⟩=>SqT.of (sm _ _ hg)) ?_ ?_
   ·rintro j v σ H2 hv ⟨v4',v5',v6',v7',rfl,s2,hT2,hF2,nr⟩
    obtain ⟨p,hp,z,q,vs',rfl,hz,hq,hrv⟩:=hu.get hv
    refine ⟨z,_,rfl,SqT.of (s2 _ _ hz),rfl,_,_,rfl,_,_,rfl,rfl,?_⟩
    refine ⟨_,rfl,_,rfl,b,p.1,us,rc,rfl,bw.bk.keep s2.tk,rcs.ln,rcs.rw,fun L H3 s3 nL hL => ?_⟩
    have bl:=gF (x:=p.1) rcs.rw
    have hT3:=s3 _ _ hT2
    have hF3:=s3 _ _ hF2
    refine ⟨_,rfl,L,rfl,⟨_,SqL.of hL⟩,fun D hD => ?_⟩
    refine kG (Ys.list (SqL.of hL)) (fun v => !inV v ((ws ++ xs).map V.str)) (fun x y _=>y=x) (fun _ _ _ _ h _=>h) hD (by rw [List.length_map]; omega) (fun i' v H' R1 R2 hv' sm r1 r2 => ?_) (fun ys H4 s4 hD4 yl hy => ?_)
    ·rw [List.getElem?_map] at hv'
     obtain ⟨t,ht,rfl⟩:=Option.map_eq_some_iff.mp hv'
     refine ⟨(Keep.refl _).set rfl,_,rfl,_,rfl,Th,_,rfl,.inl (SqL.of (sm _ _ hT3)),rfl,dM _,_,rfl,ite2 (fun h1 => ?_) (fun h1 => ?_)⟩
     ·exact ⟨_,rfl,r1 h1 _ _ (Same.refl _) rfl⟩
     ·exact r2 (by simpa using h1) _ (Same.refl _)
    have s04:=s2.trans (s3.trans s4)
    have hT4:=s4 _ _ hT3
    have hF4:=s4 _ _ hF3
    have nx:NRp rc ws xs p->∀ H5,Same H H5->H5 Th=some (.lst ((ws ++ xs).map V.str))->H5 Fd=some (.lst (xs.map V.str))->∃ v4 v5 v6 v7:Option V,[some (.ref b),some (.ref Th),some (.ref Fd),some (.int (0+i)),some (.str p.1),some (.ref q),some (.ref L),some (.ref D)]=[some (.ref b),some (.ref Th),some (.ref Fd),some (.int (0+i)),v4,v5,v6,v7]/\Same H H5/\H5 Th=some (.lst ((ws ++ xs).map V.str))/\H5 Fd=some (.lst (xs.map V.str))/\∀ j' < j+1,∀ p,rc[j']?=some p->NRp rc ws xs p:=fun np H5 a1 a2 a3=>⟨_,_,_,_,rfl,a1,a2,a3,fun j' hj' p' hp'=>by
     rcases Nat.lt_succ_iff_lt_or_eq.mp hj' with z | z
     ·exact nr j' z p' hp'
     ·rw [z,hp] at hp'
      cases hp'
      exact np⟩
    refine ⟨_,rfl,_,rfl,Th,_,rfl,.inl (SqL.of hT4),rfl,dM _,_,rfl,ite2 (fun h1 => ?_) (fun h1=>iteF (nx (.inl (dR.mp (by simpa using h1))) H4 s04 hT4 hF4))⟩
    refine ⟨_,rfl,(by show 0<=sizeLine; decide),fun o no => ?_⟩
    have so:=Same.upd (o:=.lst []) no
    have s05:=s04.trans so
    have hT5:=so _ _ hT4
    have hF5:=so _ _ hF4
    have hD5:=so _ _ hD4
    have ho5:upd H4 o (.lst []) o=some (.lst []):=aB
    generalize upd H4 o (.lst [])=H5 at s05 hT5 hF5 hD5 ho5 ⊢
    refine ⟨D,o,_,rfl,rfl,SqL.of hD5,SqL.of ho5,_,rfl,ite2 (fun h2 => ?_) (fun h2=>nx (.inr ?_) H5 s05 hT5 hF5)⟩
    rotate_left
    ·cases ys with
     | nil=>exact absurd rfl h2
     | cons y r =>
      have l1:0 < (((cY rc p.1).map V.str).filter fun v => !inV v ((ws ++ xs).map V.str)).length:=by rw [<- yl]; exact Nat.succ_pos _
      obtain ⟨x,hx⟩:=List.exists_mem_of_length_pos l1
      obtain ⟨hx1,hx2⟩:=List.mem_filter.mp hx
      obtain ⟨t,ht,rfl⟩:=List.mem_map.mp hx1
      exact ⟨t,ht,fun z=>by rw [dR.mpr z] at hx2; cases hx2⟩
    have ye:ys=[]:=by simpa using h2
    have all : ∀ t ∈ cY rc p.1,t ∈ ws ++ xs:=fun t ht=>by
     rw [ye] at yl
     have e:((cY rc p.1).map V.str).filter (fun v => !inV v ((ws ++ xs).map V.str))=[]:=List.length_eq_zero_iff.mp yl.symm
     have:=List.filter_eq_nil_iff.mp e (.str t) (List.mem_map_of_mem ht)
     exact dR.mp (by simpa using this)
    have pn:p.1 ∉ ws ++ xs:=fun z=>by rw [dR.mpr z] at h1; cases h1
    have el:(ws ++ xs).map V.str ++ [V.str p.1]=(ws ++ (xs ++ [p.1])).map V.str:=by simp
    refine ⟨_,rfl,.inl ⟨rfl,_,SqL.of hT5⟩,_,rfl,Th,_,_,rfl,rfl,hT5,aX (by rw [List.length_map,List.length_append]; omega),?_⟩
    rw [el]
    have hF6:upd H5 Th (.lst ((ws ++ (xs ++ [p.1])).map V.str)) Fd=some (.lst (xs.map V.str)):=by rw [aL TF.symm]; exact hF5
    refine ⟨_,rfl,.inl ⟨rfl,_,SqL.of hF6⟩,_,rfl,Fd,_,_,rfl,rfl,hF6,aX (by rw [List.length_map]; omega),?_⟩
    refine ⟨xs ++ [p.1],_,_,_,_,_,rfl,bQ (bQ s05 nT) nF0,by rw [aL TF]; exact aB,?_,by rw [List.length_append]; show xs.length+1<=i+1; omega,ord.snoc all,iO xnd (fun z=>pn (List.mem_append_right _ z)),(fun x hx => ?_),?_,iR xfst ⟨j,p,hp,rfl,(fun z=>z.elim pn fun ⟨t,ht,q⟩=>q (all t ht)),fun j' hj' p' hp'=>nr j' hj' p' hp'⟩⟩
    ·rw [aB]
     simp
    ·rcases List.mem_append.mp hx with hx | hx
     ·exact xsub x hx
     ·rw [List.mem_singleton.mp hx]
      exact List.mem_map_of_mem (List.mem_of_getElem? hp)
    ·rcases xful with z | z
     ·left; rw [List.length_append,z]; rfl
     ·exfalso
      rcases z p (List.mem_of_getElem? hp) with q | ⟨t,ht,q⟩
      ·exact pn q
      ·exact q (all t ht)
   ·rintro σ H2 ⟨v4',v5',v6',v7',rfl,s2,hT2,hF2,nr⟩
    exact ⟨xs,_,_,_,_,_,rfl,s2,hT2,hF2,by omega,ord,xnd,xsub,.inr fun p hp=>by
     obtain ⟨j',hj'⟩:=List.getElem?_of_mem hp
     exact nr j' (by rw [ul]; exact (List.getElem?_eq_some_iff.mp hj').1) p hj',xfst⟩
  ·rintro σ H1 ⟨xs,v3,v4,v5,v6,v7,rfl,s1,hT1,hF1,xl,ord,xnd,xsub,xful,xfst⟩
   exact ⟨_,rfl,k xs Fd H1 s1 nF0 hF1 (by omega) ord ⟨xnd,xsub,xful.imp (fun z=>by rw [z,ul]) id,xfst⟩⟩
end
end K25
namespace L2
open PySem PySem.Spec PyProof.Rows
theorem Inv.thaw {X:Cx}{pins:List (Addr × Obj)}{σ:St}{H:Hp}{s:Shared}{d:Addr}{ob:Obj}{kvs:List (Key × V)}(I:Inv X pins σ H s)(hd:H d=some (.frz ob (.dK kvs)))(h0 : ∀ o u,X.H₀ d ≠ some (.frz o u)):Inv X pins σ (upd H d (.dK kvs)) s:=by
 have ne : ∀ b,H b=none->b ≠ d:=fun b n z=>by rw [z,hd] at n; cases n
 have nd : ∀ b u,H b=some u->u ≠ .frz ob (.dK kvs)->b ≠ d:=fun b u e n z=>by
  rw [z,hd] at e
  exact n (Option.some.inj e).symm
 have st : ∀ {a:Addr} {u:HO},ObjOk X.prog X.w H s.heap a u->ObjOk X.prog X.w (upd H d (.dK kvs)) s.heap a u:=fun x =>
  x.stay (fun c v _ q=>q) (fun c q=>by rw [aL (nd c _ q (by intro z; cases z))]; exact q) fun c xs q=>by rw [aL (nd c _ q (by intro z; cases z))]; exact q
 refine ⟨I.ok,I.os,I.bare,⟨I.base.keep,I.base.slot,fun b o e n hx => ?_,I.base.there,fun b xs e => ?_,fun b o u e => ?_,fun b ps e => ?_⟩,I.loc,I.cell,?_,fun x c e => ?_,fun p hp => ?_,fun b u e => ?_,I.len⟩
 ·have z:=I.base.free b o e n hx
  rw [aL (ne b z)]
  exact z
 ·have z:=I.base.tups b xs e
  rw [aL (nd b _ z (by intro z; cases z))]
  exact z
 ·have z:=I.base.frzs b o u e
  rw [aL (fun q=>h0 o u (by rw [<- q]; exact e))]
  exact z
 ·obtain ⟨m,z⟩:=I.base.tbls b ps e
  exact ⟨m,by rw [aL (nd b _ z (by intro z; cases z))]; exact z⟩
 ·rw [aL (ne _ I.free)]
  exact I.free
 ·rw [aL (ne _ (I.freeC x c e))]
  exact I.freeC x c e
 ·obtain ⟨q1,q2,q3⟩:=I.pin p hp
  exact ⟨q1,by rw [aL (ne _ q2)]; exact q2,q3⟩
 ·by_cases e':b=d
  ·subst e'
   rw [aB] at e
   cases e
   exact st (I.hok b _ hd).2
  ·rw [aL e'] at e
   exact st (I.hok b u e)
def tThaw (H₀:Hp)(te:TE):TE:=fun σ H Q=>te σ H fun v H'=>∃ d ob kvs,H' d=some (.frz ob (.dK kvs))/\(∀ o u,H₀ d ≠ some (.frz o u))/\Q v (upd H' d (.dK kvs))
def rUpd:V->List V->Hp->VK->Prop:=fun x vs H Q=>∃ d o kvs more,x = .ref d/\vs=[.ref o]/\d ≠ o/\H d=some (.dK kvs)/\H o=some (.dK more)/\kvs.length+more.length<=1000/\Q .non (upd H d (.dK (aAl kvs more)))
section
variable {prog:Program}{w:World}{A:Around}{E:Value->Shared->Prop}{s:Shared}
end
def tMinD (te:TE):TE:=fun σ H Q=>te σ H fun x H1=>∃ l n,x = .ref l/\H1 l=some (.lst [.int n])/\Q (.int n) H1
structure MCal (P:Program)(w:World)(K:PySem.W.Frag)(mg:Str->Option Value)(base:Heap)(CX:CXT)(k:Nat)(C:Addr)(m:Str)(ps:List Str)(sp:Sp):Prop where
 ex : ∃ (f:Addr) (fd:FuncData),Meth K C m f/\Binds K fd ps []/\FnOk P w K mg base CX k f fd ps sp
section
variable {X:Cx}{CX:CXT}{k:Nat}{C:Addr}{m:Str}{ps:List Str}{sp:Sp}{E:XK}{o e:Expr}{es:List Expr}{ta:TE}{t:TA}{apos pos:Pos}
end
def aDj (H₀:Hp)(t:TS):TS:=fun D σ H=>t { D with nx:=fun σ' H'=>∃ d ob kvs,H' d=some (.frz ob (.dK kvs))/\(∀ o u,H₀ d ≠ some (.frz o u))/\D.nx σ' (upd H' d (.dK kvs)) } σ H
theorem aBt {X:Cx}{st:Stmt}{t:TS}(h:PS X st t):PS X st (aDj X.H₀ t):=by
 intro pins s σ H D I q
 refine thn (h pins s σ H _ I q) fun f s1 z => ?_
 cases f with
 | next =>
  obtain ⟨σ',H',I',d,ob,kvs,hd,h0,q'⟩:=z
  exact ⟨σ',_,I'.thaw hd h0,q'⟩
 | brk=>exact z
 | cont=>exact z
 | ret u=>exact z
theorem tF {H H5:Hp}{c:Addr}{ob:Obj}{kvs:List (Key × V)}(h:H c=some (.dK kvs))(s:Same (upd H c (.frz ob (.dK kvs))) H5):Same H (upd H5 c (.dK kvs)):=fun b o e=>by
 by_cases z:b=c
 ·subst z
  rw [h] at e
  cases e
  exact aB
 ·rw [aL z]
  exact s b o (by rw [aL z]; exact e)
end L2
namespace K25
open PySem PySem.Spec PyProof.Rows L2 GM TM BQ TR
theorem fT : ∀ {ws ks:List Str},ks.Nodup->(∀ y ∈ ks,y ∈ ws)->ks.length<=ws.length
 | [],[],_,_=>Nat.le_refl _
 | [],y :: _,_,h=>nomatch h y (List.mem_cons_self ..)
 | w :: ws,ks,nd,h=>by
  have ih:=fT (ws:=ws) (nd.erase w) fun y hy=>by
   obtain ⟨h1,h2⟩:=nd.mem_erase_iff.mp hy
   rcases List.mem_cons.mp (h y h2) with z | z
   ·exact absurd z h1
   ·exact z
  have:=List.le_length_erase (a:=w) (l:=ks)
  rw [List.length_cons]
  omega
theorem xF {kvs:List (Key × V)}{k:Key}{v:V}{kv:Key × V}(h:kv ∈ putK kvs k v):kv.1=k\/∃ z ∈ kvs,z.1=kv.1:=by
 unfold putK at h
 split at h
 ·obtain ⟨z,hz,rfl⟩:=List.mem_map.mp h
  by_cases e:z.1=k
  ·exact .inl (by rw [if_pos e]; exact e)
  ·exact .inr ⟨z,hz,by rw [if_neg e]⟩
 ·rcases List.mem_append.mp h with h | h
  ·exact .inr ⟨kv,h,rfl⟩
  ·exact .inl (by rw [List.mem_singleton.mp h])
structure RDV (H:Hp)(D:Addr)(ws ks:List Str)(kvs:List (Key × V)):Prop where
 hd:H D=some (.dK kvs)
 ln:kvs.length<=ks.length
 ky : ∀ kv ∈ kvs,∃ x ∈ ks,kv.1 = .inr x
 at' : ∀ x ∈ ks,∃ (l:Addr) (xs:List Str),valV kvs (.inr x)=some (.ref l)/\H l=some (.lst (xs.map V.str))/\xs.Nodup/\∀ y ∈ xs,y ∈ ws
theorem RDV.keep {H H':Hp}{D:Addr}{ws ks:List Str}{kvs:List (Key × V)}(s:Same H H')(h:RDV H D ws ks kvs):RDV H' D ws ks kvs :=
 ⟨s _ _ h.hd,h.ln,h.ky,fun x hx=>by obtain ⟨l,xs,a,b,c⟩:=h.at' x hx; exact ⟨l,xs,a,s _ _ b,c⟩⟩
theorem RDV.put {H:Hp}{D l:Addr}{ws ks xs:List Str}{x:Str}{kvs:List (Key × V)}(h:RDV H D ws ks kvs)(hl:H l=some (.lst (xs.map V.str)))(nd:xs.Nodup)(sub : ∀ y ∈ xs,y ∈ ws) :
  RDV (upd H D (.dK (putK kvs (.inr x) (.ref l)))) D ws (ks ++ [x]) (putK kvs (.inr x) (.ref l)):=by
 have ne : ∀ {b:Addr} {zs:List V},H b=some (.lst zs)->b ≠ D:=fun {b zs} e z=>by rw [z,h.hd] at e; cases e
 refine ⟨aB,?_,fun kv hk => ?_,fun y hy => ?_⟩
 ·have:=gY kvs (.inr x:Key) (.ref l)
  have:=h.ln
  rw [List.length_append]
  show _<=ks.length+1
  omega
 ·rcases xF hk with e | ⟨z,hz,e⟩
  ·exact ⟨x,List.mem_append_right _ (List.mem_singleton_self _),e⟩
  ·obtain ⟨y,hy,e'⟩:=h.ky z hz
   exact ⟨y,List.mem_append_left _ hy,e ▸ e'⟩
 ·rw [kY]
  by_cases e:(Sum.inr y:Key) = .inr x
  ·rw [if_pos e]
   exact ⟨l,xs,rfl,by rw [aL (ne hl)]; exact hl,nd,sub⟩
  ·rw [if_neg e]
   have hy':y ∈ ks:=by
    rcases List.mem_append.mp hy with h | h
    ·exact h
    ·exact absurd (congrArg _ (List.mem_singleton.mp h)) e
   obtain ⟨l2,xs2,a,b,c⟩:=h.at' y hy'
   exact ⟨l2,xs2,a,by rw [aL (ne b)]; exact b,c⟩
def oO:Sp:=fun vs H Q _=>∃ (b:Addr) (ws:List Str) (us:List V) (rc:List (Str × List Rw)),vs=[.ref b]/\BwV H b ws us rc/\RcS rc/\ws.length<=20/\∀ D ks kvs H',Same H H'->H D=none->RDV H' D ws ks kvs->ks.length<=40->Q (.ref D) H'
section
variable {P:Program}{w:World}{K:PySem.W.Frag}{mg:Str->Option Value}{base:Heap}
abbrev Nrea:List Str:=["_law_book_here","_law_reach_here","_law_name","_law_found","_law_thing"]
theorem ndWF:(["_law_ware","_law_found"]:List Str).Nodup:=by decide +kernel
theorem iL:FnScope Nrea ["_law_book_here"] (aG sReach):=⟨rfl,rfl,rfl,by decide +kernel,rfl,by decide +kernel,by decide +kernel⟩
theorem xZ {f:Addr}{fd:FuncData}(F:Fun K "_law_reach" "_law_reach" sReach f fd)(T:Txt mg)(cB:Cal P w K mg base CX0 3 "_law_below" ["_law_book_here","_law_name"] lC)(cO:Cal P w K mg base CX0 3 "_law_order" ["_law_book_here"] lB):FnOk P w K mg base CX0 4 f fd ["_law_book_here"] oO:=by
 refine F.ok iL (fun vs H Q E h => ?_) (fun cdv A outer s H vs Q E hr h => ?_)
 ·obtain ⟨_,_,_,_,rfl,_⟩:=h
  rfl
 ·obtain ⟨b,ws,us,rc,rfl,bw,rcs,w20,k⟩:=h
  refine ⟨_,(aD (aI (i:=1) iL.nd rfl (Or.inl rfl) lP)
   (aD (bL PassesOwn.never rfl (eJ (pit 0 0)) (aJ (i:=2) iL.nd rfl (Or.inl rfl))
    (aE (iM (fO hr) (pv 1) (pv 2) (bC (aA (pv 2) aC)) rfl)))
   (aD (bL PassesOwn.never rfl (cJ (aH cO hr rfl aQ (aA (pv 0) aC))) (aJ (i:=2) iL.nd rfl (Or.inl rfl))
    (aD (aI (i:=3) iL.nd rfl (Or.inr rfl) (bC aC))
    (aD (bL PassesOwn.never rfl (cJ (aH cB hr rfl aQ (aA (pv 0) (aA (pv 2) aC)))) (aJ (i:=4) iL.nd rfl (Or.inl rfl))
     (aE (bZ (eT PySem.F.plainAttrs_list PySem.F.slot_list_extend PySem.F.type_list_extend eX (pv 3) (aA
      (fJ (N':=["_law_ware","_law_found"]) (fun σ=>[none,some 3].map fun t=>t.bind fun j=>(σ[j]?).join) rfl rfl (by decide +kernel) (by decide +kernel)
       (lT (sc:=aG sReach) rfl (by decide +kernel)) (fun _ _ _=>fR (sc:=aG sReach) (N:=Nrea) [none,some 3] rfl rfl rfl rfl (by decide +kernel))
       (cJ (eK (fO hr) (pv 1) (pv 4) (fun _ _=>rfl))) (fun _ _ _ _ _ _=>aJ (i:=0) ndWF rfl (Or.inl rfl))
       (fun _ _ _ _ _ _=>lO (aK (mY (K:=K) rfl) (pv 0) (pv 1) rfl))
       (fun _ _ _ _ _ _=>pv 0)) aC)))))
    (aE (iM (fO hr) (pv 1) (pv 2) (pv 3) rfl)))))
   (aE (aO (pv 1)))))),?_⟩
  obtain ⟨w',y,g,hb,hw,hg,hu⟩:=id bw
  refine fun D nD => ?_
  have sD:=Same.upd (o:=.dK []) nD
  refine ⟨b,_,_,rfl,SqT.of (sD _ _ hb),rfl,w',rfl,⟨_,SqT.of (sD _ _ hw)⟩,?_⟩
  refine fP (xs:=ws.map V.str) (fun i σ H'=>∃ (v2:Option V) (kvs:List (Key × V)),σ=[some (.ref b),some (.ref D),v2,none,none]/\Same H H'/\RDV H' D ws (ws.take i) kvs) ⟨none,[],rfl,sD,aB,Nat.zero_le _,(fun kv h=>nomatch h),(fun x hx=>by simp at hx)⟩ (fun i σ H' _ ⟨_,_,_,sm,_⟩=>SqT.of (sm _ _ hw)) ?_ ?_
  ·rintro i v σ H1 hv ⟨v2,kvs,rfl,s1,r1⟩
   rw [List.getElem?_map] at hv
   obtain ⟨x,hx,rfl⟩:=Option.map_eq_some_iff.mp hv
   have xw:=List.mem_of_getElem? hx
   have wl:(ws.take i).length<=20:=by rw [List.length_take]; omega
   refine ⟨_,rfl,(by show 1<=sizeLine; decide),fun l nl => ?_⟩
   have sl:=Same.upd (o:=.lst [.str x]) nl
   have r2:=r1.keep sl
   have kl:=r2.ln
   refine ⟨_,rfl,_,rfl,D,_,rfl,DPut.k (k:=.inr x) r2.hd (aX (by omega)),?_⟩
   have e:ws.take (i+1)=ws.take i ++ [x]:=by rw [List.take_add_one,hx]; rfl
   rw [e]
   exact ⟨_,_,rfl,bQ (s1.trans sl) nD,r2.put (xs:=[x]) aB (by simp) (fun y hy=>by rw [List.mem_singleton.mp hy]; exact xw)⟩
  ·rintro σ H1 ⟨v2,kvs,rfl,s1,r1⟩
   rw [List.length_map,List.take_length] at r1
   refine ⟨_,rfl,b,ws,us,rc,rfl,bw.keep s1.tk,rcs,w20,fun xs L H2 s2 nL hL x12 ord _ => ?_⟩
   have r2:=r1.keep s2
   have s02:=s1.trans s2
   have DL:L ≠ D:=fun e=>by rw [e,r1.hd] at nL; cases nL
   refine ⟨L,rfl,⟨_,SqL.of hL⟩,?_⟩
   refine eP (xs:=xs.map V.str) (fun i σ H'=>∃ (v2 v3 v4:Option V) (kvs:List (Key × V)),σ=[some (.ref b),some (.ref D),v2,v3,v4]/\Same H H'/\H' L=some (.lst (xs.map V.str))/\RDV H' D ws (ws ++ xs.take i) kvs) ⟨_,_,_,_,rfl,s02,hL,by simpa using r2⟩ (fun i σ H' _ ⟨_,_,_,_,_,_,h,_⟩=>SqL.of h) ?_ ?_
   ·rintro i v σ H3 hv ⟨v2',v3',v4',kvs3,rfl,s3,hL3,r3⟩
    rw [List.getElem?_map] at hv
    obtain ⟨x,hx,rfl⟩:=Option.map_eq_some_iff.mp hv
    refine ⟨(by show 0<=sizeLine; decide),fun Fd nF => ?_⟩
    have sF:=Same.upd (o:=.lst []) nF
    have s4:=s3.trans sF
    have bl:=gF (x:=x) rcs.rw
    have rcl:=rcs.ln
    refine ⟨_,rfl,_,rfl,b,x,us,rc,rfl,bw.bk.keep s4.tk,rcs.ln,rcs.rw,fun M H5 s5 nM hM => ?_⟩
    have s35:=sF.trans s5
    refine ⟨M,rfl,⟨_,SqL.of hM⟩,?_⟩
    have nF5:H5 Fd=some (.lst []):=s5 _ _ aB
    have FM:Fd ≠ M:=fun e=>by rw [<- e,aB] at nM; cases nM
    refine eP (xs:=(cY rc x).map V.str) (fun j σ H'=>∃ (v4:Option V) (zs:List Str),σ=[some (.ref b),some (.ref D),some (.str x),some (.ref Fd),v4]/\Same H3 H'/\H' M=some (.lst ((cY rc x).map V.str))/\H' Fd=some (.lst (zs.map V.str))/\zs.Nodup/\∀ y ∈ zs,y ∈ ws) ⟨_,[],rfl,s35,hM,nF5,List.nodup_nil,(fun y h=>nomatch h)⟩ (fun i σ H' _ ⟨_,_,_,_,h,_⟩=>SqL.of h) ?_ ?_
    ·rintro j v σ H6 hv ⟨v4'',zs,rfl,s6,hM6,hF6,nd,sub⟩
     rw [List.getElem?_map] at hv
     obtain ⟨t,ht,rfl⟩:=Option.map_eq_some_iff.mp hv
     have tk:t ∈ ws ++ xs.take i:=by
      rcases ord i x hx t (List.mem_of_getElem? ht) with h | h
      ·exact List.mem_append_left _ h
      ·exact List.mem_append_right _ h
     have r6:=r3.keep s6
     obtain ⟨l,ys,gv,hl,ynd,ysub⟩:=r6.at' t tk
     have yl:=fT ynd ysub
     have zl:=fT nd sub
     refine ⟨_,rfl,.inl ⟨rfl,_,SqL.of hF6⟩,_,rfl,_,rfl,D,_,rfl,gv ▸ DGet.k (k:=.inr t) r6.hd,l,rfl,⟨_,SqL.of hl⟩,fun C nC => ?_⟩
     refine kG (Ys.list (SqL.of hl)) (fun v => !inV v (zs.map V.str)) (fun x y _=>y=x) (fun _ _ _ _ h _=>h) nC (by rw [List.length_map]; omega) (fun i' v H' R1 R2 hv' sm q1 q2 => ?_) (fun os H7 s7 hC7 ol ho => ?_)
     ·rw [List.getElem?_map] at hv'
      obtain ⟨u,hu',rfl⟩:=Option.map_eq_some_iff.mp hv'
      refine ⟨(Keep.refl _).set rfl,_,rfl,_,rfl,Fd,_,rfl,.inl (SqL.of (sm _ _ hF6)),rfl,dM _,_,rfl,ite2 (fun h1 => ?_) (fun h1 => ?_)⟩
      ·exact ⟨_,rfl,q1 h1 _ _ (Same.refl _) rfl⟩
      ·exact q2 (by simpa using h1) _ (Same.refl _)
     ·have eo:os=(ys.filter fun u => !inV (.str u) (zs.map V.str)).map V.str:=by
       have e:(ys.map V.str).filter (fun v => !inV v (zs.map V.str))=(ys.filter fun u => !inV (.str u) (zs.map V.str)).map V.str:=by
        rw [List.filter_map]; rfl
       rw [e] at ol ho
       exact gE ol fun i x y hx hy=>(ho i x y hx hy)
      have nd2:(zs ++ ys.filter fun u => !inV (.str u) (zs.map V.str)).Nodup:=by
       refine List.nodup_append.mpr ⟨nd,ynd.filter _,fun a ha b hb e => ?_⟩
       have:=(List.mem_filter.mp hb).2
       rw [<- e,dR.mpr ha] at this
       cases this
      have sub2 : ∀ y ∈ zs ++ ys.filter fun u => !inV (.str u) (zs.map V.str),y ∈ ws:=fun y hy=>by
       rcases List.mem_append.mp hy with h | h
       ·exact sub y h
       ·exact ysub y (List.mem_filter.mp h).1
      have z2:=fT nd2 sub2
      have hF7:=s7 _ _ hF6
      rw [eo] at hC7
      refine ⟨Fd,C,_,_,rfl,rfl,hF7,hC7,?_,?_⟩
      ·rw [List.length_append] at z2
       rw [List.length_map,List.length_map]
       exact Nat.le_of_lt (aX (by omega))
      ·refine ⟨_,_,rfl,bQ (s6.trans s7) nF,by rw [aL FM.symm]; exact s7 _ _ hM6,by rw [aB,List.map_append],nd2,sub2⟩
    ·rintro σ H6 ⟨v4'',zs,rfl,s6,hM6,hF6,nd,sub⟩
     have r6:=r3.keep s6
     have kl:=r6.ln
     have wl:(ws ++ xs.take i).length<=40:=by rw [List.length_append,List.length_take]; omega
     refine ⟨_,rfl,_,rfl,_,rfl,D,_,rfl,DPut.k (k:=.inr x) r6.hd (aX (by omega)),?_⟩
     have e:ws ++ xs.take (i+1)=(ws ++ xs.take i) ++ [x]:=by rw [List.take_add_one,hx,List.append_assoc]; rfl
     rw [e]
     exact ⟨_,_,_,_,rfl,bQ (s3.trans s6) nD,by rw [aL DL]; exact s6 _ _ hL3,r6.put hF6 nd sub⟩
   ·rintro σ H3 ⟨v2',v3',v4',kvs3,rfl,s3,hL3,r3⟩
    rw [List.length_map,List.take_length] at r3
    exact ⟨_,rfl,k D _ _ H3 s3 nD r3 (by rw [List.length_append]; omega)⟩
end
end K25
namespace L2
open PySem PySem.Spec PyProof.Rows
theorem wF {J:It}{xs:List V}{D:Addr}{g:TG}{te:TE}{σ0:St}{QD:Hp->Prop}{H1:Hp}(Y:Ys J xs H1)(hD:H1 D=none)(hl:xs.length<=1000)
  (hs : ∀ (i:Nat) x H' (R:VK),xs[i]?=some x->Same H1 H'->(∀ p,H' p=none->R (.ref p) (upd H' p (.lst [])))->g x σ0 H' fun σ2 H2=>Keep σ0 σ2/\te σ2 H2 R)
  (hd : ∀ (as:List Addr) H',Same H1 H'->H' D=some (.lst (as.map V.ref))->as.length=xs.length->as.Nodup->(∀ a ∈ as,a ≠ D/\H1 a=none/\H' a=some (.lst []))->QD H') :
  ∃ W:Nat->Nat->List V->Hp->Prop,(∃ m,W 0 m [] (upd H1 D (.lst [])))/\∀ i m ys H,W i m ys H->H D=some (.lst ys)/\ys.length < sizeLine /\
   ((J.stop i H/\QD H)\/(J.go i H/\∀ x H',J.yld i H x H'->g x σ0 H' fun σ2 H2=>Keep σ0 σ2/\aA8 σ2 H2 fun b H3 =>
    if b=true then te σ2 H3 fun y H4=>H4 D=some (.lst ys)/\∃ m',m' < m/\W (i+1) m' (ys ++ [y]) (upd H4 D (.lst (ys ++ [y]))) else ∃ m',m' < m/\W (i+1) m' ys H3)):=by
 refine ⟨fun i m ys H=>m=xs.length - i/\i<=xs.length/\Same H1 H/\∃ as:List Addr,ys=as.map V.ref/\H D=some (.lst (as.map V.ref))/\as.length=i/\as.Nodup/\∀ a ∈ as,a ≠ D/\H1 a=none/\H a=some (.lst []),
  ⟨_,rfl,Nat.zero_le _,Same.upd hD,[],rfl,aB,rfl,List.nodup_nil,fun a h=>nomatch h⟩,?_⟩
 rintro i m ys H ⟨rfl,hi,sm,as,rfl,hDH,al,nd,pr⟩
 refine ⟨hDH,aX (by rw [List.length_map]; omega),?_⟩
 by_cases hlt:i < xs.length
 ·refine .inr ⟨Y.go i H sm hlt,fun x H' y => ?_⟩
  obtain ⟨rfl,hx⟩:=Y.yld i H x H' sm hlt y
  refine hs i x H' _ hx sm fun p hp => ?_
  have pD:p ≠ D:=fun e=>by rw [e,hDH] at hp; cases hp
  have hD4:upd H' p (.lst []) D=some (.lst (as.map V.ref)):=by rw [aL (Ne.symm pD)]; exact hDH
  have p1:H1 p=none:=by
   cases e:H1 p with
   | none=>rfl
   | some o=>rw [sm _ _ e] at hp; cases hp
  refine ⟨hD4,xs.length - (i+1),by omega,rfl,hlt,fun b o hb => ?_,as ++ [p],by simp,?_,by rw [List.length_append,al]; rfl,?_,fun a ha => ?_⟩
  ·rw [aL (cH hb hD),aL (cH hb p1)]
   exact sm _ _ hb
  ·rw [aB,List.map_append]; rfl
  ·refine List.nodup_append.mpr ⟨nd,List.nodup_cons.mpr ⟨by simp,List.nodup_nil⟩,fun a ha b hb e => ?_⟩
   rw [e,List.mem_singleton.mp hb] at ha
   rw [(pr p ha).2.2] at hp
   cases hp
  ·rcases List.mem_append.mp ha with h | h
   ·obtain ⟨a1,a2,a3⟩:=pr a h
    refine ⟨a1,a2,?_⟩
    rw [aL a1,aL (fun e=>by rw [e,hp] at a3; cases a3)]
    exact a3
   ·rw [List.mem_singleton.mp h]
    refine ⟨pD,p1,?_⟩
    rw [aL pD]
    exact aB
 ·have e:i=xs.length:=by omega
  subst e
  exact .inl ⟨Y.stop _ H sm (Nat.le_refl _),hd as H sm hDH al nd pr⟩
def tOrT (K:PySem.W.Frag)(ta tb:TE):TE:=fun σ H Q=>ta σ H fun x H1=>∃ k,TruV K x H1 k/\if k=true then Q x H1 else tb σ H1 Q
theorem aEp {X:Cx}{a b:Expr}{rest:List Expr}{pos:Pos}{ta tb:TE}(ha:PE X a ta)(hb:PE X (.BoolOp .Or (b :: rest) pos) tb):PE X (.BoolOp .Or (a :: b :: rest) pos) (tOrT X.K ta tb):=by
 intro pins s σ H Q I h
 refine BoolOp_or (thn (ha pins s σ H _ I h) fun v s1 ⟨x,H1,I1,r1,q1⟩ => ?_)
 obtain ⟨k,tv,q1⟩:=q1
 refine thn (aDh pins s1 σ H1 x v (fun c H2=>if c=true then Q x H2 else tb σ H2 Q) I1 r1 ⟨k,tv,q1⟩) fun c s2 ⟨H2,I2,q2⟩ => ?_
 cases c with
 | false=>exact hb pins s2 σ H2 Q I2 q2
 | true=>exact ⟨x,H2,I2,r1,q2⟩
end L2
namespace K25
open PySem PySem.Spec PyProof.Rows L2 GM TM BQ TR
def Lw (t:Int)(j k:Nat):Prop:=(t=0/\k < j)\/(t=1/\j < k)\/(k*5 % 7 < j*5 % 7/\t ≠ 0/\t ≠ 1)
theorem aAr {xs:List V}{j:Nat}(h:j<=xs.length):cutV xs none (some (j:Int))=xs.take j:=by
 unfold cutV
 rw [HT.sIx_nat,HT.sIx_none,Nat.min_eq_left h]
 rfl
theorem zQ {xs:List V}{j:Nat}(h:j<=xs.length):cutV xs (some (j:Int)) none=xs.drop j:=by
 unfold cutV
 rw [HT.sIx_nat,HT.sIx_none,Nat.min_eq_left h]
 exact List.take_of_length_le (by rw [List.length_drop]; omega)
theorem aFm {xs:List V}{i j:Nat}(h:j<=xs.length)(hi:i<=j):cutV xs (some (i:Int)) (some (j:Int))=(xs.drop i).take (j - i):=by
 unfold cutV
 rw [HT.sIx_nat,HT.sIx_nat,Nat.min_eq_left h,Nat.min_eq_left (by omega)]
def oU:Sp:=fun vs H Q _=>∃ (l:Addr) (rs:List Str) (j:Nat) (t:Int),vs=[.ref l,.int j,.int t]/\H l=some (.lst (rs.map V.str))/\rs.length<=20/\j < rs.length/\∀ (os:List Str) p H',Same H H'->H p=none->H' p=some (.lst (os.map V.str))->os.length<=rs.length->(∀ y ∈ os,∃ k,rs[k]?=some y/\Lw t j k)->Q (.ref p) H'
section
variable {P:Program}{w:World}{K:PySem.W.Frag}{mg:Str->Option Value}{base:Heap}
abbrev Nlow:List Str:=["_law_recipes_here","_law_j","_law_turn"]
theorem ndKJ:(["_law_k","_law_j","_law_recipes_here"]:List Str).Nodup:=by decide +kernel
theorem aBi:FnScope Nlow ["_law_recipes_here","_law_j","_law_turn"] (aG sLower):=⟨rfl,rfl,rfl,by decide +kernel,rfl,by decide +kernel,by decide +kernel⟩
theorem yU {X:Cx}{K:PySem.W.Frag}(h:X.K=K):IxR X (rIxL K):=h ▸ cI
theorem yG {f:Addr}{fd:FuncData}(F:Fun K "_law_lower" "_law_lower" sLower f fd)(T:Txt mg):FnOk P w K mg base CX0 1 f fd ["_law_recipes_here","_law_j","_law_turn"] oU:=by
 refine F.ok aBi (fun vs H Q E h => ?_) (fun cdv A outer s H vs Q E hr h => ?_)
 ·obtain ⟨_,_,_,_,rfl,_⟩:=h
  rfl
 ·obtain ⟨l,rs,j,t,rfl,hl,r20,jr,k⟩:=h
  refine ⟨_,(aD (bF (aK eG (pv 2) aF (aT _))
    (aE (aO (fH lF (pv 0) iN (gA (pv 1)))))
    aU)
   (aD (bF (aK eG (pv 2) aF (aT _))
    (aE (aO (fH lF (pv 0) (gA (aV cX (pv 1) aF)) iN)))
    aU)
   (aE (aO (fJ (N':=["_law_k","_law_j","_law_recipes_here"]) (fun σ=>[none,some 1,some 0].map fun t=>t.bind fun j=>(σ[j]?).join) rfl rfl (by decide +kernel) (by decide +kernel)
       (lT (sc:=aG sLower) rfl (by decide +kernel)) (fun _ _ _=>fR (sc:=aG sLower) (N:=Nlow) [none,some 1,some 0] rfl rfl rfl rfl (by decide +kernel))
       (eF rfl T.range (aA (aS aW rfl T.len PySem.boot_len (aA (pv 0) aC)) aC)) (fun _ _ _ _ _ _=>aJ (i:=0) ndKJ rfl (Or.inl rfl))
       (fun _ _ _ _ _ _=>lO (aK jX (aV eV (aV aAh (pv 0) aF) aF) (aV eV (aV aAh (pv 1) aF) aF) (aT _)))
       (fun _ _ _ _ _ _=>dG (yU (K:=K) rfl) (pv 2) (pv 0) (fun _ _=>rfl))))))),?_⟩
  have sub : ∀ (a b:Nat) (y:Str),y ∈ (rs.drop a).take b->∃ i,rs[i]?=some y/\a<=i/\i < a+b:=fun a b y hy=>by
   obtain ⟨i,hi⟩:=List.getElem?_of_mem hy
   by_cases c:i < b
   ·rw [List.getElem?_take_of_lt c,List.getElem?_drop] at hi
    exact ⟨a+i,hi,by omega,by omega⟩
   ·rw [List.getElem?_eq_none (by rw [List.length_take]; omega)] at hi
    cases hi
  refine ⟨_,rfl,rfl,_,rfl,ite2 (fun h0 => ?_) (fun h0 => ?_)⟩
  ·have e0:t=0:=by simpa using h0
   refine ⟨_,rfl,_,rfl,_,rfl,l,_,rfl,SqL.of hl,fun p np => ?_⟩
   rw [aAr (by rw [List.length_map]; omega),<- List.map_take]
   refine k (rs.take j) p _ (Same.upd np) np aB (by rw [List.length_take]; omega) fun y hy => ?_
   obtain ⟨i,hi,_,h2⟩:=sub 0 j y hy
   exact ⟨i,hi,.inl ⟨e0,by omega⟩⟩
  have n0:t ≠ 0:=by simpa using h0
  refine ⟨_,rfl,rfl,_,rfl,ite2 (fun h1 => ?_) (fun h1 => ?_)⟩
  ·have e1:t=1:=by simpa using h1
   refine ⟨_,rfl,_,rfl,_,_,rfl,rfl,_,rfl,l,_,rfl,SqL.of hl,fun p np => ?_⟩
   have ec:((j:Int)+1)=((j+1:Nat):Int):=rfl
   rw [ec,zQ (by rw [List.length_map]; omega),<- List.map_drop]
   refine k (rs.drop (j+1)) p _ (Same.upd np) np aB (by rw [List.length_drop]; omega) fun y hy => ?_
   rw [<- List.take_length (l:=rs.drop (j+1))] at hy
   obtain ⟨i,hi,h2,_⟩:=sub _ _ y hy
   exact ⟨i,hi,.inr (.inl ⟨e1,by omega⟩)⟩
  have n1:t ≠ 1:=by simpa using h1
  refine ⟨_,rfl,l,_,rfl,.inl (SqL.of hl),_,rfl,by rw [List.length_map]; omega,by rw [List.length_map]; omega,fun D nD => ?_⟩
  rw [List.length_map,Int.toNat_natCast]
  refine kG Ys.rng (fun v=>match v with | .int i=>decide (i*5 % 7 < (j:Int)*5 % 7) | _=>false) (fun x y _=>∃ (i:Nat) (z:Str),x = .int (0+(i:Int))/\rs[i]?=some z/\y = .str z) (fun _ _ _ _ h _=>h) nD (by rw [gL]; omega) (fun i v H' R1 R2 hv sm q1 q2 => ?_) (fun ys H1 s1 hD1 yl hy => ?_)
  ·obtain ⟨hi,rfl⟩:=xE hv
   obtain ⟨z,hz⟩ : ∃ z,rs[i]?=some z:=⟨_,List.getElem?_eq_getElem hi⟩
   refine ⟨(Keep.refl _).set rfl,_,rfl,_,_,rfl,rfl,.inr ⟨by decide,by decide⟩,_,_,rfl,rfl,(by show (0:Int) < 7; decide),_,rfl,_,_,rfl,rfl,.inr ⟨by decide,by decide⟩,_,_,rfl,rfl,(by show (0:Int) < 7; decide),_,_,rfl,rfl,_,rfl,ite2 (fun h2 => ?_) (fun h2 => ?_)⟩
   ·refine ⟨_,rfl,_,rfl,l,_,(0+(i:Int)),.str z,rfl,rfl,SqL.of (sm _ _ hl),?_,q1 h2 _ _ (Same.refl _) ⟨i,z,rfl,hz,rfl⟩⟩
    rw [Int.zero_add]
    exact bG (by rw [List.getElem?_map,hz]; rfl)
   ·exact q2 (by simpa using h2) _ (Same.refl _)
  ·have all : ∀ y ∈ ys,∃ (i:Nat) (z:Str),i*5 % 7 < j*5 % 7/\rs[i]?=some z/\y = .str z:=fun y hy'=>by
    obtain ⟨a,ha⟩:=List.getElem?_of_mem hy'
    have al:a < ys.length:=(List.getElem?_eq_some_iff.mp ha).1
    rw [yl] at al
    have hx:=List.getElem?_eq_getElem al
    obtain ⟨i,z,e1,e2,e3⟩:=hy a _ _ hx ha
    have q:=(List.mem_filter.mp (List.mem_of_getElem? hx)).2
    rw [e1] at q
    have q':(0+(i:Int))*5 % 7 < (j:Int)*5 % 7:=of_decide_eq_true q
    rw [Int.zero_add] at q'
    exact ⟨i,z,by exact_mod_cast q',e2,e3⟩
   obtain ⟨os,eo,ho⟩ : ∃ os:List Str,ys=os.map V.str/\∀ y ∈ os,∃ k,rs[k]?=some y/\Lw t j k:=by
    clear yl hy hD1
    induction ys with
    | nil=>exact ⟨[],rfl,fun y h=>nomatch h⟩
    | cons y r ih =>
     obtain ⟨os,e,h⟩:=ih fun y hy=>all y (List.mem_cons_of_mem _ hy)
     obtain ⟨i,z,a1,a2,rfl⟩:=all y (List.mem_cons_self ..)
     refine ⟨z :: os,by rw [e]; rfl,fun y hy => ?_⟩
     rcases List.mem_cons.mp hy with rfl | hy
     ·exact ⟨i,a2,.inr (.inr ⟨a1,n0,n1⟩)⟩
     ·exact h y hy
   rw [eo] at hD1
   refine k os D H1 s1 nD hD1 ?_ ho
   have:=List.length_filter_le (fun v=>match v with | V.int i=>decide (i*5 % 7 < (j:Int)*5 % 7) | _=>false) (rngV 0 rs.length)
   rw [gL] at this
   rw [eo,List.length_map] at yl
   omega
end
def Tg (ws rs:List Str)(t:Int)(j:Nat)(y:Str):Prop:=y ∈ ws\/∃ k,rs[k]?=some y/\Lw t j k
structure RsOk (ws rs:List Str)(t:Int)(j:Nat)(rr:List Rw):Prop where
 ok : ∃ ps l,Rs rr ps l
 ln:rr.length<=6
 tg : ∀ r ∈ rr,∀ y ∈ thg r,Tg ws rs t j y
 th : ∀ r ∈ rr,(thg r).length<=10
def RIn (H:Hp)(ws rs:List Str)(t:Int)(j:Nat)(a:Addr):Prop:=∃ us rr,H a=some (.lst us)/\L2R (RowV H) us rr/\RsOk ws rs t j rr
structure RW (H:Hp)(R:Addr)(as:List Addr)(ws rs:List Str)(t:Int):Prop where
 hd:H R=some (.lst (as.map V.ref))
 at' : ∀ (j:Nat) a,as[j]?=some a->RIn H ws rs t j a
structure RcW (ws rs:List Str)(t:Int)(rc:List (Str × List Rw)):Prop where
 nm:rc.map (·.1)=rs
 rw : ∀ (j:Nat) p,rc[j]?=some p->1<=p.2.length/\RsOk ws rs t j p.2
theorem RW.keep {H H':Hp}{R:Addr}{as:List Addr}{ws rs:List Str}{t:Int}(s:Same H H')(h:RW H R as ws rs t):RW H' R as ws rs t :=
 ⟨s _ _ h.hd,fun j a ha=>by
  obtain ⟨us,rr,e,l,o⟩:=h.at' j a ha
  exact ⟨us,rr,s _ _ e,l.imp fun _ _ x=>x.keep s.tk,o⟩⟩
theorem aA5 {l:BQ.Q}{r:Rw}(h:ROk l r):(thg r).length<=10:=by
 cases r with
 | take a x=>exact (by decide:1<=10)
 | to n x=>exact (by decide:1<=10)
 | fill a x=>exact (by decide:1<=10)
 | parts a ps =>
  have:(thg (.parts a ps)).length=ps.length:=List.length_map ..
  have:ps.length<=4:=h.2.2.1
  omega
theorem RsOk.nil {ws rs:List Str}{t:Int}{j:Nat}:RsOk ws rs t j []:=⟨⟨_,_,.nil⟩,Nat.zero_le _,(fun r h=>nomatch h),(fun r h=>nomatch h)⟩
theorem RsOk.snoc {ws rs:List Str}{t:Int}{j:Nat}{rr:List Rw}{ps:List Pu}{l:BQ.Q}{r:Rw}(h:RsOk ws rs t j rr)(k:Rs rr ps l)(ok:ROk l r)(n:rr.length < 5)(tg : ∀ y ∈ thg r,Tg ws rs t j y):RsOk ws rs t j (rr ++ [r]):=by
 refine ⟨⟨_,_,k.snoc ok⟩,by rw [List.length_append]; show rr.length+1<=6; omega,fun r' hr => ?_,fun r' hr => ?_⟩
 ·rcases List.mem_append.mp hr with h' | h'
  ·exact h.tg r' h'
  ·rw [List.mem_singleton.mp h']; exact tg
 ·rcases List.mem_append.mp hr with h' | h'
  ·exact h.th r' h'
  ·rw [List.mem_singleton.mp h']; exact aA5 ok
theorem RW.app {H:Hp}{R:Addr}{as:List Addr}{ws rs:List Str}{t:Int}{j:Nat}{a:Addr}{us:List V}{rr:List Rw}{v:V}{r:Rw}(h:RW H R as ws rs t)(ha:as[j]?=some a)(aR:a ≠ R)(nd:as.Nodup)(hA:H a=some (.lst us))(hu:L2R (RowV H) us rr)(hv:RowV H v r)(ok:RsOk ws rs t j (rr ++ [r])) :
  RW (upd H a (.lst (us ++ [v]))) R as ws rs t:=by
 have tk:Tk H (upd H a (.lst (us ++ [v]))):=Tk.lst hA
 refine ⟨by rw [aL (Ne.symm aR)]; exact h.hd,fun i b hb => ?_⟩
 by_cases e:i=j
 ·subst e
  rw [ha] at hb
  cases hb
  exact ⟨us ++ [v],rr ++ [r],aB,(hu.imp fun _ _ x=>x.keep tk).snoc (hv.keep tk),ok⟩
 ·obtain ⟨us',rr',e',l,o⟩:=h.at' i b hb
  have ba:b ≠ a:=fun z=>by
   subst z
   have hi:=(List.getElem?_eq_some_iff.mp hb).1
   have hj:=(List.getElem?_eq_some_iff.mp ha).1
   have q:=List.pairwise_iff_getElem.mp nd
   have eq:as[i]=as[j]:=by rw [(List.getElem?_eq_some_iff.mp hb).2,(List.getElem?_eq_some_iff.mp ha).2]
   rcases Nat.lt_or_gt_of_ne e with lt | lt
   ·exact q i j hi hj lt eq
   ·exact q j i hj hi lt eq.symm
  exact ⟨us',rr',by rw [aL ba]; exact e',l.imp fun _ _ x=>x.keep tk,o⟩
theorem sm11:Sm (1,1):=⟨⟨by decide,by decide,by decide⟩,by decide,bP 31 (c:=2) (by decide) (by decide),bP 31 (c:=2) (by decide) (by decide)⟩
def jO (K:PySem.W.Frag):Sp:=fun vs H Q _=>∃ (sc wa ra:Addr) (ns:List Int) (ws rs:List Str) (t:Int),vs=[.ref sc,.ref wa,.ref ra,.int t]/\SqL K H sc (ns.map V.int)/\H wa=some (.lst (ws.map V.str))/\H ra=some (.lst (rs.map V.str))/\1<=ws.length/\ws.length<=8/\1<=rs.length/\rs.length<=8 /\
 ∀ f us rc H',Same H H'->H' f=some (.tup us)->L2R (RecV H') us rc->RcW ws rs t rc->Q (.ref f) H'
section
variable {P:Program}{w:World}{K:PySem.W.Frag}{mg:Str->Option Value}{base:Heap}
theorem ndNm:(["_law_name"]:List Str).Nodup:=by decide +kernel
theorem dL:FnScope ["_law_script","_law_wares","_law_recipes_here","_law_turn","_law_rows","_law_at","_law_left_here","_law_j","_law_allowed","_law_lies","_law_found","_law_name","_law_some"] ["_law_script","_law_wares","_law_recipes_here","_law_turn"] (aG sRecipes):=⟨rfl,rfl,rfl,by decide +kernel,rfl,by decide +kernel,by decide +kernel⟩
theorem rQ {f:Addr}{fd:FuncData}(F:Fun K "_law_recipes" "_law_recipes" sRecipes f fd)(T:Txt mg)(cL:Cal P w K mg base CX0 5 "_law_left" ["_law_script","_law_k"] (mM K))(cN:Cal P w K mg base CX0 5 "_law_next" ["_law_left_here","_law_many"] gR)(cW:Cal P w K mg base CX0 5 "_law_lower" ["_law_recipes_here","_law_j","_law_turn"] oU)(cR:Cal P w K mg base CX0 5 "_law_raw" ["_law_rows"] (tM K))(cO:Cal P w K mg base CX0 5 "_law_row" ["_law_left_here","_law_at","_law_allowed","_law_lies"] (aBb K)):FnOk P w K mg base CX0 6 f fd ["_law_script","_law_wares","_law_recipes_here","_law_turn"] (jO K):=by
 refine F.ok dL (fun vs H Q E h => ?_) (fun cdv A outer s H vs Q E hr h => ?_)
 ·obtain ⟨_,_,_,_,_,_,_,rfl,_⟩:=h
  rfl
 ·obtain ⟨sc,wa,ra,ns,ws,rs,t,rfl,hS,hw,hra,w1,w8,r1,r8,k⟩:=h
  refine ⟨_,(aD (uG (iy:=4) (N':=["_law_name"]) (cl:=[]) (g:=dA 0) (fun _=>[none]) rfl rfl (by decide +kernel) (by decide +kernel) (eA (by decide +kernel)) (fun _ _=>eM)
    (cJ (pv 2)) (fun _ _ _ _ _=>aJ (i:=0) ndNm rfl (Or.inl rfl) (Or.inr rfl)) (fun _ _ _ _ _=>dF) (fun _ _ _ _ _=>bC aC) dL.nd rfl (Or.inl rfl) (Or.inr rfl) rfl)
   (aD (bL PassesOwn.never rfl (mV rfl T.range (aA aF (aA (aS (nY rfl) rfl T.min' boot_min (aA (aS aW rfl T.len PySem.boot_len (aA (pv 0) aC)) (aA aF aC))) aC))) (aJ (i:=5) dL.nd rfl (Or.inl rfl))
    (aD (aI (i:=6) dL.nd rfl (Or.inl rfl) (aH cL hr rfl aQ (aA (pv 0) (aA (pv 5) aC))))
    (aD (aI (i:=7) dL.nd rfl (Or.inl rfl) (aH cN hr rfl aQ (aA (pv 6) (aA (aS aW rfl T.len PySem.boot_len (aA (pv 2) aC)) aC))))
    (aE (bF (aK jX (aS aW rfl T.len PySem.boot_len (aA (dG cI (pv 4) (pv 7) (fun _ _=>rfl)) aC)) aF (aT _))
     (aD (aI (i:=8) dL.nd rfl (Or.inl rfl) (aV qK (pv 1) (aH cW hr rfl aQ (aA (pv 2) (aA (pv 7) (aA (pv 3) aC))))))
     (aD (aI (i:=9) dL.nd rfl (Or.inl rfl) (dG fU (aH cR hr rfl aQ (aA (dG cI (pv 4) (pv 7) (fun _ _=>rfl)) aC)) aF (fun _ _=>rfl)))
     (aE (bZ (eT PySem.F.plainAttrs_list PySem.F.slot_list_append PySem.F.type_list_append bY (dG cI (pv 4) (pv 7) (fun _ _=>rfl)) (aA (aH cO hr rfl aQ (aA (pv 6) (aA (pv 5) (aA (pv 8) (aA (pv 9) aC))))) aC))))))
     aU)))))
   (aD (aI (i:=10) dL.nd rfl (Or.inl rfl) (bC aC))
   (aD (bL PassesOwn.never rfl (aBw rfl T.zip' (aA (pv 2) (aA (pv 4) aC))) (dH rfl (aP (aJ (i:=11) dL.nd rfl (Or.inl rfl)) (aP (aJ (i:=12) dL.nd rfl (Or.inl rfl)) bW)))
    (aE (bZ (eT PySem.F.plainAttrs_list PySem.F.slot_list_append PySem.F.type_list_append bY (pv 10) (aA (aY (aA (pv 11) (aA (bJ cU rfl T.tup' eD (aA (aEp (pv 12) (mW (bC (aA (aY (aA bX (aA (aY (aA aF (aA aF aC))) (aA (dG cI (pv 1) aF (fun _ _=>rfl)) aC)))) aC)))) aC)) aC))) aC)))))
   (aE (aO (bJ cU rfl T.tup' eD (aA (pv 10) aC)))))))),?_⟩
  refine ⟨_,rfl,ra,rfl,⟨_,SqL.of hra⟩,fun R nR => ?_⟩
  refine wF (Ys.list (SqL.of hra)) nR (by rw [List.length_map]; omega) (fun i x H' VR hx sm hV=>⟨(Keep.refl _).set rfl,(by show 0<=sizeLine; decide),fun p hp=>hV p hp⟩) (fun as H0 s0 hR0 al nd pr => ?_)
  rw [List.length_map] at al
  have asR : ∀ a ∈ as,a ≠ R:=fun a ha=>(pr a ha).1
  have asN : ∀ a ∈ as,H a=none:=fun a ha=>(pr a ha).2.1
  have rw0:RW H0 R as ws rs t:=⟨hR0,fun j a ha=>⟨[],[],(pr a (List.mem_of_getElem? ha)).2.2,L2R.nil,RsOk.nil⟩⟩
  refine ⟨_,rfl,sc,_,rfl,.inl (s0.seq hS),_,_,rfl,2,_,rfl,⟨by decide,by decide,by split <;> omega,by split <;> omega⟩,?_⟩
  refine dU (fun i σ H'=>∃ v5 v6 v7 v8 v9:Option V,σ=[some (.ref sc),some (.ref wa),some (.ref ra),some (.int t),some (.ref R),v5,v6,v7,v8,v9,none,none,none]/\Same H H'/\RW H' R as ws rs t) ⟨none,none,none,none,none,rfl,s0,rw0⟩ ?_ ?_
  ·rintro i σ H1 hi ⟨v5,v6,v7,v8,v9,rfl,s1,rw1⟩
   refine ⟨_,rfl,_,rfl,sc,ns,_,rfl,s1.seq hS,by omega,by split at hi <;> omega,fun p H2 s2 np lf2 => ?_⟩
   refine ⟨_,rfl,_,rfl,ra,_,rfl,.inl (SqL.of ((s1.trans s2) _ _ hra)),p,_,rfl,lf2,by rw [List.length_map]; omega,by rw [List.length_map]; exact bl9 (bP 8 (c:=256) (by omega) (by omega):Bt 8 ((rs.length:Nat):Int)),fun d H3 d0 dl s3 lf3 => ?_⟩
   rw [List.length_map] at dl
   obtain ⟨dn,rfl⟩:=Int.eq_ofNat_of_zero_le d0
   obtain ⟨a,ha⟩ : ∃ a,as[dn]?=some a:=⟨_,List.getElem?_eq_getElem (by omega)⟩
   have s13:Same H1 H3:=((SmB.of s2).trans s3).same np
   have s03:=s1.trans s13
   have rw3:=rw1.keep s13
   obtain ⟨us,rr,hA,hu,ok⟩:=rw3.at' dn a ha
   have aM:=List.mem_of_getElem? ha
   have ul:=hu.len
   have hAt:atI (as.map V.ref) (dn:Int)=some (.ref a):=bG (by rw [List.getElem?_map,ha]; rfl)
   refine ⟨_,rfl,_,rfl,R,_,(dn:Int),.ref a,rfl,rfl,SqL.of rw3.hd,hAt,a,_,rfl,.inl (SqL.of hA),_,_,rfl,rfl,_,rfl,ite2 (fun hlt => ?_) (fun _ => ?_)⟩
   rotate_left
   ·exact ⟨_,_,_,_,_,rfl,s03,rw3⟩
   have l5:us.length < 5:=by
    have:((us.length:Nat):Int) < 5:=of_decide_eq_true hlt
    omega
   refine ⟨_,rfl,_,rfl,_,rfl,_,rfl,ra,rs,dn,t,rfl,s03 _ _ hra,by omega,by omega,fun os q H4 s4 nq hq ol ho => ?_⟩
   have s04:=s03.trans s4
   refine ⟨wa,q,_,_,rfl,rfl,s04 _ _ hw,hq,by rw [List.length_map,List.length_map]; exact mI (by omega),fun al' nal => ?_⟩
   have sal:=Same.upd (o:=.lst (ws.map V.str ++ os.map V.str)) nal
   have hal:upd H4 al' (.lst (ws.map V.str ++ os.map V.str)) al'=some (.lst ((ws ++ os).map V.str)):=by rw [aB,List.map_append]
   generalize upd H4 al' (.lst (ws.map V.str ++ os.map V.str))=H5 at sal hal ⊢
   have s35:=s4.trans sal
   have s05:=s03.trans s35
   have rw5:=rw3.keep s35
   obtain ⟨ps,l,hrs⟩:=ok.ok
   have hu5:=hu.imp fun _ _ x=>RowV.keep s35.tk x
   have A5:=s35 _ _ hA
   refine ⟨_,rfl,_,rfl,R,_,(dn:Int),.ref a,rfl,rfl,SqL.of rw5.hd,hAt,a,us,rr,ps,l,rfl,.inl (SqL.of A5),hu5,hrs,ok.ln,fun t' g m fs H6 s6 ht' ng hg hfs hm => ?_⟩
   have s36:=s35.trans s6
   have s06:=s03.trans s36
   have rw6:=rw3.keep s36
   have A6:=s36 _ _ hA
   have hu6:=hu.imp fun _ _ x=>RowV.keep s36.tk x
   have lf6:=lf3.keep s36
   refine ⟨t',_,1,.ref m,rfl,rfl,SqT.of ht',rfl,?_⟩
   have alp:al' ≠ p:=fun e=>by
    have:=lf3.keep s4
    rw [<- e] at this
    obtain ⟨_,_,z,_⟩:=this
    rw [z] at nal
    cases nal
   have sz:=hrs.sz ok.ln
   refine ⟨_,rfl,_,rfl,R,_,(dn:Int),.ref a,rfl,rfl,SqL.of rw6.hd,hAt,.inl ⟨rfl,_,SqL.of A6⟩,_,rfl,_,rfl,_,rfl,_,rfl,p,al',m,_,ws ++ os,l,rfl,lf6,⟨s6 _ _ hal,by rw [List.length_append]; omega,by rw [List.length_append]; omega⟩,alp,hm,sz.1,sz.2.1,sz.2.2.1,fun rw' r H7 rok rin s7 lf7 hrow => ?_⟩
   have s17:Same H1 H7:=((SmB.of s2).trans (s3.trans ((SmB.of s36).trans s7))).same np
   have rw7:=rw1.keep s17
   have pa:a ≠ p:=fun e=>by
    obtain ⟨_,_,z,_⟩:=rw1.at' dn a ha
    rw [e,np] at z
    cases z
   have A7:=s7 _ _ pa A6
   have tk7:=kL s7 lf6
   refine ⟨a,_,_,rfl,rfl,A7,aX (by omega),?_⟩
   refine ⟨_,_,_,_,_,rfl,bQ (s1.trans s17) (asN a aM),rw7.app ha (asR a aM) nd A7 (hu6.imp fun _ _ x=>RowV.keep tk7 x) hrow (ok.snoc hrs rok (by omega) fun y hy => ?_)⟩
   rcases List.mem_append.mp (rin y hy) with h | h
   ·exact .inl h
   ·exact .inr (ho y h)
  ·rintro σ H1 ⟨v5,v6,v7,v8,v9,rfl,s1,rw1⟩
   refine ⟨(by show 0<=sizeLine; decide),fun Fd nF => ?_⟩
   have sF:=Same.upd (o:=.lst []) nF
   have s2:=s1.trans sF
   have nF0:=bH s1 nF
   have rw2:=rw1.keep sF
   refine ⟨_,rfl,_,rfl,ra,R,rfl,⟨_,SqL.of (s2 _ _ hra)⟩,⟨_,SqL.of rw2.hd⟩,?_⟩
   refine zG (xs:=rs.map V.str) (ys:=as.map V.ref) (fun i σ H'=>∃ (v11 v12:Option V) (vs:List V) (rc:List (Str × List Rw)),σ=[some (.ref sc),some (.ref wa),some (.ref ra),some (.int t),some (.ref R),v5,v6,v7,v8,v9,some (.ref Fd),v11,v12]/\Same H H'/\Same H1 H'/\H' Fd=some (.lst vs)/\L2R (RecV H') vs rc/\rc.map (·.1)=rs.take i/\∀ (j:Nat) p,rc[j]?=some p->1<=p.2.length/\RsOk ws rs t j p.2) ⟨none,none,[],[],rfl,s2,sF,aB,L2R.nil,rfl,fun j p h=>by simp at h⟩ (fun i σ H' _ ⟨_,_,_,_,_,sm,sm1,_⟩=>⟨SqL.of (sm _ _ hra),SqL.of (sm1 _ _ rw1.hd)⟩) (by rw [List.length_map,List.length_map,al]) ?_ ?_
   ·rintro i x y T' σ H3 hx' hy' nT ⟨v11,v12,vs,rc,rfl,s3,s13,hF3,hu3,nm3,ok3⟩
    rw [List.getElem?_map] at hx' hy'
    obtain ⟨x,hx,rfl⟩:=Option.map_eq_some_iff.mp hx'
    obtain ⟨a,ha,rfl⟩:=Option.map_eq_some_iff.mp hy'
    have sT:=Same.upd (o:=.tup [.str x,.ref a]) nT
    refine ⟨T',_,rfl,SqT.of aB,rfl,_,_,rfl,_,_,rfl,rfl,?_⟩
    generalize upd H3 T' (.tup [.str x,.ref a])=H4 at sT ⊢
    have s4:=s3.trans sT
    have hF4:=sT _ _ hF3
    have rw4:=(rw1.keep s13).keep sT
    obtain ⟨us,rr,hA,hu,ok⟩:=rw4.at' i a ha
    have xi:i < rs.length:=(List.getElem?_eq_some_iff.mp hx).1
    have rl:rc.length=i:=by
     have:=congrArg List.length nm3
     rw [List.length_map,List.length_take] at this
     omega
    have fin : ∀ (q:Addr) (us':List V) (rr':List Rw) (H5:Hp),Same H4 H5->H5 q=some (.tup us')->L2R (RowV H5) us' rr'->RsOk ws rs t i rr'->1<=rr'.length->∀ (z:Addr),H5 z=none ->
      ∃ (v11 v12:Option V) (vs':List V) (rc':List (Str × List Rw)),[some (.ref sc),some (.ref wa),some (.ref ra),some (.int t),some (.ref R),v5,v6,v7,v8,v9,some (.ref Fd),some (V.str x),some (.ref a)]=[some (.ref sc),some (.ref wa),some (.ref ra),some (.int t),some (.ref R),v5,v6,v7,v8,v9,some (.ref Fd),v11,v12]/\Same H (upd (upd H5 z (.tup [.str x,.ref q])) Fd (.lst (vs ++ [.ref z])))/\Same H1 (upd (upd H5 z (.tup [.str x,.ref q])) Fd (.lst (vs ++ [.ref z])))/\(upd (upd H5 z (.tup [.str x,.ref q])) Fd (.lst (vs ++ [.ref z]))) Fd=some (.lst vs')/\L2R (RecV (upd (upd H5 z (.tup [.str x,.ref q])) Fd (.lst (vs ++ [.ref z])))) vs' rc'/\rc'.map (·.1)=rs.take (i+1)/\∀ (j:Nat) p,rc'[j]?=some p->1<=p.2.length/\RsOk ws rs t j p.2:=by
     intro q us' rr' H5 s5 hq hu5 ok5 l5 z nz
     have sz:=Same.upd (o:=.tup [.str x,.ref q]) nz
     have hF5:=sz _ _ (s5 _ _ hF4)
     have tk:Tk (upd H5 z (.tup [.str x,.ref q])) (upd (upd H5 z (.tup [.str x,.ref q])) Fd (.lst (vs ++ [.ref z]))):=Tk.lst hF5
     refine ⟨_,_,vs ++ [.ref z],rc ++ [(x,rr')],rfl,bQ (s4.trans (s5.trans sz)) nF0,bQ (s13.trans (sT.trans (s5.trans sz))) nF,aB,(hu3.imp fun _ _ x=>RecV.keep (((sT.trans s5).trans sz).tk.trans tk) x).snoc ⟨z,q,us',rfl,tk _ _ aB,tk _ _ (sz _ _ hq),hu5.imp fun _ _ x=>RowV.keep (sz.tk.trans tk) x⟩,?_,fun j p hp => ?_⟩
     ·rw [List.map_append,nm3,List.take_add_one,hx]; rfl
     ·rcases eB hp with ⟨_,h⟩ | ⟨e,rfl⟩
      ·exact ok3 j p h
      ·rw [e,rl]
       exact ⟨l5,ok5⟩
    have vl:vs.length=i:=by rw [hu3.len,rl]
    refine ⟨_,rfl,.inl ⟨rfl,_,SqL.of hF4⟩,_,rfl,_,rfl,!us.isEmpty,.inl ⟨us,SqL.of hA,rfl⟩,ite2 (fun hne => ?_) (fun hne => ?_)⟩
    ·refine ⟨a,us,rfl,.inl ⟨SqL.of hA,fun q nq=>⟨(by show 2<=sizeLine; decide),fun z nz => ?_⟩⟩⟩
     have sq:=Same.upd (o:=.tup us) nq
     refine ⟨Fd,_,_,rfl,rfl,(Same.upd nz) _ _ (sq _ _ hF4),aX (by omega),?_⟩
     refine fin q us rr _ sq aB (hu.imp fun _ _ x=>RowV.keep sq.tk x) ok ?_ z nz
     rw [<- hu.len]
     cases us with
     | nil=>exact Bool.noConfusion hne
     | cons=>exact Nat.succ_le_succ (Nat.zero_le _)
    ·obtain ⟨w0,hw0⟩ : ∃ w0,ws[0]?=some w0:=⟨_,List.getElem?_eq_getElem (by omega)⟩
     refine ⟨(by show 2<=sizeLine; decide),fun m nm => ?_⟩
     have sm:=Same.upd (o:=.tup [.int 1,.int 1]) nm
     refine ⟨_,rfl,wa,_,0,.str w0,rfl,rfl,SqL.of ((s4.trans sm) _ _ hw),?_,(by show 3<=sizeLine; decide),fun r nr => ?_⟩
     ·exact bG (j:=0) (by rw [List.getElem?_map,hw0]; rfl)
     have sr:=Same.upd (o:=.tup [.str "take",.ref m,.str w0]) nr
     refine ⟨(by show 1<=sizeLine; decide),fun o no => ?_⟩
     have so:=Same.upd (o:=.lst [.ref r]) no
     refine ⟨o,_,rfl,.inl ⟨SqL.of aB,fun q nq=>⟨(by show 2<=sizeLine; decide),fun z nz => ?_⟩⟩⟩
     have sq:=Same.upd (o:=.tup [.ref r]) nq
     have s45:=(sm.trans sr).trans (so.trans sq)
     refine ⟨Fd,_,_,rfl,rfl,(Same.upd nz) _ _ (s45 _ _ hF4),aX (by omega),?_⟩
     refine fin q [.ref r] [.take (1,1) w0] _ s45 aB (L2R.one (.take ((so.trans sq) _ _ aB) ((sr.trans (so.trans sq)) _ _ aB))) ?_ (Nat.le_refl _) z nz
     have:=(RsOk.nil (ws:=ws) (rs:=rs) (t:=t) (j:=i)).snoc .nil (r:=.take (1,1) w0) sm11 (by show 0 < 5; decide) fun y hy=>.inl (by rw [List.mem_singleton.mp hy]; exact List.mem_of_getElem? hw0)
     exact this
   ·rintro σ H3 ⟨v11,v12,vs,rc,rfl,s3,s13,hF3,hu3,nm3,ok3⟩
    rw [List.length_map,List.take_length] at nm3
    refine ⟨_,rfl,Fd,vs,rfl,.inl ⟨SqL.of hF3,fun q nq => ?_⟩⟩
    have sq:=Same.upd (o:=.tup vs) nq
    exact k q vs rc _ (s3.trans sq) aB (hu3.imp fun _ _ x=>RecV.keep sq.tk x) ⟨nm3,ok3⟩
end
theorem RcW.len {ws rs:List Str}{t:Int}{rc:List (Str × List Rw)}(h:RcW ws rs t rc):rc.length=rs.length:=by
 have:=congrArg List.length h.nm
 rw [List.length_map] at this
 exact this
theorem RcW.rcs {ws rs:List Str}{t:Int}{rc:List (Str × List Rw)}(h:RcW ws rs t rc)(n:rs.length<=12):RcS rc:=by
 refine ⟨by rw [h.len]; exact n,fun p hp => ?_⟩
 obtain ⟨j,hj⟩:=List.getElem?_of_mem hp
 have:=(h.rw j p hj).2
 exact ⟨by have:=this.ln; omega,this.th⟩
structure BkS (ws rs:List Str)(t:Int)(rc:List (Str × List Rw)):Prop where
 rw:RcW ws rs t rc
 nd:(ws ++ rs).Nodup
 w1:1<=ws.length
 w6:ws.length<=6
 r1:1<=rs.length
 r6:rs.length<=6
 wr : ∀ x ∈ ws ++ rs,Wr x
 t0:0<=t
 t3:t < 3
theorem aE6 {ns:List Str}{i j:Nat}(h:ns.Nodup)(hi:i<=6):(ns.take i ++ (ns.drop 6).take j).Nodup:=by
 have e:ns.take 6 ++ ns.drop 6=ns:=List.take_append_drop ..
 have a:List.Sublist (ns.take i) (ns.take 6):=by
  have:ns.take i=(ns.take 6).take i:=by rw [List.take_take,Nat.min_eq_left hi]
  rw [this]
  exact List.take_sublist ..
 have b:List.Sublist ((ns.drop 6).take j) (ns.drop 6):=List.take_sublist ..
 have c:=a.append b
 rw [e] at c
 exact List.Nodup.sublist c h
def tV (K:PySem.W.Frag):Sp:=fun vs H Q _=>∃ (sc:Addr) (ns:List Int),vs=[.ref sc]/\SqL K H sc (ns.map V.int) /\
 ∀ b ws rs t us rc H',Same H H'->BwV H' b ws us rc->BkS ws rs t rc->Q (.ref b) H'
section
variable {P:Program}{w:World}{K:PySem.W.Frag}{mg:Str->Option Value}{base:Heap}
theorem eE:FnScope ["_law_script","_law_left_here","_law_wares","_law_recipes_here","_law_turn","_law_many","_law_names_here","_law_found","_law_reach_here","_law_pairs","_law_k","_law_one","_law_other","_law_meets","_law_name"] ["_law_script"] (aG sBook):=⟨rfl,rfl,rfl,by decide +kernel,rfl,by decide +kernel,by decide +kernel⟩
theorem aCn {f:Addr}{fd:FuncData}(F:Fun K "_law_book" "_law_book" sBook f fd)(T:Txt mg)(cL:Cal P w K mg base CX0 6 "_law_left" ["_law_script","_law_k"] (mM K))(cN:Cal P w K mg base CX0 6 "_law_next" ["_law_left_here","_law_many"] gR)(cM:Cal P w K mg base CX0 6 "_law_names" ["_law_left_here","_law_many"] oR)(cP:Cal P w K mg base CX0 6 "_law_recipes" ["_law_script","_law_wares","_law_recipes_here","_law_turn"] (jO K))(cR:Cal P w K mg base CX0 6 "_law_reach" ["_law_book_here"] oO):FnOk P w K mg base CX0 7 f fd ["_law_script"] (tV K):=by
 refine F.ok eE (fun vs H Q E h => ?_) (fun cdv A outer s H vs Q E hr h => ?_)
 ·obtain ⟨_,_,rfl,_⟩:=h
  rfl
 ·obtain ⟨sc,ns,rfl,hS,k⟩:=h
  refine ⟨_,(aD (aI (i:=1) eE.nd rfl (Or.inl rfl) (aH cL hr rfl aQ (aA (pv 0) (aA aF aC))))
   (aD (aI (i:=2) eE.nd rfl (Or.inl rfl) (aV cX aF (aH cN hr rfl aQ (aA (pv 1) (aA aF aC)))))
   (aD (aI (i:=3) eE.nd rfl (Or.inl rfl) (aV cX aF (aH cN hr rfl aQ (aA (pv 1) (aA aF aC)))))
   (aD (aI (i:=4) eE.nd rfl (Or.inl rfl) (aH cN hr rfl aQ (aA (pv 1) (aA aF aC))))
   (aD (aI (i:=5) eE.nd rfl (Or.inl rfl) (aH cN hr rfl aQ (aA (pv 1) (aA aF aC))))
   (aD (aI (i:=6) eE.nd rfl (Or.inl rfl) (aH cM hr rfl aQ (aA (pv 1) (aA aF aC))))
   (aD (aI (i:=2) eE.nd rfl (Or.inl rfl) (fH lF (pv 6) iN (gA (pv 2))))
   (aD (aI (i:=7) eE.nd rfl (Or.inl rfl) (aH cP hr rfl aQ (aA (pv 0) (aA (pv 2) (aA (fH lF (pv 6) (gA aF) (gA (aV cX aF (pv 3)))) (aA (pv 4) aC))))))
   (aD (aI (i:=8) eE.nd rfl (Or.inl rfl) (aH cR hr rfl aQ (aA (aY (aA (bJ cU rfl T.tup' eD (aA (pv 2) aC)) (aA (aY aC) (aA (pv 7) aC)))) aC)))
   (aD (aI (i:=1) eE.nd rfl (Or.inl rfl) (aH cL hr rfl aQ (aA (pv 0) (aA aF aC))))
   (aD (aI (i:=9) eE.nd rfl (Or.inl rfl) (bC aC))
   (aD (bL PassesOwn.never rfl (eF rfl T.range (aA (pv 5) aC)) (aJ (i:=10) eE.nd rfl (Or.inl rfl))
    (aD (aI (i:=11) eE.nd rfl (Or.inl rfl) (dG cI (pv 2) (aH cN hr rfl aQ (aA (pv 1) (aA (aS aW rfl T.len PySem.boot_len (aA (pv 2) aC)) aC))) (fun _ _=>rfl)))
    (aD (aI (i:=12) eE.nd rfl (Or.inl rfl) (dG cI (pv 2) (aH cN hr rfl aQ (aA (pv 1) (aA (aS aW rfl T.len PySem.boot_len (aA (pv 2) aC)) aC))) (fun _ _=>rfl)))
    (aD (aI (i:=13) eE.nd rfl (Or.inl rfl) (bC aC))
    (aD (aBt (bL PassesOwn.never rfl (aBx (pv 8)) (aJ (i:=14) eE.nd rfl (Or.inl rfl))
     (aE (bF (PW.pt (jT (aK eW (pv 11) (eK (fO hr) (pv 8) (pv 14) (fun _ _=>rfl)) rfl) (gW (aK eW (pv 12) (eK (fO hr) (pv 8) (pv 14) (fun _ _=>rfl)) rfl))))
      (aE (bZ (eT PySem.F.plainAttrs_list PySem.F.slot_list_append PySem.F.type_list_append bY (pv 13) (aA (pv 14) aC))))
      aU))))
    (aE (bF (PW.pt (jT (aK gD (pv 11) (pv 12) (aT _)) (gW (aK (aAj hr.units) (pv 13) (bC aC) (aT _)))))
     (aE (bZ (eT PySem.F.plainAttrs_list PySem.F.slot_list_append PySem.F.type_list_append bY (pv 9) (aA (aY (aA (pv 11) (aA (pv 12) aC))) aC))))
     aU)))))))
   (aE (aO (aY (aA (bJ cU rfl T.tup' eD (aA (pv 2) aC)) (aA (bJ cU rfl T.tup' eD (aA (pv 9) aC)) (aA (pv 7) aC)))))))))))))))))),?_⟩
  have b9 : ∀ {m:Int},1<=m->m < 16->Bt 9000 m:=fun h1 h2=>bl9 (bP 4 (c:=16) (by omega) h2)
  refine ⟨_,rfl,sc,ns,0,rfl,hS,by decide,by decide,fun p H1 s1 np lf1 => ?_⟩
  refine ⟨_,rfl,p,6,rfl,lf1,by decide,b9 (by decide) (by decide),fun d1 H2 d10 d1l s2 lf2=>⟨_,_,rfl,rfl,?_⟩⟩
  refine ⟨_,rfl,p,6,rfl,lf2,by decide,b9 (by decide) (by decide),fun d2 H3 d20 d2l s3 lf3=>⟨_,_,rfl,rfl,?_⟩⟩
  refine ⟨_,rfl,p,3,rfl,lf3,by decide,b9 (by decide) (by decide),fun t H4 t0 t3 s4 lf4 => ?_⟩
  refine ⟨_,rfl,p,4,rfl,lf4,by decide,b9 (by decide) (by decide),fun mn H5 m0 m4 s5 lf5 => ?_⟩
  refine ⟨_,rfl,p,12,rfl,lf5,by decide,by decide,fun nms L H6 nl nd wr s6 lf6 nL hL => ?_⟩
  have s16:Same H H6:=((SmB.of s1).trans (s2.trans (s3.trans (s4.trans (s5.trans s6))))).same np
  have nl12:nms.length=12:=by omega
  obtain ⟨e1,rfl⟩:=Int.eq_ofNat_of_zero_le d10
  obtain ⟨e2,rfl⟩:=Int.eq_ofNat_of_zero_le d20
  refine ⟨_,rfl,_,rfl,_,rfl,L,_,rfl,SqL.of hL,fun wl nwl => ?_⟩
  have ec:(1+(e1:Int))=((1+e1:Nat):Int):=by omega
  rw [ec,aAr (by rw [List.length_map]; omega),<- List.map_take]
  have swl:=Same.upd (o:=.lst ((nms.take (1+e1)).map V.str)) nwl
  have hwl:upd H6 wl (.lst ((nms.take (1+e1)).map V.str)) wl=some (.lst ((nms.take (1+e1)).map V.str)):=aB
  generalize upd H6 wl (.lst ((nms.take (1+e1)).map V.str))=H7 at swl hwl ⊢
  have s07:=s16.trans swl
  refine ⟨_,rfl,_,rfl,_,rfl,_,rfl,_,rfl,_,_,rfl,rfl,_,rfl,L,_,rfl,SqL.of (swl _ _ hL),fun rl nrl => ?_⟩
  have ec2:(6+(1+(e2:Int)))=((7+e2:Nat):Int):=by omega
  rw [ec2,show ((6:Int))=((6:Nat):Int) from rfl,aFm (by rw [List.length_map]; omega) (by omega),<- List.map_drop,<- List.map_take]
  have srl:=Same.upd (o:=.lst (((nms.drop 6).take (7+e2 - 6)).map V.str)) nrl
  have hrl:upd H7 rl (.lst (((nms.drop 6).take (7+e2 - 6)).map V.str)) rl=some (.lst (((nms.drop 6).take (7+e2 - 6)).map V.str)):=aB
  generalize upd H7 rl (.lst (((nms.drop 6).take (7+e2 - 6)).map V.str))=H8 at srl hrl ⊢
  have s08:=s07.trans srl
  have ndA:=aE6 (i:=1+e1) (j:=7+e2 - 6) nd (by omega)
  have wrA : ∀ x ∈ nms.take (1+e1) ++ (nms.drop 6).take (7+e2 - 6),Wr x:=fun x hx=>by
   rcases List.mem_append.mp hx with h | h
   ·exact wr x (List.mem_of_mem_take h)
   ·exact wr x (List.mem_of_mem_drop (List.mem_of_mem_take h))
  have wlen:(nms.take (1+e1)).length=1+e1:=by rw [List.length_take]; omega
  have rlen:((nms.drop 6).take (7+e2 - 6)).length=1+e2:=by rw [List.length_take,List.length_drop]; omega
  generalize nms.take (1+e1)=ws at ndA wrA wlen hwl ⊢
  generalize (nms.drop 6).take (7+e2 - 6)=rs at ndA wrA rlen hrl ⊢
  refine ⟨_,rfl,sc,wl,rl,ns,ws,rs,t,rfl,s08.seq hS,srl _ _ hwl,hrl,by omega,by omega,by omega,by omega,fun fo us rc H9 s9 hfo hu rcw => ?_⟩
  have bks:BkS ws rs t rc:=⟨rcw,ndA,by omega,by omega,by omega,by omega,wrA,t0,t3⟩
  have s09:=s08.trans s9
  have hwl9:=(srl.trans s9) _ _ hwl
  refine ⟨_,rfl,wl,_,rfl,.inl ⟨SqL.of hwl9,fun wt nwt => ?_⟩⟩
  have swt:=Same.upd (o:=.tup (ws.map V.str)) nwt
  refine ⟨(by show 0<=sizeLine; decide),fun em nem => ?_⟩
  have sem:=Same.upd (o:=.tup []) nem
  refine ⟨_,rfl,(by show 3<=sizeLine; decide),fun b0 nb0 => ?_⟩
  have sb0:=Same.upd (o:=.tup [.ref wt,.ref em,.ref fo]) nb0
  have s9b:=(swt.trans sem).trans sb0
  have bw:BwV (upd (upd (upd H9 wt (.tup (ws.map V.str))) em (.tup [])) b0 (.tup [.ref wt,.ref em,.ref fo])) b0 ws us rc:=⟨wt,_,fo,aB,(sem.trans sb0) _ _ aB,s9b _ _ hfo,hu.imp fun _ _ x=>RecV.keep s9b.tk x⟩
  generalize upd (upd (upd H9 wt (.tup (ws.map V.str))) em (.tup [])) b0 (.tup [.ref wt,.ref em,.ref fo])=Ha at s9b bw ⊢
  refine ⟨b0,ws,us,rc,rfl,bw,rcw.rcs (by omega),by omega,fun D ks kvs Hr sr nD rd kl => ?_⟩
  have s0r:=(s09.trans s9b).trans sr
  have nD0:=bH (s09.trans s9b) nD
  have hwlr:=(s9b.trans sr) _ _ hwl9
  have hfor:=(s9b.trans sr) _ _ hfo
  have hur:=hu.imp fun _ _ x=>RecV.keep (s9b.trans sr).tk x
  refine ⟨_,rfl,sc,ns,1,rfl,s0r.seq hS,by decide,by decide,fun p2 Hc sc' np2 lfc => ?_⟩
  refine ⟨(by show 0<=sizeLine; decide),fun Pl nPl => ?_⟩
  have sPl:=Same.upd (o:=.lst []) nPl
  have nPlr:=bH sc' nPl
  have Pp2:Pl ≠ p2:=lfc.there nPl
  refine ⟨_,rfl,_,rfl,by omega,by omega,?_⟩
  refine dU (fun i σ H'=>∃ (v10 v11 v12 v13 v14:Option V) (vs:List V),σ=[some (.ref sc),some (.ref p2),some (.ref wl),some (.int (1+(e2:Int))),some (.int t),some (.int mn),some (.ref L),some (.ref fo),some (.ref D),some (.ref Pl),v10,v11,v12,v13,v14]/\Same Hr H'/\Lf H' p2/\H' Pl=some (.lst vs)/\vs.length<=i) ⟨none,none,none,none,none,[],rfl,sc'.trans sPl,lfc.keep sPl,aB,Nat.le_refl _⟩ ?_ ?_
  ·rintro i σ G hi ⟨v10,v11,v12,v13,v14,vs,rfl,sG,lfG,hP,vl⟩
   refine ⟨_,rfl,_,rfl,_,rfl,wl,_,rfl,.inl (SqL.of (sG _ _ hwlr)),p2,_,rfl,lfG,by rw [List.length_map]; omega,by rw [List.length_map]; exact bl9 (bP 8 (c:=256) (by omega) (by omega):Bt 8 ((ws.length:Nat):Int)),fun f1 G1 f10 f1l q1 lfG1 => ?_⟩
   rw [List.length_map] at f1l
   obtain ⟨c1,rfl⟩:=Int.eq_ofNat_of_zero_le f10
   obtain ⟨x1,hx1⟩ : ∃ x,ws[c1]?=some x:=⟨_,List.getElem?_eq_getElem (by omega)⟩
   have sG1:Same Hr G1:=((SmB.of sG).trans q1).same np2
   have hP1:=q1 _ _ Pp2 hP
   refine ⟨wl,_,(c1:Int),.str x1,rfl,rfl,SqL.of (sG1 _ _ hwlr),bG (by rw [List.getElem?_map,hx1]; rfl),?_⟩
   refine ⟨_,rfl,_,rfl,_,rfl,wl,_,rfl,.inl (SqL.of (sG1 _ _ hwlr)),p2,_,rfl,lfG1,by rw [List.length_map]; omega,by rw [List.length_map]; exact bl9 (bP 8 (c:=256) (by omega) (by omega):Bt 8 ((ws.length:Nat):Int)),fun f2 G2 f20 f2l q2 lfG2 => ?_⟩
   rw [List.length_map] at f2l
   obtain ⟨c2,rfl⟩:=Int.eq_ofNat_of_zero_le f20
   obtain ⟨x2,hx2⟩ : ∃ x,ws[c2]?=some x:=⟨_,List.getElem?_eq_getElem (by omega)⟩
   have sG2:Same Hr G2:=((SmB.of sG1).trans q2).same np2
   have hP2:=q2 _ _ Pp2 hP1
   refine ⟨wl,_,(c2:Int),.str x2,rfl,rfl,SqL.of (sG2 _ _ hwlr),bG (by rw [List.getElem?_map,hx2]; rfl),?_⟩
   refine ⟨(by show 0<=sizeLine; decide),fun Me nMe => ?_⟩
   have rd2:=rd.keep sG2
   have MD:Me ≠ D:=fun e=>by rw [e,rd2.hd] at nMe; cases nMe
   have hD3:upd G2 Me (.lst []) D=some (.dK kvs):=by rw [aL MD.symm]; exact rd2.hd
   refine ⟨_,rfl,D,kvs,rfl,hD3,fun ob => ?_⟩
   refine zI (fun j σ H'=>∃ (v14:Option V) (ms:List V),σ=[some (.ref sc),some (.ref p2),some (.ref wl),some (.int (1+(e2:Int))),some (.int t),some (.int mn),some (.ref L),some (.ref fo),some (.ref D),some (.ref Pl),some (.int (0+(i:Int))),some (.str x1),some (.str x2),some (.ref Me),v14]/\Same (upd G2 D (.frz ob (.dK kvs))) H'/\H' Me=some (.lst ms)/\ms.length<=j) ⟨_,[],rfl,fun a o ha => ?_,by rw [aL MD]; exact aB,Nat.le_refl _⟩ ?_ ?_ ?_
   ·by_cases e:a=D
    ·subst e; rw [aB] at ha ⊢; exact ha
    ·rw [aL e] at ha ⊢
     rw [aL (fun z=>by rw [z,nMe] at ha; cases ha)]
     exact ha
   ·rintro j σ H' _ ⟨_,_,rfl,sm,_⟩
    exact sm _ _ aB
   ·rintro j kv σ G3 hkv ⟨v14',ms,rfl,sG3,hMe,ml⟩
    obtain ⟨y,hy,ek⟩:=rd2.ky kv (List.mem_of_getElem? hkv)
    rw [ek]
    obtain ⟨l,xs,gv,hl,xnd,xsub⟩:=rd2.at' y hy
    have lD:l ≠ D:=fun e=>by rw [e,rd2.hd] at hl; cases hl
    have hl3:G3 l=some (.lst (xs.map V.str)):=sG3 _ _ (by rw [aL lD]; exact hl)
    have hD4:G3 D=some (.frz ob (.dK kvs)):=sG3 _ _ aB
    have dg:DGet G3 D (.str y) (some (.ref l)):=.inl ⟨kvs,.inr y,.inr ⟨ob,hD4⟩,rfl,gv.symm⟩
    have kvl:=rd2.ln
    have jl:=(List.getElem?_eq_some_iff.mp hkv).1
    refine ⟨_,rfl,_,rfl,_,rfl,D,_,rfl,dg,l,_,rfl,.inl (SqL.of hl3),rfl,dM _,_,rfl,ite2 (fun _ => ?_) (fun _=>iteF ⟨_,_,rfl,sG3,hMe,by omega⟩)⟩
    refine ⟨_,rfl,_,rfl,_,rfl,D,_,rfl,dg,l,_,rfl,.inl (SqL.of hl3),rfl,dM _,_,rfl,ite2 (fun _ => ?_) (fun _=>⟨_,_,rfl,sG3,hMe,by omega⟩)⟩
    refine ⟨_,rfl,.inl ⟨rfl,_,SqL.of hMe⟩,_,rfl,Me,_,_,rfl,rfl,hMe,aX (by omega),?_⟩
    refine ⟨_,_,rfl,bQ sG3 (by rw [aL MD]; exact nMe),aB,by rw [List.length_append]; show ms.length+1<=j+1; omega⟩
   ·rintro σ G3 ⟨v14',ms,rfl,sG3,hMe,ml⟩
    refine ⟨D,ob,kvs,sG3 _ _ aB,(fun o u z=>by have z':H D=some (.frz o u):=z; rw [nD0] at z'; cases z'),?_⟩
    have s4:Same G2 (upd G3 D (.dK kvs)):=tF rd2.hd sG3
    have hMe4:upd G3 D (.dK kvs) Me=some (.lst ms):=by rw [aL MD]; exact hMe
    generalize upd G3 D (.dK kvs)=G4 at s4 hMe4 ⊢
    have sG4:=sG2.trans s4
    have lf4:=lfG2.keep s4
    have hP4:=s4 _ _ hP2
    refine ⟨_,rfl,_,rfl,rfl,_,rfl,ite2 (fun _ => ?_) (fun _=>iteF ⟨_,_,_,_,_,_,rfl,sG4,lf4,hP4,by omega⟩)⟩
    refine ⟨_,rfl,(by show 0<=sizeLine; decide),fun o no => ?_⟩
    have so:=Same.upd (o:=.lst []) no
    refine ⟨Me,o,_,rfl,rfl,SqL.of (so _ _ hMe4),SqL.of aB,_,rfl,ite2 (fun _ => ?_) (fun _=>⟨_,_,_,_,_,_,rfl,sG4.trans so,lf4.keep so,so _ _ hP4,by omega⟩)⟩
    refine ⟨_,rfl,.inl ⟨rfl,_,SqL.of (so _ _ hP4)⟩,_,rfl,_,rfl,(by show 2<=sizeLine; decide),fun z nz => ?_⟩
    have sz:=Same.upd (o:=.tup [.str x1,.str x2]) nz
    have s5:=so.trans sz
    refine ⟨Pl,_,_,rfl,rfl,s5 _ _ hP4,aX (by omega),?_⟩
    refine ⟨_,_,_,_,_,_,rfl,bQ (sG4.trans s5) nPlr,(lf4.keep s5).own Pp2,aB,by rw [List.length_append]; show vs.length+1<=i+1; omega⟩
  ·rintro σ G ⟨v10,v11,v12,v13,v14,vs,rfl,sG,lfG,hP,vl⟩
   refine ⟨_,rfl,wl,_,rfl,.inl ⟨SqL.of (sG _ _ hwlr),fun wt2 nw2 => ?_⟩⟩
   have sw2:=Same.upd (o:=.tup (ws.map V.str)) nw2
   refine ⟨_,rfl,Pl,_,rfl,.inl ⟨SqL.of (sw2 _ _ hP),fun pt npt => ?_⟩⟩
   have spt:=Same.upd (o:=.tup vs) npt
   refine ⟨_,rfl,(by show 3<=sizeLine; decide),fun b nb => ?_⟩
   have sb:=Same.upd (o:=.tup [.ref wt2,.ref pt,.ref fo]) nb
   have s1:=(sw2.trans spt).trans sb
   have s2:=sG.trans s1
   exact k b ws rs t us rc _ (s0r.trans s2) ⟨wt2,_,fo,aB,(spt.trans sb) _ _ aB,s2 _ _ hfor,hur.imp fun _ _ x=>RecV.keep s2.tk x⟩ bks
end
end K25
namespace L2
open PySem PySem.Spec PyProof.Rows
def Itv (K:PySem.W.Frag)(a:Addr)(n:Nat):It :=
 ⟨fun i H=>∃ xs,SqL K H a xs/\xs.length=n/\i < n,fun i H x H'=>H'=H/\∀ xs,SqL K H a xs->xs[n - 1 - i]?=some x,fun i H=>n<=i⟩
def iRevL (K:PySem.W.Frag)(ta:TA):TI:=fun σ H R=>ta σ H fun vs H1=>∃ a xs,vs=[.ref a]/\SqL K H1 a xs/\R (Itv K a xs.length) H1
end L2
namespace SX
open PySem PySem.Spec PyProof.Rows
def byT (w:World):Bool:=w.params.followText "set-order"
def kv:Value->Str
 | .str x _=>x
 | _=>⟨#[]⟩
def setO (es:Array (Int × Value))(ep:Nat)(t:SetTable):Obj:={ cls:=.type "set",dict:=none,data:=.set es ep t,slots := #[] }
structure SetS (P:Program)(w:World)(h:Heap)(a:Addr)(ks:List Str):Prop where
 ex : ∃ es ep t,h.get? a=some (setO es ep t)/\ElemsOf (strKind P w) es.toList/\t.fits es.size=true/\t.led=(!byT w)/\(t.plain=false\/es.size=0)/\(es.toList.map fun e=>kv e.2).Perm ks
 nd:ks.Nodup
 lt:ks.length < scanBound
def dd (ks:List Str)(x:Str):List Str:=if x ∈ ks then ks else ks ++ [x]
def ddl (ss:List Str):List Str:=ss.foldl dd []
section
variable {P:Program}{w:World}{A:Around}{E:Value->Shared->Prop}{s:Shared}
end
section
variable {P:Program}{w:World}{A:Around}{R:Result->Shared->Prop}{I:Addr}{fp wr:List Addr}{G:Array GenState->Array GenState->Prop}{n:Nat}{Pr:Nat->Value->Prop}{St:Nat->Shared->Prop}
end
section
variable {P:Program}{w:World}{A:Around}{E:Value->Shared->Prop}{s:Shared}
abbrev nuSet (w:World):Obj:=setO #[] 0 (.fresh 0 0 (!byT w))
end
end SX
namespace DX
open PySem PySem.Spec PyProof.Rows
theorem iG:plainId "dict.update.loop" = true:=by decide +kernel
theorem nW:entryFor table "dict.update.loop" = some Builtin.«dict.update.loop» := entryFor_of_tree (by kernel_rfl)
theorem nG:typeLookup (.type "list") (Str.ofString "keys")=pure none:=am_miss_of_fast (by decide +kernel)
section
variable {P:Program}{w:World}{A:Around}{E:Value->Shared->Prop}{s:Shared}
theorem nJ {a:Addr}{xs:Array Value}{k:Nat}{sl:Array (Option Value)}{Q:Option Value->Shared->Prop}(ho:s.heap.get? a=some { cls:=.type "list",data:=.seq xs k,slots:=sl })(hh:A.handled=none)
  (h : ∀ h' tk,(∀ b ob,s.heap.get? b=some ob->h'.get? b=some ob)->Q none { s with heap:=h',toks:=tk }):wpAny (model P w) A (getAttr? (.ref a) "keys") Q E s:=by
 have ty:s.TypeIs (.ref a) "list" := ⟨_,ho,rfl⟩
 unfold getAttr?
 refine wpAny_bind (wpAny_mkText ?_)
 unfold getAttrBy?
 refine wpAny_bind (wpAny_attempt ?_)
 unfold getAttrBy
 refine wpAny_holding ?_
 refine wpAny_bind (wpAny_typeOf (T := "list") ⟨_,ho,rfl⟩ ?_)
 refine wpAny_bind (wpAny_of_eq F.slot_list_getattribute.lookup ?_)
 dsimp only
 show wpAny _ _ (getAttrByItsOwn _ _ _ _ _ _) _ _ _
 unfold getAttrByItsOwn
 refine wpAny_bind (wpAny_of_eq (a:=none) rfl ?_)
 refine wpAny_bind (wpAny_attempt (wpAny_holding ?_))
 show wpAny _ _ (boundAndCalled _ _ _) _ _ _
 unfold boundAndCalled
 refine wpAny_bind (wpAny_of_eq (F.slot_list_getattribute.bind _) ?_)
 dsimp only
 refine call_meets F.slot_list_getattribute ⟨_,ho,rfl⟩ am_entry_list_getattribute (F.args_list_getattribute_2 _ _) (meets_getattribute_miss_list a xs k sl "keys" _ nG (by decide +kernel)) ⟨ho,hh,fun h' tk e ne => ?_⟩
 show wpAny _ _ (getattributeRaised _ _ _ _ _ _ _) _ _ _
 obtain ⟨t,u,he⟩:=ne.there
 unfold getattributeRaised
 refine wpAny_bind (wpAny_isInstance (T := "AttributeError") ⟨_,he,rfl⟩ sub_AttributeError ?_)
 rw [if_pos rfl]
 refine wpAny_bind (wpAny_of_eq am_list_getattr_none ?_)
 unfold hookOrError
 dsimp only
 unfold attributeErrorLeaves
 refine wpAny_bind (wpAny_throw ?_)
 show wpAny _ _ (isInstance _ _ >>= _) _ _ _
 refine wpAny_bind (wpAny_isInstance (T := "AttributeError") ⟨_,he,rfl⟩ sub_AttributeError ?_)
 rw [if_pos rfl]
 exact wpAny_pure (h h' tk ne.keeps)
def TupAt (h:Heap)(z:Addr)(x y:Value):Prop:=∃ o n,h.get? z=some o/\o.cls = .type "tuple" /\ o.data = .seq #[x,y] n
theorem lQ {z:Addr}{x y:Value}{Q:List Value->Shared->Prop}(ht:TupAt s.heap z x y)(h:Q [x,y] s):wpAny (model P w) A (Builtin.Dict.pairItems (.ref z)) Q E s:=by
 obtain ⟨o,n,ho,hc,hd⟩:=ht
 unfold Builtin.Dict.pairItems
 refine wpAny_bind (wpAny_typeOf (T := "tuple") ⟨_,ho,hc⟩ ?_)
 wp_walk
 rw [hd]
 exact wpAny_pure (wpAny_pure h)
end
section
variable {P:Program}{w:World}{K:Type}[DecidableEq K]{knd:KeyKind P w K}{A:Around}{R:Result->Shared->Prop}
theorem rH (acc:List (K × Value))(k:K)(v:Value):(stored acc k v).length<=acc.length+1:=by
 unfold stored
 split
 ·rw [List.length_map]; omega
 ·rw [List.length_append]; exact Nat.le_refl _
theorem wT (hh:A.in1.handled=none)(d it l:Addr)(its:Array Value)(ps:List (K × Value))(hdi:d ≠ it)(hdl:d ≠ l)(hil:it ≠ l)(hl:ps.length=its.size)(hz:ps.length<=sizeLine)(h0:Heap)(hL:h0.IsList l its)
  (hp : ∀ (i:Nat) kv,ps[i]?=some kv->∃ z key,its[i]?=some (.ref z)/\knd.is kv.1 key=true/\z ≠ d/\z ≠ it/\TupAt h0 z key kv.2) :
  ∀ (n i:Nat) (s:Shared),its.size - i=n->i<=its.size->s.heap.IsListIter it l i->(∀ b o,b ≠ d->b ≠ it->h0.get? b=some o->s.heap.get? b=some o)->s.heap.DictOf knd d ((ps.take i).foldl (fun acc kv=>stored acc kv.1 kv.2) [])->((ps.take i).foldl (fun acc kv=>stored acc kv.1 kv.2) []).length<=i ->
   (∀ (h':Heap) (tk:Nat),(∀ b o,b ≠ d->b ≠ it->h0.get? b=some o->h'.get? b=some o)->h'.DictOf knd d (ps.foldl (fun acc kv=>stored acc kv.1 kv.2) [])->R (.ok (.ret .none)) { s with heap:=h',toks:=tk }) ->
   codeAny (model P w) A (.builtin "dict.update.loop" ⟨[.ref d,.ref it,rawInt i,.none],[]⟩) R s:=by
 intro n
 induction n with
 | zero =>
  intro i s hk hi st fr D len q
  obtain rfl:i=its.size:=by omega
  refine codeAny_builtin nW ?_
  rw [Around.under_plainId iG _]
  have hL':s.heap.IsList l its:=by
   obtain ⟨o,e,r⟩:=hL
   exact ⟨o,fr l o (Ne.symm hdl) (Ne.symm hil) e,r⟩
  show wpAny _ A.in1 (pyNext (.ref it) >>= _) _ _ s
  refine wpAny_bind (wpAny_pyNext_list_end hh st hL' (by simp) fun h' eb => ?_)
  rw [List.take_of_length_le (by omega)] at D
  dsimp only
  refine wpAny_bind (wpAny_of_eq (a:=()) rfl ?_)
  refine wpAny_pure (q h' s.toks (fun b o b1 b2 e=>eb b o b2 (fr b o b1 b2 e)) ?_)
  obtain ⟨o,es,ep,ho,r⟩:=D
  exact ⟨o,es,ep,eb d o hdi ho,r⟩
 | succ n ih =>
  intro i s hk hi st fr D len q
  have lt:i < its.size:=by omega
  have hL':s.heap.IsList l its:=by
   obtain ⟨o,e,r⟩:=hL
   exact ⟨o,fr l o (Ne.symm hdl) (Ne.symm hil) e,r⟩
  obtain ⟨kv,hkv⟩ : ∃ kv,ps[i]?=some kv:=⟨_,List.getElem?_eq_getElem (by omega)⟩
  obtain ⟨z,key,e1,e2,z1,z2,tz⟩:=hp i kv hkv
  refine codeAny_builtin nW ?_
  rw [Around.under_plainId iG _]
  show wpAny _ A.in1 (pyNext (.ref it) >>= _) _ _ s
  refine wpAny_bind (wpAny_pyNext_list_item st hL' e1 fun h' st' sb => ?_)
  have fr1 : ∀ b o,b ≠ d->b ≠ it->h0.get? b=some o->h'.get? b=some o:=fun b o b1 b2 e=>(sb.2 b b2).trans (fr b o b1 b2 e)
  have D1:h'.DictOf knd d ((ps.take i).foldl (fun acc kv=>stored acc kv.1 kv.2) []):=by
   obtain ⟨o,es,ep,ho,r⟩:=D
   exact ⟨o,es,ep,(sb.2 d hdi).trans ho,r⟩
  have tz1:TupAt h' z key kv.2:=by
   obtain ⟨o,m,ho,r⟩:=tz
   exact ⟨o,m,fr1 z o z1 z2 ho,r⟩
  dsimp only
  refine wpAny_bind (wpAny_holding ?_)
  refine wpAny_bind (wpAny_tryCatch (lQ tz1 ?_))
  dsimp only
  refine wpAny_holding (wpAny_dictSet_pairs e2 D1 (fun h2 D2 sb2 => ?_) (by omega))
  have et:ps.take (i+1)=ps.take i ++ [kv]:=by rw [List.take_add_one,hkv]; rfl
  refine wpAny_pure ⟨plainId_quiet iG _,?_⟩
  have D3:h2.DictOf knd d ((ps.take (i+1)).foldl (fun acc kv=>stored acc kv.1 kv.2) []):=by
   rw [et,List.foldl_append]
   exact D2
  have len3:((ps.take (i+1)).foldl (fun acc kv=>stored acc kv.1 kv.2) []).length<=i+1:=by
   rw [et,List.foldl_append]
   have:=rH ((ps.take i).foldl (fun acc kv=>stored acc kv.1 kv.2) []) kv.1 kv.2
   show (stored _ kv.1 kv.2).length<=i+1
   omega
  refine ih (i+1) _ (by omega) lt ?_ (fun b o b1 b2 e=>(sb2.2 b b1).trans (fr1 b o b1 b2 e)) D3 len3 fun h3 tk f3 d3=>q h3 tk f3 d3
  obtain ⟨o,e,r⟩:=st'
  exact ⟨o,(sb2.2 it (Ne.symm hdi)).trans e,r⟩
end
section
variable {P:Program}{w:World}{K:Type}[DecidableEq K]{knd:KeyKind P w K}{A:Around}{E:Value->Shared->Prop}{s:Shared}
abbrev nuD:Obj:={ cls:=.type "dict",data:=.dict #[] }
theorem call_dict_list {l:Addr}{its:Array Value}{n:Nat}{sl:Array (Option Value)}{ps:List (K × Value)}{Q:Value->Shared->Prop}(hh:A.handled=none)(hl:s.heap.get? l=some { cls:=.type "list",data:=.seq its n,slots:=sl })(hz:ps.length<=sizeLine)(hlen:ps.length=its.size)
  (hp : ∀ (i:Nat) kv,ps[i]?=some kv->∃ z key,its[i]?=some (.ref z)/\knd.is kv.1 key=true/\TupAt s.heap z key kv.2)
  (h : ∀ (h':Heap) (tk:Nat),(∀ b o,s.heap.get? b=some o->h'.get? b=some o)->h'.DictOf knd s.heap.objs.size (ps.foldl (fun acc kv=>stored acc kv.1 kv.2) [])->Q (.ref s.heap.objs.size) { s with heap:=h',toks:=tk }) :
  wpAny (model P w) A (call (.type "dict") [.ref l]) Q E s:=by
 obtain ⟨c,tl,hmro⟩:=F.kt_called_dict.mro
 have hmade:=F.kt_called_dict.made
 have hsub:=F.kt_called_dict.sub
 refine wpAny_call (codeAny_of_tree ?_)
 show wpAny _ _ (callAny (.type "dict") _) _ _ _
 refine wpAny_pure ⟨Code.quiet_builtin _ (by decide +kernel),codeAny_builtin F.entry_type_call ?_⟩
 rw [Around.under_plain (weight_type_call_type "dict" [.ref l] []) rfl]
 have h1:=F.kt_called_dict.notType
 have h2:=F.kt_called_dict.canCreate
 have hct:=F.kt_typeCall_dict_1 (.ref l)
 repeat (any_goals (first | assumption | wp_step))
 refine codeAny_mono (kt_code_dict_new (.ref l) (E:=E) (Q₁:=fun obj s1=>obj = .ref s.heap.objs.size/\s1={ s with heap:=s.heap.push nuD }) ⟨rfl,rfl⟩) fun r s1 hr => ?_
 cases r with
 | error e=>exact hr
 | ok fl =>
  cases fl with
  | ret obj =>
   obtain ⟨rfl,rfl⟩:=hr
   have hS:(s.heap.push nuD).get? s.heap.objs.size=some nuD:=Heap.get?_push_size _ rfl
   have hT:Shared.TypeIs { s with heap:=s.heap.push nuD } (.ref s.heap.objs.size) "dict" := ⟨_,hS,rfl⟩
   have hli:=F.kt_called_dict.init.lookup
   have hbi:=F.kt_called_dict.init.bind (.ref s.heap.objs.size)
   repeat (any_goals (first | assumption | wp_step))
   refine codeAny_mono (codeAny_call_builtin (R:=wants (fun r s2=>r = .none/\∃ h' tk,s2={ s with heap:=h',toks:=tk }/\h'.DictOf knd s.heap.objs.size (ps.foldl (fun acc kv=>stored acc kv.1 kv.2) [])/\(∀ b o,s.heap.get? b=some o->h'.get? b=some o)) E) F.kt_called_dict.init.plain F.entry_dict_init (F.kt_called_dict.init.check _ _ _ _ _ _ _ _ hT (F.args_dict_init_2 _ _) ?_)) fun r2 s2 hr2 => ?_
   ·have hl1:(s.heap.push nuD).get? l=some { cls:=.type "list",data:=.seq its n,slots:=sl }:=Heap.get?_push_of_some _ hl
    have hlS:l < s.heap.objs.size:=Heap.lt_size hl
    have hz1:(s.heap.push nuD).objs.size=s.heap.objs.size+1:=Heap.size_push ..
    show wpAny _ _ (Builtin.Dict.selfAndRest "__init__" ⟨[.ref s.heap.objs.size,.ref l],[]⟩ >>= _) _ _ _
    refine wpAny_bind ?_
    unfold Builtin.Dict.selfAndRest Builtin.Dict.notOrdered
    rw [if_pos (by decide +kernel)]
    refine wpAny_bind (wpAny_bind (wpAny_typeOf (T := "dict") hT ?_))
    rw [if_neg (by decide +kernel)]
    refine wpAny_pure ?_
    refine wpAny_bind (wpAny_of_eq (a:=s.heap.objs.size) rfl (wpAny_pure ?_))
    show wpAny _ _ (Builtin.Dict.updateFrom "dict.__init__" s.heap.objs.size (.ref l) [] .none) _ _ _
    unfold Builtin.Dict.updateFrom
    refine wpAny_bind (wpAny_typeOf (T := "list") ⟨_,hl1,rfl⟩ ?_)
    rw [if_pos (by decide +kernel)]
    refine wpAny_bind (nJ hl1 (by simp [hh]) fun h3 tk3 k3 => ?_)
    rw [if_pos (show (none:Option Value).isNone=true from rfl)]
    refine wpAny_bind (wpAny_rule ?_)
    have hl3:h3.get? l=some { cls:=.type "list",data:=.seq its n,slots:=sl }:=k3 _ _ hl1
    have hL3:h3.IsList l its:=⟨_,hl3,rfl,n,rfl⟩
    refine wpAny_bind (wpAny_pyIter_list hL3 ?_)
    have hd3:h3.get? s.heap.objs.size=some nuD:=k3 _ _ hS
    have dlt:=Heap.lt_size hd3
    have llt:=Heap.lt_size hl3
    have old : ∀ b o,s.heap.get? b=some o->(h3.push { cls:=.type "list_iterator",data:=.fields #[.ref l,.int 0 0] }).get? b=some o/\b ≠ s.heap.objs.size/\b ≠ h3.objs.size:=fun b o e=>by
     have e3:=k3 _ _ (Heap.get?_push_of_some nuD e)
     exact ⟨Heap.get?_push_of_some _ e3,Nat.ne_of_lt (Heap.lt_size e),Nat.ne_of_lt (Heap.lt_size e3)⟩
    refine wpAny_pure ⟨plainId_quiet iG _,wT (knd:=knd) (by simp [hh]) s.heap.objs.size h3.objs.size l its ps (Nat.ne_of_lt dlt) (Nat.ne_of_gt hlS) (Nat.ne_of_gt llt) hlen hz (h3.push { cls:=.type "list_iterator",data:=.fields #[.ref l,.int 0 0] }) ⟨_,(old l _ hl).1,rfl,n,rfl⟩ (fun i kv hkv => ?_) its.size 0 _ (by omega) (Nat.zero_le _) ⟨_,Heap.get?_push_size _ rfl,rfl,rfl⟩ (fun b o _ _ e=>e) ?_ (Nat.le_refl _) fun h' tk fr D=>⟨rfl,h',tk,rfl,D,fun b o e=>fr b o (old b o e).2.1 (old b o e).2.2 (old b o e).1⟩⟩
    ·obtain ⟨z,key,e1,e2,o,m,e3,e4⟩:=hp i kv hkv
     exact ⟨z,key,e1,e2,(old z o e3).2.1,(old z o e3).2.2,o,m,(old z o e3).1,e4⟩
    ·exact ⟨nuD,#[],0,Heap.get?_push_of_some _ hd3,⟨rfl,rfl,rfl⟩,rfl,(fun e he=>by simp at he),.nil,List.nodup_nil⟩
   ·cases r2 with
    | error e=>exact hr2
    | ok f2 =>
     cases f2 with
     | ret r =>
      obtain ⟨rfl,h',tk,rfl,S',hk'⟩:=hr2
      repeat (any_goals (first | assumption | wp_step))
      exact h _ _ hk' S'
     | _=>exact hr2.elim
  | _=>exact hr.elim
end
end DX
namespace L2
open PySem PySem.Spec PyProof.Rows
section
variable {X:Cx}
def aEf (K:PySem.W.Frag):List V->Hp->VK->Prop:=fun xs H Q=>∃ (a:Addr) (us:List V) (kvs:List (Key × V)),xs=[.ref a]/\H a=some (.lst us)/\us.length=kvs.length/\(kvs.map (·.1)).Nodup /\
 (∀ (i:Nat) u kv,us[i]?=some u->kvs[i]?=some kv->∃ z,u = .ref z/\H z=some (.tup [kV kv.1,kv.2]))/\∀ p,H p=none->Q (.ref p) (upd H p (.dK kvs))
theorem qR : ∀ (kvs acc:List (Key × V)),(kvs.map (·.1)).Nodup->(∀ kv ∈ kvs,∀ kw ∈ acc,kv.1 ≠ kw.1)->kvs.foldl (fun acc kv=>putK acc kv.1 kv.2) acc=acc ++ kvs
 | [],acc,_,_=>by simp
 | kv :: r,acc,nd,h=>by
  rw [List.map_cons] at nd
  have nd':=List.nodup_cons.mp nd
  have e:putK acc kv.1 kv.2=acc ++ [kv]:=by
   unfold putK
   rw [if_neg]
   intro z
   obtain ⟨kw,hk,e⟩:=List.any_eq_true.mp z
   exact h kv (List.mem_cons_self ..) kw hk (of_decide_eq_true e).symm
  rw [List.foldl_cons,e,qR r (acc ++ [kv]) nd'.2 fun k1 h1 k2 h2 => ?_,List.append_assoc]
  ·rfl
  ·rcases List.mem_append.mp h2 with h2 | h2
   ·exact h k1 (List.mem_cons_of_mem _ h1) k2 h2
   ·rw [List.mem_singleton.mp h2]
    exact fun z=>nd'.1 (z ▸ List.mem_map_of_mem h1)
theorem vC : ∀ {kvs:List (Key × V)} {vs:List (Key × Value)} {acc:List (Key × V)} {bcc:List (Key × Value)},KV kvs vs->KV acc bcc->KV (kvs.foldl (fun acc kv=>putK acc kv.1 kv.2) acc) (vs.foldl (fun acc kv=>stored acc kv.1 kv.2) bcc)
 | [],[],_,_,_,h=>h
 | kv :: r,v :: q,acc,bcc,.cons ⟨e,rv⟩ t,h=>by
  have h1:=h.put kv.1 rv
  rw [e] at h1
  rw [List.foldl_cons,List.foldl_cons,e]
  exact vC t h1
theorem kW (hc:X.calm=true):hZ X (.type "dict") (aEf X.K):=by
 intro pins s σ H xs us' Q I r h
 obtain ⟨a,us,kvs,rfl,hH,hl,nd,hp,q⟩:=h
 obtain ⟨u,rfl,rx⟩:=jL r
 cases rx
 obtain ⟨z,its,n,rv,e⟩:us.length<=sizeLine/\∃ (its:List Value) (n:Nat),Vals us its/\s.heap.get? a=some { cls:=.type "list",data:=.seq its.toArray n }:=I.hok a _ hH
 have vl:=rv.length
 have at' : ∀ (i:Nat) kv,kvs[i]?=some kv->∃ z key v,its[i]?=some (.ref z)/\RelV (kV kv.1) key/\RelV kv.2 v/\DX.TupAt s.heap z key v:=fun i kv hkv=>by
  have hi:=(List.getElem?_eq_some_iff.mp hkv).1
  obtain ⟨u,hu⟩ : ∃ u,us[i]?=some u:=⟨_,List.getElem?_eq_getElem (by omega)⟩
  obtain ⟨z,rfl,hz⟩:=hp i u kv hu hkv
  obtain ⟨v,hv,ru⟩:=rv.get hu
  cases ru
  obtain ⟨_,ts,rt,o,ho,hc',m,hd⟩:_/\∃ ts,Vals [kV kv.1,kv.2] ts/\s.heap.IsTuple z ts.toArray:=I.hok z _ hz
  obtain ⟨k1,v1,rfl,r1,r2⟩:=wS rt
  exact ⟨z,k1,v1,hv,r1,r2,o,m,ho,hc',hd⟩
 obtain ⟨vs,kvr,vat⟩ : ∃ vs:List (Key × Value),KV kvs vs/\∀ (i:Nat) kv,vs[i]?=some kv->∃ z key,its.toArray[i]?=some (.ref z)/\(bR X.prog X.w).is kv.1 key=true/\DX.TupAt s.heap z key kv.2:=by
  have key : ∀ (kvs:List (Key × V)) (j:Nat),(∀ (i:Nat) kv,kvs[i]?=some kv->∃ z key v,its[j+i]?=some (.ref z)/\RelV (kV kv.1) key/\RelV kv.2 v/\DX.TupAt s.heap z key v)->∃ vs:List (Key × Value),KV kvs vs/\∀ (i:Nat) kv,vs[i]?=some kv->∃ z key,its.toArray[j+i]?=some (.ref z)/\(bR X.prog X.w).is kv.1 key=true/\DX.TupAt s.heap z key kv.2:=by
   intro kvs
   induction kvs with
   | nil=>exact fun j _=>⟨[],.nil,fun i kv h=>by simp at h⟩
   | cons kv r ih =>
    intro j h
    obtain ⟨vs,a1,a2⟩:=ih (j+1) fun i kv hk=>by
     have:=h (i+1) kv (by simpa using hk)
     rwa [show j+(i+1)=j+1+i by omega] at this
    obtain ⟨z,key,v,b1,b2,b3,b4⟩:=h 0 kv rfl
    refine ⟨(kv.1,v) :: vs,.cons ⟨rfl,b3⟩ a1,fun i kw hk => ?_⟩
    cases i with
    | zero =>
     cases (show some (kv.1,v)=some kw from hk)
     exact ⟨z,key,by simpa using b1,vF b2,b4⟩
    | succ i =>
     have:=a2 i kw (by simpa using hk)
     rwa [show j+(i+1)=j+1+i by omega]
  obtain ⟨vs,a1,a2⟩:=key kvs 0 fun i kv hk=>by rw [Nat.zero_add]; exact at' i kv hk
  exact ⟨vs,a1,fun i kv hk=>by have:=a2 i kv hk; rwa [Nat.zero_add] at this⟩
 have kl:=kvr.length
 refine DX.call_dict_list (knd:=bR X.prog X.w) (I.ok.hd hc) e (ps:=vs) (by omega) (by rw [List.size_toArray]; omega) vat fun h' tk k3 D => ?_
 have rel:=vC kvr (acc:=[]) (bcc:=[]) .nil
 rw [qR kvs [] nd (fun _ _ _ h=>nomatch h),List.nil_append] at rel
 exact ⟨.ref _,_,I.laid (a:=s.heap.objs.size) (o:=.dK kvs) (t':=tk) k3 (Nat.le_refl _) ⟨by omega,beq_eq_false_iff_ne.mpr (Ne.symm (Nat.ne_of_lt I.big)),_,rel,D⟩,rfl,q _ (I.hok.fresh (Nat.le_refl _))⟩
end
end L2
namespace BQ
open PySem PySem.Spec PyProof.Rows L2 GM
def vl (a:Q):Rat:=(a.1:Rat) / (a.2:Rat)
theorem vK {n:Int}(h:1<=n):(0:Rat) < (n:Rat):=by exact_mod_cast (by omega:0 < n)
theorem cF {n:Int}(h:1<=n):(n:Rat) ≠ 0:=fun e=>by
 have:=vK h
 rw [e] at this
 exact absurd this (by decide)
theorem aDc {T B:Int}(h0:0<=T)(h1:1<=B):vl (lw T B)=(T:Rat) / B:=by
 have c:(((lw T B).1:Int):Rat)*(B:Rat)=(T:Rat)*((lw T B).2:Rat):=by exact_mod_cast eC T B
 have n1:=cF h1
 have n2:=cF (gP h0 h1).b1
 unfold vl
 generalize ((lw T B).1:Rat)=x at *
 generalize ((lw T B).2:Rat)=y at *
 generalize (T:Rat)=t at *
 generalize (B:Rat)=b at *
 grind
theorem aA1:vl (0,1)=0:=by
 show ((0:Int):Rat) / ((1:Int):Rat)=0
 rw [Rat.div_def]
 exact Rat.zero_mul _
theorem aDe {a b:Q}(ha:Am a)(hb:Am b):vl (add a b)=vl a+vl b:=by
 unfold add
 rw [aDc (ha.num hb) (ha.mul hb)]
 have n1:=cF ha.b1
 have n2:=cF hb.b1
 unfold vl
 rw [Rat.intCast_add,Rat.intCast_mul,Rat.intCast_mul,Rat.intCast_mul]
 generalize (a.1:Rat)=x at *
 generalize (a.2:Rat)=y at *
 generalize (b.1:Rat)=t at *
 generalize (b.2:Rat)=b at *
 grind
theorem aDb {a:Q}(ha:Am a):0<=vl a:=by
 unfold vl
 have h1:(0:Rat)<=(a.1:Rat):=by exact_mod_cast ha.t0
 have h2:=vK ha.b1
 rw [Rat.div_def]
 exact Rat.mul_nonneg h1 (Rat.le_of_lt (Rat.inv_pos.mpr h2))
theorem aC9 {a:Q}(ha:Am a):0 < vl a ↔ 1<=a.1:=by
 constructor
 ·intro h
  have:=ha.t0
  by_cases e:a.1=0
  ·unfold vl at h
   rw [e] at h
   have:((0:Int):Rat) / (a.2:Rat)=0:=by rw [Rat.div_def]; exact Rat.zero_mul _
   rw [this] at h
   exact absurd h (by decide)
  ·omega
 ·intro h
  unfold vl
  rw [Rat.div_def]
  exact Rat.mul_pos (vK h) (Rat.inv_pos.mpr (vK ha.b1))
def Dn (D:Int)(r:Rat):Prop:=∃ n:Int,r*(D:Rat)=(n:Rat)
theorem Dn.mul {D E:Int}{r s:Rat}(h:Dn D r)(k:Dn E s):Dn (D*E) (r*s):=by
 obtain ⟨n,e⟩:=h
 obtain ⟨m,f⟩:=k
 refine ⟨n*m,?_⟩
 rw [Rat.intCast_mul,Rat.intCast_mul,<- e,<- f]
 generalize (D:Rat)=x at *
 generalize (E:Rat)=y at *
 grind
theorem Dn.scale {D c:Int}{r:Rat}(h:Dn D r):Dn (D*c) r:=by
 obtain ⟨n,e⟩:=h
 refine ⟨n*c,?_⟩
 rw [Rat.intCast_mul,Rat.intCast_mul,<- e]
 generalize (D:Rat)=x at *
 generalize (c:Rat)=y at *
 grind
theorem Dn.own {a:Q}(ha:Am a):Dn a.2 (vl a):=by
 have n1:=cF ha.b1
 refine ⟨a.1,?_⟩
 unfold vl
 generalize (a.1:Rat)=x at *
 generalize (a.2:Rat)=y at *
 grind
theorem aGp {a:Q}{D n:Int}(ha:Am a)(h:vl a*(D:Rat)=(n:Rat)):Fr D a.1 a.2 n:=by
 have n1:=cF ha.b1
 refine ⟨ha,?_⟩
 have:(a.1:Rat)*(D:Rat)=(n:Rat)*(a.2:Rat):=by
  rw [<- h]
  unfold vl
  generalize (a.1:Rat)=x at *
  generalize (a.2:Rat)=y at *
  generalize (D:Rat)=z at *
  grind
 exact_mod_cast this
theorem aF4 {a:Q}{D S:Int}{n:Nat}(ha:Am a)(h:Dn D (vl a))(D0:0 < D)(hv:vl a*(D:Rat)<=(S:Rat))(bD:Bt n D)(bS:Bt n S):Bt n a.1/\Bt n a.2:=by
 obtain ⟨m,e⟩:=h
 have fr:=aGp ha e
 have sm:=vP (a:=a) D0 fr
 rw [e] at hv
 have hm:m<=S:=by exact_mod_cast hv
 exact ⟨bS.le ha.t0 (by omega),bD.le (by have:=ha.b1; omega) sm.2⟩
def sm {α:Type}:List α->(α->Rat)->Rat
 | [],_=>0
 | x :: r,f=>f x+sm r f
theorem aDr {α:Type}{f:α->Rat} : ∀ {a:List α},(∀ x ∈ a,0<=f x)->0<=sm a f
 | [],_=>Rat.le_refl
 | x :: r,h=>Rat.add_nonneg (h x (List.mem_cons_self ..)) (aDr fun y hy=>h y (List.mem_cons_of_mem _ hy))
theorem aDt {α:Type}{f:α->Rat}{y:α} : ∀ {a:List α},(∀ x ∈ a,0<=f x)->y ∈ a->f y<=sm a f
 | x :: r,h,hy=>by
  have h1:=h x (List.mem_cons_self ..)
  have h2:=aDr fun y hy=>h y (List.mem_cons_of_mem x hy)
  show f y<=f x+sm r f
  rcases List.mem_cons.mp hy with rfl | hy
  ·grind
  ·have:=aDt (fun y hy=>h y (List.mem_cons_of_mem x hy)) hy
   grind
theorem aDs {α:Type}(c:Rat)(f:α->Rat) : ∀ (a:List α),sm a (fun x=>c*f x)=c*sm a f
 | []=>by show (0:Rat)=c*0; rw [Rat.mul_zero]
 | x :: r=>by
  show c*f x+sm r (fun x=>c*f x)=c*(f x+sm r f)
  rw [aDs c f r,Rat.mul_add]
def bmp {α:Type}[DecidableEq α](f:α->Rat)(y:α)(c:Rat):α->Rat:=fun x=>if x=y then f x+c else f x
theorem aDu : ∀ {ss:List Q} {x:Q},(∀ s ∈ ss,Am s)->Am x->vl (fo x ss)=vl x+sm ss vl
 | [],x,_,_=>by show vl x=vl x+0; rw [Rat.add_zero]
 | s :: ss,x,hs,hx=>by
  have h1:=hs s (List.mem_cons_self ..)
  show vl (fo (add x s) ss)=vl x+(vl s+sm ss vl)
  rw [aDu (fun s' h'=>hs s' (List.mem_cons_of_mem _ h')) (kX hx h1),aDe hx h1,Rat.add_assoc]
theorem zX {α β:Type}(f:β->Rat)(g:α->β) : ∀ (a:List α),sm (a.map g) f=sm a (fun x=>f (g x))
 | []=>rfl
 | x :: r=>by show f (g x)+sm (r.map g) f=f (g x)+sm r _; rw [zX f g r]
theorem Rs.whole {rs:List Rw}{ps:List Pu}{l:Q}(h:Rs rs ps l)(hn:rs.length<=6):vl l=sm ps (fun s=>vl s.2.2):=by
 have z:=h.sz hn
 rw [z.2.2.2.2.2.1,aDu (fun s hs=>by
  obtain ⟨p,hp,rfl⟩:=List.mem_map.mp hs
  exact (z.2.2.2.1 p hp).1) am0,aA1,Rat.zero_add]
 unfold amts
 rw [zX]
theorem Rs.parts {rs:List Rw}{ps:List Pu}{l:Q}(h:Rs rs ps l)(hn:rs.length<=6)(h1:1<=rs.length) :
  ∃ c M:Int,1<=c/\Bt 480 c/\1<=M/\Bt 480 M/\∀ s ∈ ps,Dn c (vl s.2.2 / vl l)/\Dn M (vl s.2.2):=by
 have l1:=h.pos h1
 obtain ⟨M,N,V,ri⟩:=h.ri
 have am:=ri.fq.am
 have e:=ri.fq.e
 have N1:1<=N:=by
  have b1:=am.b1
  have m0:=ri.M0
  have:=BQ.mul1 l1 (show 1<=M by omega)
  rw [e] at this
  by_cases z:1<=N
  ·exact z
  ·have:=Int.mul_nonneg (show 0 <= -N by omega) (show 0<=l.2 by omega)
   have e2 : -N*l.2 = -(N*l.2):=Int.neg_mul ..
   omega
 have bN:Bt 480 (V*M):=(ri.bV.mul ri.bM).mono (by omega)
 refine ⟨N,M,N1,bN.le (by omega) ri.NV,by have:=ri.M0; omega,ri.bM.mono (by omega),fun s hs => ?_⟩
 obtain ⟨sa,s1,⟨k,hk⟩,_⟩:=ri.dv s hs
 have nM:=cF (show 1<=M by have:=ri.M0; omega)
 have nN:=cF N1
 have nl1:=cF l1
 have nl2:=cF am.b1
 have ns:=cF sa.b1
 have eR:(l.1:Rat)*(M:Rat)=(N:Rat)*(l.2:Rat):=by exact_mod_cast e
 have kR:(M:Rat)=(s.2.2.2:Rat)*(k:Rat):=by exact_mod_cast hk
 constructor
 ·refine ⟨s.2.2.1*k,?_⟩
  rw [Rat.intCast_mul]
  unfold vl
  generalize (l.1:Rat)=x1 at *
  generalize (l.2:Rat)=x2 at *
  generalize (M:Rat)=x3 at *
  generalize (N:Rat)=x4 at *
  generalize (s.2.2.1:Rat)=x5 at *
  generalize (s.2.2.2:Rat)=x6 at *
  generalize (k:Rat)=x7 at *
  grind
 ·refine ⟨s.2.2.1*k,?_⟩
  rw [Rat.intCast_mul]
  unfold vl
  generalize (M:Rat)=x3 at *
  generalize (s.2.2.1:Rat)=x5 at *
  generalize (s.2.2.2:Rat)=x6 at *
  generalize (k:Rat)=x7 at *
  grind
end BQ
namespace K25
open PySem PySem.Spec PyProof.Rows L2 GM TM BQ TR
structure Full (rc:List (Str × List Rw))(ws xs:List Str):Prop where
 ord:Ord rc ws xs
 nd:xs.Nodup
 sub : ∀ x ∈ xs,x ∈ rc.map (·.1)
 all : ∀ p ∈ rc,p.1 ∈ xs
def rank (t:Int)(j:Nat):Nat:=if t=0 then j else if t=1 then 100 - j else j*5 % 7
theorem aBo {t:Int}{j k:Nat}(h:Lw t j k)(hj:j < 50)(hk:k < 50):rank t k < rank t j:=by
 unfold rank
 rcases h with ⟨rfl,h⟩ | ⟨rfl,h⟩ | ⟨h,h0,h1⟩
 ·simpa using h
 ·simp; omega
 ·rw [if_neg h0,if_neg h1,if_neg h0,if_neg h1]; exact h
theorem BkS.names {ws rs:List Str}{t:Int}{rc:List (Str × List Rw)}(h:BkS ws rs t rc):(rc.map (·.1)).Nodup:=by
 rw [h.rw.nm]
 exact (List.nodup_append.mp h.nd).2.1
theorem eI {rc:List (Str × List Rw)} : ∀ {j:Nat} {p:Str × List Rw},(rc.map (·.1)).Nodup->rc[j]?=some p->cY rc p.1=thgs p.2:=by
 induction rc with
 | nil=>intro j p _ h; simp at h
 | cons q r ih =>
  intro j p nd h
  rw [List.map_cons] at nd
  have nd':=List.nodup_cons.mp nd
  have none : ∀ (r:List (Str × List Rw)) (x:Str),x ∉ r.map (·.1)->cY r x=[]:=by
   intro r x hx
   unfold cY
   rw [List.flatMap_eq_nil_iff]
   intro q hq
   rw [if_neg (fun e:q.1=x=>hx (e ▸ List.mem_map_of_mem hq))]
  cases j with
  | zero =>
   cases (show some q=some p from h)
   show (if q.1=q.1 then thgs q.2 else []) ++ cY r q.1=thgs q.2
   rw [if_pos rfl,none r q.1 nd'.1,List.append_nil]
  | succ j =>
   have h':r[j]?=some p:=by simpa using h
   have ne:q.1 ≠ p.1:=fun e=>nd'.1 (e ▸ List.mem_map_of_mem (List.mem_of_getElem? h'))
   show (if q.1=p.1 then thgs q.2 else []) ++ cY r p.1=thgs p.2
   rw [if_neg ne,List.nil_append]
   exact ih nd'.2 h'
theorem vO {ws rs xs:List Str}{t:Int}{rc:List (Str × List Rw)}(b:BkS ws rs t rc)(ord:Ord rc ws xs)(e:OrdE rc ws xs):Full rc ws xs:=by
 have nmd:=b.names
 have rl:=b.rw.len
 have r6:=b.r6
 refine ⟨ord,e.nd,e.sub,fun p hp => ?_⟩
 rcases e.full with l | nr
 ·by_cases z:p.1 ∈ xs
  ·exact z
  ·exfalso
   have:=fT (ws:=rc.map (·.1)) (ks:=p.1 :: xs) (List.nodup_cons.mpr ⟨z,e.nd⟩) fun y hy=>by
    rcases List.mem_cons.mp hy with rfl | hy
    ·exact List.mem_map_of_mem hp
    ·exact e.sub y hy
   rw [List.length_cons,List.length_map] at this
   omega
 ·have key : ∀ (n j:Nat) (p:Str × List Rw),rank t j < n->rc[j]?=some p->p.1 ∈ xs:=by
   intro n
   induction n with
   | zero=>intro j p h; omega
   | succ n ih =>
    intro j p hr hj
    have jl:=(List.getElem?_eq_some_iff.mp hj).1
    rcases nr p (List.mem_of_getElem? hj) with h | ⟨y,hy,h⟩
    ·rcases List.mem_append.mp h with h | h
     ·exfalso
      have e2:=b.rw.nm
      have:p.1 ∈ rs:=by rw [<- e2]; exact List.mem_map_of_mem (List.mem_of_getElem? hj)
      exact (List.nodup_append.mp b.nd).2.2 p.1 h p.1 this rfl
     ·exact h
    ·exfalso
     rw [eI nmd hj] at hy
     obtain ⟨r,hr',hy'⟩:=List.mem_flatMap.mp hy
     rcases (b.rw.rw j p hj).2.tg r hr' y hy' with z | ⟨k,hk,lw⟩
     ·exact h (List.mem_append_left _ z)
     ·have kl:=(List.getElem?_eq_some_iff.mp hk).1
      have e2:(rc.map (·.1))[k]?=some y:=by rw [b.rw.nm]; exact hk
      rw [List.getElem?_map] at e2
      obtain ⟨q,hq,e3⟩:=Option.map_eq_some_iff.mp e2
      have:=ih k q (by have:=aBo lw (by omega) (by omega); omega) hq
      exact h (List.mem_append_right _ (by rw [<- e3]; exact this))
  obtain ⟨j,hj⟩:=List.getElem?_of_mem hp
  exact key (rank t j+1) j p (Nat.lt_succ_self _) hj
def tK:Sp:=fun vs H Q _=>∃ (b:Addr) (us:List V) (rc:List (Str × List Rw)) (j:Nat) (p:Str × List Rw),vs=[.ref b,.str p.1]/\BkV H b us rc/\(rc.map (·.1)).Nodup/\RcS rc/\rc[j]?=some p/\∀ l H',Same H H'->H l=none->H' l=some (.lst ((thgs p.2).map V.str))->Q (.ref l) H'
def aBc:Sp:=fun vs H Q _=>∃ (b:Addr) (us:List V) (rc:List (Str × List Rw)),vs=[.ref b]/\BkV H b us rc/\rc.length<=12/\∀ l H',Same H H'->H l=none->H' l=some (.lst ((rc.map (·.1)).map V.str))->Q (.ref l) H'
def oN:Sp:=fun vs H Q _=>∃ (b o:Addr) (ws xs:List Str) (us:List V) (rc:List (Str × List Rw)),vs=[.ref b,.ref o]/\BwV H b ws us rc/\RcS rc/\(rc.map (·.1)).Nodup/\ws.length<=20/\H o=some (.lst (xs.map V.str))/\xs.length<=12/\(∀ p ∈ rc,p.1 ∉ ws) /\
 (∀ p H',Same H H'->p ∈ rc->p.1 ∉ xs->(∀ t ∈ cY rc p.1,t ∈ ws ++ xs)->iY rc ws xs p.1->Q (.str p.1) H')/\(∀ H',Same H H'->(∀ p ∈ rc,NRp rc ws xs p)->Q .non H')
def aBd:Sp:=fun vs H Q _=>∃ (b:Addr) (ws:List Str) (us:List V) (rc:List (Str × List Rw)),vs=[.ref b]/\BwV H b ws us rc/\RcS rc/\(rc.map (·.1)).Nodup/\ws.length<=20/\(∀ p ∈ rc,p.1 ∉ ws) /\
 ∀ (xs:List Str) l H',Same H H'->H l=none->H' l=some (.lst (xs.map V.str))->xs.length<=12->Ord rc ws xs->OrdE rc ws xs->Q (.ref l) H'
section
variable {P:Program}{w:World}{K:PySem.W.Frag}{mg:Str->Option Value}{base:Heap}
theorem ndNT:(["number","thing"]:List Str).Nodup:=by decide +kernel
theorem aDw:FnScope ["row"] ["row"] (aG sThin):=⟨rfl,rfl,rfl,by decide +kernel,rfl,by decide +kernel,by decide +kernel⟩
theorem aCa {f:Addr}{fd:FuncData}(F:Fun K "things_in" "things_in" sThin f fd):FnOk P w K mg base CX0 1 f fd ["row"] gI:=by
 refine F.ok aDw (fun vs H Q E h => ?_) (fun cdv A outer s H vs Q E hr h => ?_)
 ·obtain ⟨_,_,rfl,_⟩:=h
  rfl
 ·obtain ⟨v,r,rfl,rv,tl,k⟩:=h
  refine ⟨_,(aD (bF (aK eG (pit 0 0) bX (aT _))
    (aE (aO (gX (N':=["number","thing"]) (cl:=[]) (g:=gTup K 2 (dZ (dA 0) (dZ (dA 1) gNil))) (fun _=>[none,none]) rfl rfl (by decide +kernel) (by decide +kernel) (eA (by decide +kernel)) (fun _ _=>eM)
    (eJ (pit 0 2)) (fun _ _ _ _ _=>dH rfl (aP (aJ (i:=0) ndNT rfl (Or.inl rfl) (Or.inr rfl)) (aP (aJ (i:=1) ndNT rfl (Or.inl rfl) (Or.inr rfl)) bW))) (fun _ _ _ _ _=>dF)
    (fun _ _ _ _ _=>pv 1))))
    aU)
   (aE (aO (bC (aA (pit 0 2) aC))))),?_⟩
  cases rv with
  | @take p m a x hp hm=>exact ⟨p,_,_,rfl,SqT.of hp,rfl,rfl,_,rfl,iteF ⟨p,_,_,rfl,SqT.of hp,rfl,(by show 1<=sizeLine; decide),fun l hl=>k l _ (Same.upd hl) hl aB⟩⟩
  | @to p n x hp=>exact ⟨p,_,_,rfl,SqT.of hp,rfl,rfl,_,rfl,iteF ⟨p,_,_,rfl,SqT.of hp,rfl,(by show 1<=sizeLine; decide),fun l hl=>k l _ (Same.upd hl) hl aB⟩⟩
  | @fill p m a x hp hm=>exact ⟨p,_,_,rfl,SqT.of hp,rfl,rfl,_,rfl,iteF ⟨p,_,_,rfl,SqT.of hp,rfl,(by show 1<=sizeLine; decide),fun l hl=>k l _ (Same.upd hl) hl aB⟩⟩
  | @parts p m q a us ps hp hm hq hu =>
   have pl:ps.length<=10:=by
    have:(thg (.parts a ps)).length=ps.length:=List.length_map ..
    omega
   have ul:=hu.len
   refine ⟨p,_,_,rfl,SqT.of hp,rfl,rfl,_,rfl,iteT ?_⟩
   refine ⟨p,_,_,rfl,SqT.of hp,rfl,q,rfl,⟨_,SqT.of hq⟩,fun D hD => ?_⟩
   refine dP (Ys.tup (SqT.of hq)) (fun i _ y _=>∀ p:Int × Str,ps[i]?=some p->y = .str p.2) (fun _ _ _ _ _ h _=>h) hD (by omega) (fun i v H' R hv sm hR => ?_) (fun ys H1 s1 hD' yl hy => ?_)
   ·obtain ⟨pp,hpp,z,rfl,hz⟩:=hu.get hv
    exact ⟨z,_,rfl,SqT.of (sm _ _ hz),rfl,_,_,rfl,_,_,rfl,rfl,((Keep.refl _).set rfl).set rfl,_,rfl,hR _ _ (Same.refl _) fun p' hp'=>by rw [hpp] at hp'; cases hp'; rfl⟩
   ·have ey:ys=(thg (.parts a ps)).map V.str:=by
     show ys=(ps.map (·.2)).map V.str
     refine gE (by rw [List.length_map,List.length_map,yl,ul]) fun i x y hx hy' => ?_
     rw [List.map_map,List.getElem?_map] at hx
     cases e:ps[i]? with
     | none=>rw [e] at hx; cases hx
     | some pp =>
      rw [e] at hx
      cases hx
      obtain ⟨u',hu'⟩ : ∃ x,us[i]?=some x:=⟨_,List.getElem?_eq_getElem (by rw [ul]; exact (List.getElem?_eq_some_iff.mp e).1)⟩
      exact hy i u' y hu' hy' pp e
    rw [ey] at hD'
    exact k D H1 s1 hD hD'
theorem tX:FnScope ["book","name","found","row"] ["book","name"] (aG sThof):=⟨rfl,rfl,rfl,by decide +kernel,rfl,by decide +kernel,by decide +kernel⟩
theorem aB9 {f:Addr}{fd:FuncData}(F:Fun K "things_of" "things_of" sThof f fd)(cR:Cal P w K mg base CX0 1 "rows_of" ["book","name"] iD)(cT:Cal P w K mg base CX0 1 "things_in" ["row"] gI):FnOk P w K mg base CX0 2 f fd ["book","name"] tK:=by
 refine F.ok tX (fun vs H Q E h => ?_) (fun cdv A outer s H vs Q E hr h => ?_)
 ·obtain ⟨_,_,_,_,_,rfl,_⟩:=h
  rfl
 ·obtain ⟨b,us,rc,j,p,rfl,bk,nd,rcs,hj,k⟩:=h
  refine ⟨_,(aD (aI (i:=2) tX.nd rfl (Or.inl rfl) (bC aC))
   (aD (bL PassesOwn.never rfl (eJ (aH cR hr rfl aQ (aA (pv 0) (aA (pv 1) aC)))) (aJ (i:=3) tX.nd rfl (Or.inl rfl))
    (aE (bZ (eT PySem.F.plainAttrs_list PySem.F.slot_list_extend PySem.F.type_list_extend eX (pv 2) (aA (aH cT hr rfl aQ (aA (pv 3) aC)) aC)))))
   (aE (aO (pv 2))))),?_⟩
  refine ⟨(by show 0<=sizeLine; decide),fun Fd nF => ?_⟩
  have sF:=Same.upd (o:=.lst []) nF
  refine ⟨_,rfl,_,rfl,b,us,rc,j,p,rfl,bk.keep sF.tk,nd,hj,fun q vs' hq hv => ?_⟩
  have pr:=rcs.rw p (List.mem_of_getElem? hj)
  have vl:=hv.len
  have all10:=fun i=>iA (rs:=p.2.take i) fun r hr=>pr.2 r (List.mem_of_mem_take hr)
  refine ⟨q,rfl,⟨_,SqT.of hq⟩,?_⟩
  refine fP (xs:=vs') (fun i σ H'=>∃ v3:Option V,σ=[some (.ref b),some (.str p.1),some (.ref Fd),v3]/\Same H H'/\H' q=some (.tup vs')/\L2R (RowV H') vs' p.2/\H' Fd=some (.lst ((thgs (p.2.take i)).map V.str))) ⟨none,rfl,sF,hq,hv,aB⟩ (fun i σ H' _ ⟨_,_,_,h,_⟩=>SqT.of h) ?_ ?_
  ·rintro i v σ H1 hv' ⟨v3,rfl,s1,hq1,hv1,hF1⟩
   obtain ⟨r,hr',rv⟩:=hv1.get hv'
   refine ⟨_,rfl,.inl ⟨rfl,_,SqL.of hF1⟩,_,rfl,v,r,rfl,rv,pr.2 r (List.mem_of_getElem? hr'),fun l H2 s2 nl hl => ?_⟩
   have hF2:=s2 _ _ hF1
   have e:thgs (p.2.take (i+1))=thgs (p.2.take i) ++ thg r:=by
    unfold thgs
    rw [List.take_add_one,hr',List.flatMap_append]
    simp
   have l1:=all10 (i+1)
   rw [e,List.length_append,List.length_take] at l1
   refine ⟨Fd,l,_,_,rfl,rfl,hF2,hl,by rw [List.length_map,List.length_map]; exact Nat.le_of_lt (aX (by omega)),?_⟩
   have tk:Tk H2 (upd H2 Fd (.lst ((thgs (p.2.take i)).map V.str ++ (thg r).map V.str))):=Tk.lst hF2
   refine ⟨_,rfl,bQ (s1.trans s2) nF,tk _ _ (s2 _ _ hq1),hv1.imp (fun _ _ x=>RowV.keep (s2.tk.trans tk) x),?_⟩
   rw [aB,e,List.map_append]
  ·rintro σ H1 ⟨v3,rfl,s1,hq1,hv1,hF1⟩
   rw [vl,List.take_length] at hF1
   exact ⟨_,rfl,k Fd H1 s1 nF hF1⟩
theorem ndNR:(["name","rows"]:List Str).Nodup:=by decide +kernel
theorem aF6:FnScope ["book"] ["book"] (aG sRnm):=⟨rfl,rfl,rfl,by decide +kernel,rfl,by decide +kernel,by decide +kernel⟩
theorem aEw {f:Addr}{fd:FuncData}(F:Fun K "recipe_names" "recipe_names" sRnm f fd):FnOk P w K mg base CX0 1 f fd ["book"] aBc:=by
 refine F.ok aF6 (fun vs H Q E h => ?_) (fun cdv A outer s H vs Q E hr h => ?_)
 ·obtain ⟨_,_,_,rfl,_⟩:=h
  rfl
 ·obtain ⟨b,us,rc,rfl,bk,rl,k⟩:=h
  refine ⟨_,(aE (aO (gX (N':=["name","rows"]) (cl:=[]) (g:=gTup K 2 (dZ (dA 0) (dZ (dA 1) gNil))) (fun _=>[none,none]) rfl rfl (by decide +kernel) (by decide +kernel) (eA (by decide +kernel)) (fun _ _=>eM)
    (eJ (pit 0 2)) (fun _ _ _ _ _=>dH rfl (aP (aJ (i:=0) ndNR rfl (Or.inl rfl) (Or.inr rfl)) (aP (aJ (i:=1) ndNR rfl (Or.inl rfl) (Or.inr rfl)) bW))) (fun _ _ _ _ _=>dF)
    (fun _ _ _ _ _=>pv 0)))),?_⟩
  obtain ⟨x,y,g,hb,hg,hu⟩:=bk
  have ul:=hu.len
  refine ⟨b,_,_,rfl,SqT.of hb,rfl,g,rfl,⟨_,SqT.of hg⟩,fun D hD => ?_⟩
  refine dP (Ys.tup (SqT.of hg)) (fun i _ y _=>∀ p:Str × List Rw,rc[i]?=some p->y = .str p.1) (fun _ _ _ _ _ h _=>h) hD (by omega) (fun i v H' R hv sm hR => ?_) (fun ys H1 s1 hD' yl hy => ?_)
  ·obtain ⟨p,hp,z,q,vs',rfl,hz,hq,hrv⟩:=hu.get hv
   exact ⟨z,_,rfl,SqT.of (sm _ _ hz),rfl,_,_,rfl,_,_,rfl,rfl,((Keep.refl _).set rfl).set rfl,_,rfl,hR _ _ (Same.refl _) fun p' hp'=>by rw [hp] at hp'; cases hp'; rfl⟩
  ·have ey:ys=(rc.map (·.1)).map V.str:=by
    refine gE (by rw [List.length_map,List.length_map,yl,ul]) fun i x y hx hy' => ?_
    rw [List.map_map,List.getElem?_map] at hx
    cases e:rc[i]? with
    | none=>rw [e] at hx; cases hx
    | some pp =>
     rw [e] at hx
     cases hx
     obtain ⟨u',hu'⟩ : ∃ x,us[i]?=some x:=⟨_,List.getElem?_eq_getElem (by rw [ul]; exact (List.getElem?_eq_some_iff.mp e).1)⟩
     exact hy i u' y hu' hy' pp e
   rw [ey] at hD'
   exact k D H1 s1 hD hD'
end
theorem aEs {X:Cx}{K:PySem.W.Frag}(h:X.K=K):OpR X (compareOp .In) (rIn K false):=h ▸ eW
section
variable {P:Program}{w:World}{K:PySem.W.Frag}{mg:Str->Option Value}{base:Heap}
theorem ndTh:(["thing","there"]:List Str).Nodup:=by decide +kernel
abbrev Nrdy:List Str:=["book","order","there","name"]
theorem oZ:FnScope Nrdy ["book","order"] (aG sReady):=⟨rfl,rfl,rfl,by decide +kernel,rfl,by decide +kernel,by decide +kernel⟩
theorem xY {f:Addr}{fd:FuncData}(F:Fun K "first_ready" "first_ready" sReady f fd)(T:Txt mg)(cN:Cal P w K mg base CX0 2 "recipe_names" ["book"] aBc)(cT:Cal P w K mg base CX0 2 "things_of" ["book","name"] tK):FnOk P w K mg base CX0 3 f fd ["book","order"] oN:=by
 refine F.ok oZ (fun vs H Q E h => ?_) (fun cdv A outer s H vs Q E hr h => ?_)
 ·obtain ⟨_,_,_,_,_,_,rfl,_⟩:=h
  rfl
 ·obtain ⟨b,o,ws,xs,us,rc,rfl,bw,rcs,nmd,w20,ho,x12,nws,k1,k2⟩:=h
  refine ⟨_,(aD (aI (i:=2) oZ.nd rfl (Or.inr rfl) (aV qK (bJ eQ rfl T.list' iT (aA (pit 0 0) aC)) (pv 1)))
   (aD (bL PassesOwn.never rfl (cJ (aH cN hr rfl aQ (aA (pv 0) aC))) (aJ (i:=3) oZ.nd rfl (Or.inl rfl))
    (aE (bF (PW.pt (jT (aK gC (pv 3) (pv 1) rfl) (gW (eO (aS (wJ rfl) rfl T.all' boot_all (aA
      (fJ (N':=["thing","there"]) (fun σ=>[none,some 2].map fun t=>t.bind fun j=>(σ[j]?).join) rfl rfl (by decide +kernel) (by decide +kernel)
       (lT (sc:=aG sReady) rfl (by decide +kernel)) (fun _ _ _=>fR (sc:=aG sReady) (N:=Nrdy) [none,some 2] rfl rfl rfl rfl (by decide +kernel))
       (cJ (aH cT hr rfl aQ (aA (pv 0) (aA (pv 3) aC)))) (fun _ _ _ _ _ _=>aJ (i:=0) ndTh rfl (Or.inl rfl))
       (fun _ _ _ _ _ _=>dF)
       (fun _ _ _ _ _ _=>fK (aEs (K:=K) rfl) (pv 0) (pv 1) rfl)) aC))))))
     (aE (aO (pv 3)))
     aU)))
   (aE (aO dS)))),?_⟩
  obtain ⟨w',y,g,hb,hw,hg,hu⟩:=id bw
  have rl:=rcs.ln
  refine ⟨b,_,_,rfl,SqT.of hb,rfl,w',_,rfl,.inr (SqT.of hw),fun l1 n1 => ?_⟩
  have s1:=Same.upd (o:=.lst (ws.map V.str)) n1
  refine ⟨_,rfl,l1,o,_,_,rfl,rfl,aB,s1 _ _ ho,by rw [List.length_map,List.length_map]; exact mI (by omega),fun Th nT => ?_⟩
  have sT:=Same.upd (o:=.lst (ws.map V.str ++ xs.map V.str)) nT
  have hT:upd (upd H l1 (.lst (ws.map V.str))) Th (.lst (ws.map V.str ++ xs.map V.str)) Th=some (.lst ((ws ++ xs).map V.str)):=by rw [aB,List.map_append]
  have s2:=s1.trans sT
  generalize upd (upd H l1 (.lst (ws.map V.str))) Th (.lst (ws.map V.str ++ xs.map V.str))=H2 at s2 hT ⊢
  refine ⟨_,rfl,b,us,rc,rfl,bw.bk.keep s2.tk,rcs.ln,fun L H3 s3 nL hL => ?_⟩
  have s23:=s2.trans s3
  refine ⟨L,rfl,⟨_,SqL.of hL⟩,?_⟩
  refine eP (xs:=(rc.map (·.1)).map V.str) (fun i σ H'=>∃ v3:Option V,σ=[some (.ref b),some (.ref o),some (.ref Th),v3]/\Same H3 H'/\∀ i' < i,∀ p,rc[i']?=some p->NRp rc ws xs p) ⟨_,rfl,Same.refl _,fun i' h=>by omega⟩ (fun i σ H' _ ⟨_,_,sm,_⟩=>SqL.of (sm _ _ hL)) ?_ ?_
  ·rintro i v σ H4 hv ⟨v3,rfl,s4,nr⟩
   rw [List.map_map,List.getElem?_map] at hv
   obtain ⟨p,hp,rfl⟩:=Option.map_eq_some_iff.mp hv
   have s24:=s23.trans s4
   have e1:=eI nmd hp
   have nx:NRp rc ws xs p->∀ i' < i+1,∀ p,rc[i']?=some p->NRp rc ws xs p:=fun np i' hi' p' hp'=>by
    rcases Nat.lt_succ_iff_lt_or_eq.mp hi' with z | z
    ·exact nr i' z p' hp'
    ·rw [z,hp] at hp'
     cases hp'
     exact np
   refine ⟨_,rfl,_,rfl,o,_,rfl,.inl (SqL.of (s24 _ _ ho)),rfl,dM _,_,rfl,ite2 (fun h1 => ?_) (fun h1=>iteF ⟨_,rfl,s4,nx (.inl (List.mem_append_right _ (dR.mp (by simpa using h1))))⟩)⟩
   have pn:p.1 ∉ xs:=fun z=>by
    have h1':(!inV (V.str p.1) (xs.map V.str))=true:=h1
    rw [dR.mpr z] at h1'
    cases h1'
   refine ⟨_,rfl,_,rfl,b,us,rc,i,p,rfl,bw.bk.keep s24.tk,nmd,rcs,hp,fun M H5 s5 nM hM => ?_⟩
   refine ⟨M,rfl,⟨_,SqL.of hM⟩,fun D nD => ?_⟩
   have pr:=rcs.rw p (List.mem_of_getElem? hp)
   have tl:=iA pr.2
   have hT5:=(s3.trans (s4.trans s5)) _ _ hT
   refine dP (Ys.list (SqL.of hM)) (fun _ x y _=>y = .bl (inV x ((ws ++ xs).map V.str))) (fun _ _ _ _ _ h _=>h) nD (by rw [List.length_map]; omega) (fun i' v H' R hv' sm hR => ?_) (fun ys H6 s6 hD6 yl hy => ?_)
   ·rw [List.getElem?_map] at hv'
    obtain ⟨t,ht,rfl⟩:=Option.map_eq_some_iff.mp hv'
    exact ⟨(Keep.refl _).set rfl,_,rfl,_,rfl,Th,_,rfl,.inl (SqL.of (sm _ _ hT5)),rfl,dM _,hR _ _ (Same.refl _) rfl⟩
   ·have ey:ys=((thgs p.2).map fun t=>inV (.str t) ((ws ++ xs).map V.str)).map V.bl:=by
     refine gE (by rw [List.length_map,List.length_map,yl,List.length_map]) fun i x y hx hy' => ?_
     rw [List.map_map,List.getElem?_map] at hx
     cases e:(thgs p.2)[i]? with
     | none=>rw [e] at hx; cases hx
     | some t =>
      rw [e] at hx
      cases hx
      exact hy i (.str t) y (by rw [List.getElem?_map,e]; rfl) hy'
    rw [ey] at hD6
    have s36:=s4.trans (s5.trans s6)
    refine ⟨D,_,rfl,SqL.of hD6,_,rfl,ite2 (fun h2 => ?_) (fun h2 => ?_)⟩
    ·have allt : ∀ t ∈ cY rc p.1,t ∈ ws ++ xs:=fun t ht=>by
      rw [e1] at ht
      have:=List.all_eq_true.mp h2 (inV (.str t) ((ws ++ xs).map V.str)) (List.mem_map_of_mem ht)
      exact dR.mp this
     exact ⟨_,rfl,k1 p H6 (s23.trans s36) (List.mem_of_getElem? hp) pn allt ⟨i,p,hp,rfl,(fun z=>z.elim (fun z=>(List.mem_append.mp z).elim (nws p (List.mem_of_getElem? hp)) pn) fun ⟨t,ht,q⟩=>q (allt t ht)),nr⟩⟩
    ·refine ⟨_,rfl,s36,nx (.inr ?_)⟩
     rw [e1]
     refine Classical.byContradiction fun z=>h2 (List.all_eq_true.mpr fun x hx => ?_)
     obtain ⟨t,ht,rfl⟩:=List.mem_map.mp hx
     exact dR.mpr (Classical.byContradiction fun z'=>z ⟨t,ht,z'⟩)
  ·rintro σ H4 ⟨v3,rfl,s4,nr⟩
   refine k2 H4 (s23.trans s4) fun p hp => ?_
   obtain ⟨j,hj⟩:=List.getElem?_of_mem hp
   exact nr j (by rw [List.length_map,List.length_map]; exact (List.getElem?_eq_some_iff.mp hj).1) p hj
theorem xB:FnScope ["book","order","ready"] ["book"] (aG sOof):=⟨rfl,rfl,rfl,by decide +kernel,rfl,by decide +kernel,by decide +kernel⟩
theorem aEz {f:Addr}{fd:FuncData}(F:Fun K "order_of" "order_of" sOof f fd)(cR:Cal P w K mg base CX0 3 "first_ready" ["book","order"] oN):FnOk P w K mg base CX0 4 f fd ["book"] aBd:=by
 refine F.ok xB (fun vs H Q E h => ?_) (fun cdv A outer s H vs Q E hr h => ?_)
 ·obtain ⟨_,_,_,_,rfl,_⟩:=h
  rfl
 ·obtain ⟨b,ws,us,rc,rfl,bw,rcs,nmd,w20,nws,k⟩:=h
  refine ⟨_,(aD (aI (i:=1) xB.nd rfl (Or.inl rfl) (bC aC))
   (aD (aI (i:=2) xB.nd rfl (Or.inl rfl) (aH cR hr rfl aQ (aA (pv 0) (aA (pv 1) aC))))
   (aD (jH PassesOwn.never (aK pG (pv 2) dS (aT _))
    (aD (bZ (eT PySem.F.plainAttrs_list PySem.F.slot_list_append PySem.F.type_list_append bY (pv 1) (aA (pv 2) aC)))
    (aE (aI (i:=2) xB.nd rfl (Or.inl rfl) (aH cR hr rfl aQ (aA (pv 0) (aA (pv 1) aC)))))))
   (aE (aO (pv 1)))))),?_⟩
  have rl:=rcs.ln
  refine ⟨(by show 0<=sizeLine; decide),fun O nO => ?_⟩
  have sO:=Same.upd (o:=.lst []) nO
  have hO:upd H O (.lst []) O=some (.lst []):=aB
  generalize upd H O (.lst [])=H1 at sO hO ⊢
  have len : ∀ {xs:List Str},xs.Nodup->(∀ x ∈ xs,x ∈ rc.map (·.1))->xs.length<=rc.length:=fun nd sub=>by
   have:=fT nd sub
   rw [List.length_map] at this
   exact this
  refine ⟨_,rfl,_,rfl,b,O,ws,[],us,rc,rfl,bw.keep sO.tk,rcs,nmd,w20,hO,Nat.zero_le _,nws,fun p H2 s2 hp pn all fr => ?_,fun H2 s2 nr => ?_⟩
  all_goals
   refine ⟨fun m σ H'=>∃ xs v,σ=[some (.ref b),some (.ref O),some v]/\m=13 - xs.length/\Same H H'/\H' O=some (.lst (xs.map V.str))/\Ord rc ws xs/\xs.Nodup/\(∀ x ∈ xs,x ∈ rc.map (·.1))/\(∀ (i:Nat) x,xs[i]?=some x->iY rc ws (xs.take i) x)/\((∃ p ∈ rc,v = .str p.1/\p.1 ∉ xs/\(∀ t ∈ cY rc p.1,t ∈ ws ++ xs)/\iY rc ws xs p.1)\/(v = .non/\∀ p ∈ rc,NRp rc ws xs p)),?_,?_⟩
  ·exact ⟨_,[],_,rfl,rfl,sO.trans s2,s2 _ _ hO,(fun i x h=>by simp at h),List.nodup_nil,(fun x h=>nomatch h),(fun i x h=>by simp at h),.inl ⟨p,hp,rfl,pn,all,fr⟩⟩
  rotate_left
  ·exact ⟨_,[],_,rfl,rfl,sO.trans s2,s2 _ _ hO,(fun i x h=>by simp at h),List.nodup_nil,(fun x h=>nomatch h),(fun i x h=>by simp at h),.inr ⟨rfl,nr⟩⟩
  all_goals
   rintro m σ H3 ⟨xs,v,rfl,rfl,s3,hO3,ord,xnd,xsub,xfst,alt⟩
   rcases alt with ⟨p,hp,rfl,pn,all,fr⟩ | ⟨rfl,nr⟩
   ·refine ⟨_,rfl,rfl,_,rfl,iteT ?_⟩
    have xl:=len xnd xsub
    have nd2:=iO xnd pn
    have sub2 : ∀ x ∈ xs ++ [p.1],x ∈ rc.map (·.1):=fun x hx=>by
     rcases List.mem_append.mp hx with hx | hx
     ·exact xsub x hx
     ·rw [List.mem_singleton.mp hx]
      exact List.mem_map_of_mem hp
    have xl2:=len nd2 sub2
    rw [List.length_append] at xl2
    replace xl2:xs.length+1<=rc.length:=xl2
    refine ⟨_,fun _ _ h=>h,?_⟩
    refine ⟨_,rfl,.inl ⟨rfl,_,SqL.of hO3⟩,_,rfl,O,_,_,rfl,rfl,hO3,aX (by rw [List.length_map]; omega),?_⟩
    have el:xs.map V.str ++ [V.str p.1]=(xs ++ [p.1]).map V.str:=by simp
    rw [el]
    have s4:Same H (upd H3 O (.lst ((xs ++ [p.1]).map V.str))):=bQ s3 nO
    have hO4:upd H3 O (.lst ((xs ++ [p.1]).map V.str)) O=some (.lst ((xs ++ [p.1]).map V.str)):=aB
    generalize upd H3 O (.lst ((xs ++ [p.1]).map V.str))=H4 at s4 hO4 ⊢
    have lt:13 - (xs ++ [p.1]).length < 13 - xs.length:=by rw [List.length_append]; show 13 - (xs.length+1) < _; omega
    refine ⟨_,rfl,_,rfl,b,O,ws,xs ++ [p.1],us,rc,rfl,bw.keep s4.tk,rcs,nmd,w20,hO4,by rw [List.length_append]; show xs.length+1<=12; omega,nws,fun p' H5 s5 hp' pn' all' fr' => ?_,fun H5 s5 nr' => ?_⟩
    ·exact ⟨_,lt,xs ++ [p.1],_,rfl,rfl,s4.trans s5,s5 _ _ hO4,ord.snoc all,nd2,sub2,iR xfst fr,.inl ⟨p',hp',rfl,pn',all',fr'⟩⟩
    ·exact ⟨_,lt,xs ++ [p.1],_,rfl,rfl,s4.trans s5,s5 _ _ hO4,ord.snoc all,nd2,sub2,iR xfst fr,.inr ⟨rfl,nr'⟩⟩
   ·refine ⟨_,rfl,rfl,_,rfl,iteF ?_⟩
    have xl:=len xnd xsub
    exact ⟨_,rfl,k xs O H3 s3 nO hO3 (by omega) ord ⟨xnd,xsub,.inr nr,xfst⟩⟩
end
end K25
namespace L2
open PySem PySem.Spec PyProof.Rows
end L2
namespace L2
open PySem PySem.Spec PyProof.Rows PySem.W
structure Cal1 (P:Program)(w:World)(K:Frag)(mg:Str->Option Value)(base:Heap)(CX:CXT)(k:Nat)(x:Str)(ps:List Str)(sp:Sp)(dv:V):Prop where
 ex : ∃ (f:Addr) (fd:FuncData) (u:Value),mg x=some (.ref f)/\keepIn K (.ref f)=true/\Binds K fd ps [u]/\RelV dv u/\FnOk P w K mg base CX k f fd ps sp
theorem Cal1.mono {P:Program}{w:World}{K:Frag}{mg:Str->Option Value}{base:Heap}{CX:CXT}{j k:Nat}{x:Str}{ps:List Str}{sp:Sp}{dv:V}(C:Cal1 P w K mg base CX j x ps sp dv)(h:j<=k):Cal1 P w K mg base CX k x ps sp dv:=by
 obtain ⟨f,fd,u,hm,hk,hb,r,F⟩:=C.ex
 exact ⟨f,fd,u,hm,hk,hb,r,F.mono h⟩
theorem pF {X:Cx}{CX:CXT}{k:Nat}{x:Str}{ps:List Str}{sp:Sp}{dv:V}{E:XK}{e:Expr}{es:List Expr}{t:TA}{p pos:Pos}(C:Cal1 X.prog X.w X.K X.mg X.base CX k x ps sp dv)(hr:Room k X.A)(hg:Gl X x)(hx:gG CX X E)
  (ha:PA X (e :: es) t) (hdb:(x == ("__debug__" : Str))=false:=by decide) (he:starEach (e :: es) X.env=(false,eval e X.env) :: starEach es X.env:=by rfl) (hpl:(backTo pos (starEach es X.env)).any (·.1)=false:=by rfl) :
  PE X (.Call (.Name x p) (e :: es) [] pos) (oJ sp [dv] E t):=by
 obtain ⟨f,fd,u,hm,hk,hb,r,F⟩:=C.ex
 exact uJ F hr hg hm hk hb (.cons r .nil) hx ha hdb he hpl
end L2
namespace L2
open PySem PySem.Spec PyProof.Rows
theorem kB {K:PySem.W.Frag}{a:Addr}{xs:List V}{g:TG}{tb:TS}{D:Ends}{σ:St}{H:Hp}(Pv:Nat->St->Hp->Prop)(h0:Pv 0 σ H)(hl : ∀ i σ H,i<=xs.length->Pv i σ H->SqL K H a xs)
  (hs : ∀ i x σ H (D':Ends),(∀ σ' H',Pv (i+1) σ' H'->D'.nx σ' H')->xs[i]?=some x->Pv i σ H->g x σ H (tb D')) (hd : ∀ σ H,Pv xs.length σ H->D.nx σ H) :
  ∃ W:Nat->Nat->St->Hp->Prop,(∃ m,W 0 m σ H)/\∀ i m σ H,W i m σ H ->
   ((Itl K a).stop i H/\D.nx σ H)\/((Itl K a).go i H/\∃ N:St->Hp->Prop,(∀ σ' H',N σ' H'->∃ m',m' < m/\W (i+1) m' σ' H')/\∀ x H',(Itl K a).yld i H x H'->g x σ H' fun σ2 H2=>tb { D with nx:=N,ct:=N,bk:=D.nx } σ2 H2) :=
 eP Pv h0 hl (fun i x σ H hx p=>hs i x σ H { D with nx:=Pv (i+1),ct:=Pv (i+1),bk:=D.nx } (fun _ _ h=>h) hx p) hd
theorem zH {K:PySem.W.Frag}{a:Addr}{xs:List V}{g:TG}{tb:TS}{D:Ends}{σ:St}{H:Hp}(Pv:Nat->St->Hp->Prop)(h0:Pv 0 σ H)(hl : ∀ i σ H,i<=xs.length->Pv i σ H->SqT K H a xs)
  (hs : ∀ i x σ H (D':Ends),(∀ σ' H',Pv (i+1) σ' H'->D'.nx σ' H')->xs[i]?=some x->Pv i σ H->g x σ H (tb D')) (hd : ∀ σ H,Pv xs.length σ H->D.nx σ H) :
  ∃ W:Nat->Nat->St->Hp->Prop,(∃ m,W 0 m σ H)/\∀ i m σ H,W i m σ H ->
   ((Itt K a).stop i H/\D.nx σ H)\/((Itt K a).go i H/\∃ N:St->Hp->Prop,(∀ σ' H',N σ' H'->∃ m',m' < m/\W (i+1) m' σ' H')/\∀ x H',(Itt K a).yld i H x H'->g x σ H' fun σ2 H2=>tb { D with nx:=N,ct:=N,bk:=D.nx } σ2 H2) :=
 fP Pv h0 hl (fun i x σ H hx p=>hs i x σ H { D with nx:=Pv (i+1),ct:=Pv (i+1),bk:=D.nx } (fun _ _ h=>h) hx p) hd
theorem rY {lo:Int}{n:Nat}{g:TG}{tb:TS}{D:Ends}{σ:St}{H:Hp}(Pv:Nat->St->Hp->Prop)(h0:Pv 0 σ H)
  (hs : ∀ i σ H (D':Ends),(∀ σ' H',Pv (i+1) σ' H'->D'.nx σ' H')->i < n->Pv i σ H->g (.int (lo+i)) σ H (tb D')) (hd : ∀ σ H,Pv n σ H->D.nx σ H) :
  ∃ W:Nat->Nat->St->Hp->Prop,(∃ m,W 0 m σ H)/\∀ i m σ H,W i m σ H ->
   ((Itr lo n).stop i H/\D.nx σ H)\/((Itr lo n).go i H/\∃ N:St->Hp->Prop,(∀ σ' H',N σ' H'->∃ m',m' < m/\W (i+1) m' σ' H')/\∀ x H',(Itr lo n).yld i H x H'->g x σ H' fun σ2 H2=>tb { D with nx:=N,ct:=N,bk:=D.nx } σ2 H2) :=
 dU Pv h0 (fun i σ H hi p=>hs i σ H { D with nx:=Pv (i+1),ct:=Pv (i+1),bk:=D.nx } (fun _ _ h=>h) hi p) hd
end L2
namespace K25
open PySem PySem.Spec PyProof.Rows L2 GM TM BQ TR
structure DK (kvs:List (Key × V))(ks:List Str):Prop where
 keys:kvs.map (·.1)=ks.map Sum.inr
 nd:ks.Nodup
theorem DK.nil:DK [] []:=⟨rfl,.nil⟩
theorem DK.len {kvs:List (Key × V)}{ks:List Str}(h:DK kvs ks):kvs.length=ks.length:=by
 have:=congrArg List.length h.keys
 rwa [List.length_map,List.length_map] at this
theorem DK.get {kvs:List (Key × V)}{ks:List Str}(h:DK kvs ks)(y:Str):(valV kvs (Sum.inr y)).isSome=true ↔ y ∈ ks:=by
 rw [<- eZ,List.any_eq_true]
 constructor
 ·rintro ⟨kv,hm,e⟩
  have e':kv.1=Sum.inr y:=of_decide_eq_true e
  have:kv.1 ∈ ks.map Sum.inr:=by rw [<- h.keys]; exact List.mem_map.mpr ⟨kv,hm,rfl⟩
  obtain ⟨z,hz,ez⟩:=List.mem_map.mp this
  rw [e'] at ez
  cases ez
  exact hz
 ·intro hy
  have:Sum.inr y ∈ kvs.map (·.1):=by rw [h.keys]; exact List.mem_map.mpr ⟨y,hy,rfl⟩
  obtain ⟨kv,hm,e⟩:=List.mem_map.mp this
  exact ⟨kv,hm,decide_eq_true e⟩
theorem DK.put {kvs:List (Key × V)}{ks:List Str}(h:DK kvs ks)(y:Str)(v:V) : ∃ ks',DK (putK kvs (Sum.inr y) v) ks'/\(∀ z,z ∈ ks' ↔ z ∈ ks\/z=y)/\ks'.length<=ks.length+1:=by
 unfold putK
 split
 ·rename_i hany
  have hy:y ∈ ks:=(h.get y).mp (by rw [<- eZ]; exact hany)
  refine ⟨ks,⟨?_,h.nd⟩,fun z=>⟨.inl,fun q=>q.elim id fun e=>e ▸ hy⟩,Nat.le_succ _⟩
  rw [<- h.keys,List.map_map]
  refine List.map_congr_left fun kv _ => ?_
  show (if kv.1=Sum.inr y then (kv.1,v) else kv).1=kv.1
  split <;> rfl
 ·rename_i hany
  have hy:y ∉ ks:=fun q=>hany (by rw [eZ]; exact (h.get y).mpr q)
  refine ⟨ks ++ [y],⟨by rw [List.map_append,List.map_append,h.keys]; rfl,?_⟩,fun z=>by simp,by simp⟩
  exact List.nodup_append.mpr ⟨h.nd,by simp,fun a ha b hb e=>hy (by rw [List.mem_singleton.mp hb] at e; exact e ▸ ha)⟩
def Pr (H:Hp)(v:V)(x:Str × Int × Int):Prop:=∃ p q,v = .ref p/\H p=some (.tup [.str x.1,.ref q])/\H q=some (.tup [.int x.2.1,.int x.2.2])
theorem Pr.keep {H H':Hp}{v:V}{x:Str × Int × Int}(h:Pr H v x)(k:Tk H H'):Pr H' v x:=by
 obtain ⟨p,q,e,h1,h2⟩:=h
 exact ⟨p,q,e,k _ _ h1,k _ _ h2⟩
inductive PrL (H:Hp):List V->List (Str × Int × Int)->Prop where
 | nil:PrL H [] []
 | cons {v x vs xs}:Pr H v x->PrL H vs xs->PrL H (v :: vs) (x :: xs)
theorem PrL.keep {H H':Hp}{vs:List V}{xs:List (Str × Int × Int)}(h:PrL H vs xs)(k:Tk H H'):PrL H' vs xs:=by
 induction h with
 | nil=>exact .nil
 | cons p _ ih=>exact .cons (p.keep k) ih
theorem PrL.length {H:Hp}{vs:List V}{xs:List (Str × Int × Int)}(h:PrL H vs xs):vs.length=xs.length:=by
 induction h with
 | nil=>rfl
 | cons _ _ ih=>simp [ih]
theorem PrL.append {H:Hp}{vs us:List V}{xs ys:List (Str × Int × Int)}(h:PrL H vs xs)(k:PrL H us ys):PrL H (vs ++ us) (xs ++ ys):=by
 induction h with
 | nil=>exact k
 | cons p _ ih=>exact .cons p ih
theorem aEb {x:Rat}(h:0 < x):x ≠ 0:=fun e=>by rw [e] at h; exact absurd h (by decide)
theorem sV {rc:List (Str × List Rw)}(nm:(rc.map (·.1)).Nodup){p q:Str × List Rw}(hp:p ∈ rc)(hq:q ∈ rc)(e:q.1=p.1):q=p:=by
 induction rc with
 | nil=>exact nomatch hp
 | cons r rs ih =>
  rw [List.map_cons] at nm
  have nm':=List.nodup_cons.mp nm
  rcases List.mem_cons.mp hp with h1 | h1 <;> rcases List.mem_cons.mp hq with h2 | h2
  ·rw [h1,h2]
  ·exact absurd (by rw [<- h1,<- e]; exact List.mem_map_of_mem h2) nm'.1
  ·exact absurd (by rw [<- h2,e]; exact List.mem_map_of_mem h1) nm'.1
  ·exact ih nm'.2 h1 h2
theorem sU : ∀ {kvs:List (Key × V)} {j:Nat} {kv:Key × V},(kvs.map (·.1)).Nodup->kvs[j]?=some kv->valV kvs kv.1=some kv.2
 | x :: r,0,kv,_,h=>by
  cases (show some x=some kv from h)
  exact dN rfl
 | x :: r,j+1,kv,nd,h=>by
  rw [List.map_cons] at nd
  have nd':=List.nodup_cons.mp nd
  have h':r[j]?=some kv:=by simpa using h
  rw [dO (fun e=>nd'.1 (e ▸ List.mem_map_of_mem (List.mem_of_getElem? h')))]
  exact sU nd'.2 h'
theorem lL {H:Hp} : ∀ {us:List V} {rc:List (Str × List Rw)},L2R (RecV H) us rc->∃ kvs:List (Key × V),us.length=kvs.length/\kvs.map (·.1)=(rc.map (·.1)).map Sum.inr/\(∀ (i:Nat) u kv,us[i]?=some u->kvs[i]?=some kv->∃ z,u = .ref z/\H z=some (.tup [kV kv.1,kv.2])) /\
  ∀ (j:Nat) p,rc[j]?=some p->∃ q vs,kvs[j]?=some (Sum.inr p.1,.ref q)/\H q=some (.tup vs)/\L2R (RowV H) vs p.2
 | [],[],_=>⟨[],rfl,rfl,(fun i u kv h=>by simp at h),(fun j p h=>by simp at h)⟩
 | u :: us,p :: rc,h=>by
  obtain ⟨kvs,a1,a2,a3,a4⟩:=lL (us:=us) (rc:=rc) ⟨by have:=h.len; simpa using this,fun i u' p' hu hp=>h.at' (i+1) u' p' (by simpa using hu) (by simpa using hp)⟩
  obtain ⟨z,q,vs,rfl,hz,hq,hv⟩:=h.at' 0 u p rfl rfl
  refine ⟨(Sum.inr p.1,.ref q) :: kvs,by simp [a1],by simp [a2],fun i u' kv hu hkv => ?_,fun j p' hp' => ?_⟩
  ·cases i with
   | zero =>
    cases (show some (V.ref z)=some u' from hu)
    cases (show some ((Sum.inr p.1:Key),V.ref q)=some kv from hkv)
    exact ⟨z,rfl,hz⟩
   | succ i=>exact a3 i u' kv (by simpa using hu) (by simpa using hkv)
  ·cases j with
   | zero =>
    cases (show some p=some p' from hp')
    exact ⟨q,vs,rfl,hq,hv⟩
   | succ j =>
    obtain ⟨q',vs',b1,b2,b3⟩:=a4 j p' (by simpa using hp')
    exact ⟨q',vs',by simpa using b1,b2,b3⟩
 | [],_ :: _,h=>by have:=h.len; simp at this
 | _ :: _,[],h=>by have:=h.len; simp at this
theorem aDd {a l s:BQ.Q}(ha:Am a)(hl:Am l)(l1:1<=l.1)(hs:Am s):vl (due a l s)=vl s*(vl a / vl l):=by
 have h1:=ha.t0
 have h2:=hs.t0
 have h3:=hl.b1
 unfold due
 rw [aDc (Int.mul_nonneg (Int.mul_nonneg h2 h1) (by omega)) (BQ.mul1 (BQ.mul1 hs.b1 ha.b1) l1)]
 have n1:=cF l1
 have n2:=cF hl.b1
 have n3:=cF ha.b1
 have n4:=cF hs.b1
 unfold vl
 simp only [Rat.intCast_mul]
 generalize (a.1:Rat)=a1 at *
 generalize (a.2:Rat)=a2 at *
 generalize (l.1:Rat)=x1 at *
 generalize (l.2:Rat)=x2 at *
 generalize (s.1:Rat)=s1 at *
 generalize (s.2:Rat)=s2 at *
 grind
theorem aCy {a l s:BQ.Q}(ha:Am a)(hl:Am l)(l1:1<=l.1)(hs:Am s):Am (due a l s):=by
 have h1:=ha.t0
 have h2:=hs.t0
 have h3:=hl.b1
 exact gP (Int.mul_nonneg (Int.mul_nonneg h2 h1) (by omega)) (BQ.mul1 (BQ.mul1 hs.b1 ha.b1) l1)
theorem rL {i:Int}{l:BQ.Q}{r:Rw}{s:Pu}(h:s ∈ rowP i l r):s.2.1 ∈ thg r:=by
 cases r with
 | take a x=>rw [List.mem_singleton.mp (show s ∈ [(i,x,a)] from h)]; exact List.mem_singleton_self _
 | to n x=>rw [List.mem_singleton.mp (show s ∈ [(i,x,lw (l.1*n) l.2)] from h)]; exact List.mem_singleton_self _
 | fill a x =>
  have h':s ∈ if 0 < (dI a l).1 then [(i,x,dI a l)] else []:=h
  split at h'
  ·rw [List.mem_singleton.mp h']; exact List.mem_singleton_self _
  ·exact nomatch h'
 | parts a ps =>
  obtain ⟨p,hp,rfl⟩:=List.mem_map.mp (show s ∈ ps.map fun p=>(i,p.2,lw (a.1*p.1) (a.2*ptot ps)) from h)
  exact List.mem_map_of_mem (f:=fun p:Int × Str=>p.2) hp
theorem Rs.things {rr:List Rw}{ps:List Pu}{l:BQ.Q}(h:Rs rr ps l) : ∀ s ∈ ps,s.2.1 ∈ thgs rr:=by
 induction h with
 | nil=>exact fun s h=>nomatch h
 | @snoc rs ps l r h ok ih =>
  intro s hs
  unfold thgs
  rw [List.flatMap_append]
  rcases List.mem_append.mp hs with h' | h'
  ·exact List.mem_append_left _ (ih s h')
  ·exact List.mem_append_right _ (by simpa using rL h')
theorem rq5 {v m:Rat}(h:v ≠ 0):v*(m / v)=m:=by grind
theorem iH {lvs:List (List (Str × Int × Int))}{i:Nat}{lv:List (Str × Int × Int)}(h:lvs[i]?=some lv):(lvs.take (i+1)).flatten=(lvs.take i).flatten ++ lv:=by
 rw [List.take_add_one,h,List.flatten_append]
 simp
theorem qS {lvs:List (List (Str × Int × Int))}(i:Nat):(lvs.take i).flatten.length<=lvs.flatten.length:=by
 conv=>rhs; rw [<- List.take_append_drop i lvs,List.flatten_append,List.length_append]
 omega
structure SI (rc:List (Str × List Rw))(xs:List Str)(f:Str->Int):Prop where
 one : ∀ y,y ∉ xs->f y=1
 ge : ∀ y,1<=f y
 rc : ∀ p ∈ rc,p.1 ∈ xs->∀ ps l,Rs p.2 ps l->f p.1=1+(ps.map fun s=>f s.2.1).sum
theorem zW : ∀ {ms:List Int},(∀ m ∈ ms,1<=m)->(ms.length:Int)<=ms.sum
 | [],_=>by simp
 | m :: r,h=>by
  have h1:=h m (List.mem_cons_self ..)
  have h2:=zW (ms:=r) fun x hx=>h x (List.mem_cons_of_mem _ hx)
  rw [List.sum_cons,List.length_cons]
  omega
def upf (f:Str->Int)(x:Str)(n:Int):Str->Int:=fun y=>if y=x then n else f y
theorem qL {ps:List Pu}{f g:Str->Int}(h : ∀ s ∈ ps,f s.2.1=g s.2.1):(ps.map fun s=>f s.2.1)=ps.map fun s=>g s.2.1:=List.map_congr_left fun s hs=>h s hs
theorem SI.step {rc:List (Str × List Rw)}{xs:List Str}{f:Str->Int}(h:SI rc xs f)(nm:(rc.map (·.1)).Nodup){p:Str × List Rw}(hp:p ∈ rc){ps:List Pu}{l:BQ.Q}(hrs:Rs p.2 ps l)(out : ∀ q ∈ rc,q.1 ∈ xs ++ [p.1]->∀ ps l,Rs q.2 ps l->∀ s ∈ ps,s.2.1 ≠ p.1):SI rc (xs ++ [p.1]) (upf f p.1 (1+(ps.map fun s=>f s.2.1).sum)):=by
 have low:(0:Int)<=(ps.map fun s=>f s.2.1).sum:=by
  have:=zW (ms:=ps.map fun s=>f s.2.1) fun m hm=>by
   obtain ⟨s,_,rfl⟩:=List.mem_map.mp hm
   exact h.ge _
  omega
 refine ⟨fun y hy => ?_,fun y => ?_,fun q hq hqx ps' l' hrs' => ?_⟩
 ·unfold upf
  rw [if_neg (fun e=>hy (by rw [e]; simp))]
  exact h.one y fun z=>hy (List.mem_append_left _ z)
 ·unfold upf
  split
  ·omega
  ·exact h.ge y
 ·have e:(ps'.map fun s=>upf f p.1 (1+(ps.map fun s=>f s.2.1).sum) s.2.1)=ps'.map fun s=>f s.2.1:=qL fun s hs=>by
   unfold upf
   rw [if_neg (out q hq hqx ps' l' hrs' s hs)]
  rw [e]
  unfold upf
  by_cases z:q.1=p.1
  ·rw [if_pos z]
   have:=sV nm hp hq z
   subst this
   obtain ⟨e1,_⟩:=hrs'.det hrs
   rw [e1]
  ·rw [if_neg z]
   rcases List.mem_append.mp hqx with w | w
   ·exact h.rc q hq w ps' l' hrs'
   ·exact absurd (List.mem_singleton.mp w) z
theorem SI.uniq {rc:List (Str × List Rw)}{ws rs xs ys:List Str}{t:Int}{f g:Str->Int}(b:BkS ws rs t rc)(h:SI rc xs f)(k:SI rc ys g)(F:Full rc ws xs)(G:Full rc ws ys) : ∀ y,f y=g y:=by
 have mem : ∀ z,z ∈ xs ↔ z ∈ ys:=fun z=>⟨fun hz=>by
  obtain ⟨p,hp,rfl⟩:=List.mem_map.mp (F.sub z hz)
  exact G.all p hp,fun hz=>by
  obtain ⟨p,hp,rfl⟩:=List.mem_map.mp (G.sub z hz)
  exact F.all p hp⟩
 have key : ∀ (n i:Nat) (y:Str),i < n->xs[i]?=some y->f y=g y:=by
  intro n
  induction n with
  | zero=>intro i y h; omega
  | succ n ih =>
   intro i y hi hy
   have ym:=List.mem_of_getElem? hy
   obtain ⟨p,hp,rfl⟩:=List.mem_map.mp (F.sub y ym)
   obtain ⟨j,hj⟩:=List.getElem?_of_mem hp
   obtain ⟨ps,l,hrs⟩:=(b.rw.rw j p hj).2.ok
   rw [h.rc p hp ym ps l hrs,k.rc p hp ((mem _).mp ym) ps l hrs]
   congr 2
   refine qL fun s hs => ?_
   have h1:=Rs.things hrs s hs
   rw [<- eI b.names hj] at h1
   rcases F.ord i p.1 hy _ h1 with z | z
   ·have nx:s.2.1 ∉ xs:=fun w=>by
     obtain ⟨q,hq,e⟩:=List.mem_map.mp (F.sub _ w)
     have:s.2.1 ∈ rs:=by rw [<- b.rw.nm,<- e]; exact List.mem_map_of_mem hq
     exact (List.nodup_append.mp b.nd).2.2 _ z _ this rfl
    rw [h.one _ nx,k.one _ fun w=>nx ((mem _).mpr w)]
   ·obtain ⟨i',hi'⟩:=List.getElem?_of_mem z
    have lt:i' < i:=by
     have:=(List.getElem?_eq_some_iff.mp hi').1
     rw [List.length_take] at this
     omega
    rw [List.getElem?_take_of_lt lt] at hi'
    exact ih i' _ (by omega) hi'
 intro y
 by_cases hy:y ∈ xs
 ·obtain ⟨i,hi⟩:=List.getElem?_of_mem hy
  exact key (i+1) i y (Nat.lt_succ_self _) hi
 ·rw [h.one y hy,k.one y fun w=>hy ((mem y).mpr w)]
def iC (K:PySem.W.Frag):Sp:=fun vs H Q _=>∃ (b:Addr) (x:Str) (ws rs:List Str) (t:Int) (us:List V) (rc:List (Str × List Rw)),vs=[.ref b,.str x]/\BwV H b ws us rc/\BkS ws rs t rc /\
 ∀ f xs H',Same H H'->Full rc ws xs->SI rc xs f->Q (.int (f x)) H'
structure ID (H:Hp)(d:Addr)(kvs:List (Key × V))(ks:List Str)(f:Str->Int):Prop where
 hd:H d=some (.dK kvs)
 dk:DK kvs ks
 at' : ∀ y,(valV kvs (Sum.inr y)).getD (.int 1) = .int (f y)
section
variable {P:Program}{w:World}{K:PySem.W.Frag}{mg:Str->Option Value}{base:Heap}
theorem ndSi:(["place","part","many","sizes"]:List Str).Nodup:=by decide +kernel
abbrev Nsi:List Str:=["book","thing","sizes","name","written"]
theorem jE:FnScope Nsi ["book","thing"] (aG sSizeOf):=⟨rfl,rfl,rfl,by decide +kernel,rfl,by decide +kernel,by decide +kernel⟩
theorem uP {f:Addr}{fd:FuncData}(F:Fun K "size_of" "size_of" sSizeOf f fd)(T:Txt mg)(cO:Cal P w K mg base CX0 6 "order_of" ["book"] aBd)(cR:Cal P w K mg base CX0 6 "rows_of" ["book","name"] iD)(cW:Cal P w K mg base CX0 6 "puts_as_written" ["rows"] (wZ K)):FnOk P w K mg base CX0 7 f fd ["book","thing"] (iC K):=by
 refine F.ok jE (fun vs H Q E h => ?_) (fun cdv A outer s H vs Q E hr h => ?_)
 ·obtain ⟨_,_,_,_,_,_,_,rfl,_⟩:=h
  rfl
 ·obtain ⟨b,x,ws,rs,t,us,rc,rfl,bw,bks,k⟩:=h
  refine ⟨_,(aD (aI (i:=2) jE.nd rfl (Or.inr rfl) lP)
   (aD (bL PassesOwn.never rfl (cJ (aH cO hr rfl aQ (aA (pv 0) aC))) (aJ (i:=3) jE.nd rfl (Or.inl rfl))
    (aD (aI (i:=4) jE.nd rfl (Or.inl rfl) (aH cW hr rfl aQ (aA (aH cR hr rfl aQ (aA (pv 0) (aA (pv 3) aC))) aC)))
    (aE (iM (fO hr) (pv 2) (pv 3) (aV cX aF (aS (lZ rfl) rfl T.sum' boot_sum (aA (fJ (N':=["place","part","many","sizes"]) (g:=gTup K 3 (dZ (dA 0) (dZ (dA 1) (dZ (dA 2) gNil)))) (fun σ=>[none,none,none,some 2].map fun t=>t.bind fun j=>(σ[j]?).join) rfl rfl (by decide +kernel) (by decide +kernel)
       (lT (sc:=aG sSizeOf) rfl (by decide +kernel)) (fun _ _ _=>fR (sc:=aG sSizeOf) (N:=Nsi) [none,none,none,some 2] rfl rfl rfl rfl (by decide +kernel))
       (cJ (pv 4)) (fun _ _ _ _ _ _=>dH rfl (aP (aJ (i:=0) ndSi rfl (Or.inl rfl) (Or.inr rfl)) (aP (aJ (i:=1) ndSi rfl (Or.inl rfl) (Or.inr rfl)) (aP (aJ (i:=2) ndSi rfl (Or.inl rfl) (Or.inr rfl)) bW))))
       (fun _ _ _ _ _ _=>dF)
       (fun _ _ _ _ _ _=>qJ (fO hr) (pv 3) (pv 1) aF ⟨rfl,rfl,rfl,rfl⟩)) aC))) rfl))))
   (aE (aO (qJ (fO hr) (pv 2) (pv 1) aF ⟨rfl,rfl,rfl,rfl⟩))))),?_⟩
  have rcs:=bks.rw.rcs (by have:=bks.r6; omega)
  have nmd:=bks.names
  have rl:=bks.rw.len
  have r6:=bks.r6
  have w6:=bks.w6
  have inrs : ∀ {z:Str},z ∈ rc.map (·.1)->z ∈ rs:=fun hz=>by rw [<- bks.rw.nm]; exact hz
  refine fun d nd => ?_
  have sd:=Same.upd (o:=.dK []) nd
  have hd1:upd H d (.dK []) d=some (.dK []):=aB
  generalize upd H d (.dK [])=H1 at sd hd1 ⊢
  refine ⟨_,rfl,b,ws,us,rc,rfl,bw.keep sd.tk,rcs,nmd,by omega,(fun p hp z=>(List.nodup_append.mp bks.nd).2.2 p.1 z p.1 (inrs (List.mem_map_of_mem hp)) rfl),fun xs L H2 s2 nL hL x12 ord orde => ?_⟩
  have full:=vO bks ord orde
  have LD:L ≠ d:=fun e=>by rw [e,hd1] at nL; cases nL
  have xl:xs.length<=rc.length:=by
   have:=fT full.nd full.sub
   rw [List.length_map] at this
   exact this
  refine ⟨L,rfl,⟨_,SqL.of hL⟩,?_⟩
  refine eP (xs:=xs.map V.str) (fun i σ H'=>∃ (v3 v4:Option V) (kvs:List (Key × V)) (ks:List Str) (g:Str->Int),σ=[some (.ref b),some (.str x),some (.ref d),v3,v4]/\Same H H'/\H' L=some (.lst (xs.map V.str))/\ID H' d kvs ks g/\SI rc (xs.take i) g/\ks.length<=i)
   ⟨_,_,[],[],fun _=>1,rfl,sd.trans s2,hL,⟨s2 _ _ hd1,DK.nil,fun y=>rfl⟩,⟨(fun _ _=>rfl),(fun _=>by decide),(fun p _ h=>by simp at h)⟩,Nat.le_refl _⟩ (fun i σ H' _ ⟨_,_,_,_,_,_,_,h,_⟩=>SqL.of h) ?_ ?_
  ·rintro i v σ H3 hv ⟨v3,v4,kvs,ks,g,rfl,s3,hL3,idd,si,kl⟩
   rw [List.getElem?_map] at hv
   obtain ⟨y,hy,rfl⟩:=Option.map_eq_some_iff.mp hv
   have il:=(List.getElem?_eq_some_iff.mp hy).1
   obtain ⟨p,hp,rfl⟩:=List.mem_map.mp (full.sub y (List.mem_of_getElem? hy))
   obtain ⟨j,hj⟩:=List.getElem?_of_mem hp
   obtain ⟨p1,rok⟩:=bks.rw.rw j p hj
   obtain ⟨ps,l,hrs⟩:=rok.ok
   have ps20:=(hrs.sz rok.ln).2.2.2.2.2.2
   have etk:xs.take (i+1)=xs.take i ++ [p.1]:=by rw [List.take_add_one,hy]; rfl
   refine ⟨_,rfl,_,rfl,b,us,rc,j,p,rfl,bw.bk.keep s3.tk,nmd,hj,fun q vs' hq hv' => ?_⟩
   refine ⟨q,vs',p.2,ps,l,rfl,hq,hv',hrs,rok.ln,fun z pv' H4 s4 nz hz hpv => ?_⟩
   have id4:ID H4 d kvs ks g:=⟨s4 _ _ idd.hd,idd.dk,idd.at'⟩
   have pvl:=hpv.len
   refine ⟨_,rfl,z,rfl,⟨_,SqL.of hz⟩,fun C nC => ?_⟩
   refine dP (Ys.list (SqL.of hz)) (fun i _ y _=>∀ s:Pu,ps[i]?=some s->y = .int (g s.2.1)) (fun _ _ _ _ _ h _=>h) nC (by omega) (fun i v H' R hv sm hR => ?_) (fun ys H5 s5 hC yl hys => ?_)
   ·obtain ⟨sp,hsp,zz,mm,rfl,hzz,hmm⟩:=hpv.get hv
    refine ⟨zz,_,rfl,SqT.of (sm _ _ hzz),rfl,_,_,rfl,_,_,rfl,_,_,rfl,rfl,(((Keep.refl _).set rfl).set rfl).set rfl,?_⟩
    refine ⟨_,rfl,d,rfl,.inl ⟨_,.inl (sm _ _ id4.hd)⟩,_,rfl,_,DGet.k (k:=Sum.inr sp.2.1) (sm _ _ id4.hd),?_⟩
    rw [id4.at']
    exact hR _ _ (Same.refl _) fun s' hs'=>by rw [hsp] at hs'; cases hs'; rfl
   ·have ey:ys=(ps.map fun s=>g s.2.1).map V.int:=by
     refine gE (by rw [List.length_map,List.length_map,yl,pvl]) fun i x y hx hy' => ?_
     rw [List.map_map,List.getElem?_map] at hx
     cases e:ps[i]? with
     | none=>rw [e] at hx; cases hx
     | some sp =>
      rw [e] at hx
      cases hx
      obtain ⟨u',hu'⟩ : ∃ x,pv'[i]?=some x:=⟨_,List.getElem?_eq_getElem (by rw [pvl]; exact (List.getElem?_eq_some_iff.mp e).1)⟩
      exact hys i u' y hu' hy' sp e
    subst ey
    have out : ∀ q ∈ rc,q.1 ∈ xs.take i ++ [p.1]->∀ ps l,Rs q.2 ps l->∀ s ∈ ps,s.2.1 ≠ p.1:=fun q hq hqx ps l hrs s hs e=>by
     rw [<- etk] at hqx
     obtain ⟨i',hi'⟩:=List.getElem?_of_mem hqx
     have lt:i' < i+1:=by
      have:=(List.getElem?_eq_some_iff.mp hi').1
      rw [List.length_take] at this
      omega
     rw [List.getElem?_take_of_lt lt] at hi'
     obtain ⟨j',hj'⟩:=List.getElem?_of_mem hq
     have h1:=Rs.things hrs s hs
     rw [<- eI nmd hj',e] at h1
     rcases ord i' q.1 hi' _ h1 with z | z
     ·exact (List.nodup_append.mp bks.nd).2.2 p.1 z p.1 (inrs (List.mem_map_of_mem hp)) rfl
     ·obtain ⟨i2,hi2⟩:=List.getElem?_of_mem z
      have lt2:i2 < i':=by
       have:=(List.getElem?_eq_some_iff.mp hi2).1
       rw [List.length_take] at this
       omega
      rw [List.getElem?_take_of_lt lt2] at hi2
      have pw:=List.pairwise_iff_getElem.mp full.nd
      have g1:=(List.getElem?_eq_some_iff.mp hi2)
      have g2:=(List.getElem?_eq_some_iff.mp hy)
      exact pw i2 i g1.1 g2.1 (by omega) (by rw [g1.2,g2.2])
    have s05:=(s3.trans s4).trans s5
    have hd5:=s5 _ _ id4.hd
    refine ⟨C,_,rfl,SqL.of hC,_,_,rfl,rfl,_,rfl,_,rfl,d,_,rfl,DPut.k (k:=Sum.inr p.1) hd5 (aX (by rw [idd.dk.len]; omega)),?_⟩
    obtain ⟨ks',dk',_,kl'⟩:=idd.dk.put p.1 (.int (1+(ps.map fun s=>g s.2.1).sum))
    refine ⟨_,_,_,ks',_,rfl,bQ s05 nd,by rw [aL LD]; exact (s4.trans s5) _ _ hL3,⟨aB,dk',fun y => ?_⟩,by rw [etk]; exact si.step nmd hp hrs out,by omega⟩
    rw [kY]
    unfold upf
    by_cases ez:y=p.1
    ·subst ez
     rw [if_pos rfl,if_pos rfl]
     rfl
    ·rw [if_neg (fun w=>ez (Sum.inr.inj w)),if_neg ez]
     exact idd.at' y
  ·rintro σ H3 ⟨v3,v4,kvs,ks,g,rfl,s3,hL3,idd,si,kl⟩
   rw [List.length_map,List.take_length] at si
   refine ⟨_,rfl,d,rfl,.inl ⟨_,.inl idd.hd⟩,_,rfl,_,DGet.k (k:=Sum.inr x) idd.hd,?_⟩
   rw [idd.at']
   exact k g xs H3 s3 full si
end
def prc (cf:Str->Int):List Str->Int
 | []=>1
 | x :: r=>cf x*prc cf r
theorem gM (cf:Str->Int) : ∀ a b:List Str,prc cf (a ++ b)=prc cf a*prc cf b
 | [],b=>by show _=1*_; rw [Int.one_mul]; rfl
 | x :: r,b=>by
  show cf x*prc cf (r ++ b)=cf x*prc cf r*prc cf b
  rw [gM cf r b,Int.mul_assoc]
structure CF (rc:List (Str × List Rw))(cf:Str->Int):Prop where
 ge : ∀ x,1<=cf x
 bt : ∀ x,Bt 480 (cf x)
 dn : ∀ p ∈ rc,∀ ps l,Rs p.2 ps l->∀ s ∈ ps,Dn (cf p.1) (vl s.2.2 / vl l)
theorem CF.prc_ge {rc:List (Str × List Rw)}{cf:Str->Int}(h:CF rc cf) : ∀ zs:List Str,1<=prc cf zs
 | []=>by show (1:Int)<=1; decide
 | x :: r=>BQ.mul1 (h.ge x) (h.prc_ge r)
theorem CF.prc_bt {rc:List (Str × List Rw)}{cf:Str->Int}(h:CF rc cf) : ∀ zs:List Str,Bt (480*zs.length+1) (prc cf zs)
 | []=>(bP 1 (c:=2) (by decide) (by decide):Bt 1 (1:Int)).mono (by simp)
 | x :: r=>((h.bt x).mul (h.prc_bt r)).mono (by rw [List.length_cons]; omega)
theorem aGu {ws rs:List Str}{t:Int}{rc:List (Str × List Rw)}(b:BkS ws rs t rc) : ∃ cf,CF rc cf:=by
 have key : ∀ x:Str,∃ c:Int,1<=c/\Bt 480 c/\∀ p ∈ rc,p.1=x->∀ ps l,Rs p.2 ps l->∀ s ∈ ps,Dn c (vl s.2.2 / vl l):=fun x=>by
  by_cases h : ∃ p ∈ rc,p.1=x
  ·obtain ⟨p,hp,rfl⟩:=h
   obtain ⟨j,hj⟩:=List.getElem?_of_mem hp
   obtain ⟨p1,rok⟩:=b.rw.rw j p hj
   obtain ⟨ps,l,hrs⟩:=rok.ok
   obtain ⟨c,M,c1,bc,_,_,hc⟩:=hrs.parts rok.ln p1
   refine ⟨c,c1,bc,fun q hq e ps' l' hrs' s hs => ?_⟩
   have:=sV b.names hp hq e
   subst this
   obtain ⟨e1,e2⟩:=hrs'.det hrs
   subst e1 e2
   exact (hc s hs).1
  ·exact ⟨1,by decide,(bP 1 (c:=2) (by decide) (by decide):Bt 1 (1:Int)).mono (by decide),fun p hp e=>absurd ⟨p,hp,e⟩ h⟩
 exact ⟨fun x=>Classical.choose (key x),fun x=>(Classical.choose_spec (key x)).1,fun x=>(Classical.choose_spec (key x)).2.1,fun p hp ps l hrs=>(Classical.choose_spec (key p.1)).2.2 p hp rfl ps l hrs⟩
def TT (H:Hp)(rc:List (Str × List Rw))(ws:List Str):Nat->V->Str->BQ.Q->List (Str × Int × Int)->Prop
 | 0,_,_,_,_=>False
 | n+1,v,x,a,lv=>Am a/\Bt 3100 a.1/\Bt 3100 a.2/\((x ∈ ws/\∃ z m,v = .ref z/\H z=some (.tup [.str "ware",.str x,.ref m])/\AmV H m a/\lv=[(x,a)])\/(x ∉ ws/\∃ (z m q:Addr) (p:Str × List Rw) (ps:List Pu) (l:BQ.Q) (zs:List V) (lvs:List (List (Str × Int × Int))),p ∈ rc/\p.1=x/\Rs p.2 ps l/\v = .ref z/\H z=some (.tup [.str "recipe",.str x,.ref m,.ref q])/\AmV H m a/\H q=some (.tup zs)/\zs.length=ps.length/\lvs.length=ps.length/\(∀ (i:Nat) c s lvi,zs[i]?=some c->ps[i]?=some s->lvs[i]?=some lvi->TT H rc ws n c s.2.1 (due a l s.2.2) lvi)/\lv=lvs.flatten))
theorem TT.keep {H H':Hp}{rc:List (Str × List Rw)}{ws:List Str}(tk:Tk H H') : ∀ {n:Nat} {v:V} {x:Str} {a:BQ.Q} {lv:List (Str × Int × Int)},TT H rc ws n v x a lv->TT H' rc ws n v x a lv
 | 0,_,_,_,_,h=>h
 | n+1,v,x,a,lv,h=>by
  obtain ⟨am,b1,b2,h⟩:=h
  refine ⟨am,b1,b2,?_⟩
  rcases h with ⟨xw,z,m,e,h1,h2,e2⟩ | ⟨xn,z,m,q,p,ps,l,zs,lvs,hp,ex,hrs,e,h1,h2,h3,l1,l2,h4,e2⟩
  ·exact .inl ⟨xw,z,m,e,tk _ _ h1,tk _ _ h2,e2⟩
  ·exact .inr ⟨xn,z,m,q,p,ps,l,zs,lvs,hp,ex,hrs,e,tk _ _ h1,tk _ _ h2,tk _ _ h3,l1,l2,fun i c s lvi a b d=>TT.keep tk (h4 i c s lvi a b d),e2⟩
theorem tE {H:Hp}{rc:List (Str × List Rw)}{ws:List Str}{n:Nat}{w:Pu->BQ.Q} : ∀ {ys:List V} {ps:List Pu},ys.length=ps.length->(∀ (i:Nat) y s,ys[i]?=some y->ps[i]?=some s->∃ lv,TT H rc ws n y s.2.1 (w s) lv) ->
  ∃ lvs:List (List (Str × Int × Int)),lvs.length=ps.length/\∀ (i:Nat) c s lvi,ys[i]?=some c->ps[i]?=some s->lvs[i]?=some lvi->TT H rc ws n c s.2.1 (w s) lvi
 | [],[],_,_=>⟨[],rfl,fun i c s lvi h=>by simp at h⟩
 | [],_ :: _,h,_=>by simp at h
 | _ :: _,[],h,_=>by simp at h
 | y :: ys,s :: ps,h,k=>by
  obtain ⟨lvs,h1,h2⟩:=tE (ys:=ys) (ps:=ps) (by simpa using h) fun i y s a b=>k (i+1) y s (by simpa using a) (by simpa using b)
  obtain ⟨lv,g⟩:=k 0 y s rfl rfl
  refine ⟨lv :: lvs,by rw [List.length_cons,List.length_cons,h1],fun i c s' lvi a b d => ?_⟩
  cases i with
  | zero=>cases a; cases b; cases d; exact g
  | succ i=>exact h2 i c s' lvi (by simpa using a) (by simpa using b) (by simpa using d)
theorem rqa {s a l:Rat}:s*(a / l)=a*(s / l):=by rw [Rat.div_def,Rat.div_def]; grind
theorem rqb {s a l:Rat}(h:s<=l)(l0:0 < l)(a0:0<=a):s*(a / l)<=a:=by
 have h1:0<=a / l:=by
  rw [Rat.div_def]
  exact Rat.mul_nonneg a0 (Rat.le_of_lt (Rat.inv_pos.mpr l0))
 have h2:=Rat.mul_le_mul_of_nonneg_right h h1
 have h3:l*(a / l)=a:=rq5 (aEb l0)
 rw [h3] at h2
 exact h2
def Nd (ws xs:List Str)(cf:Str->Int)(T:Int)(n:Nat)(x:Str)(a:Rat):Prop:=(x ∈ ws/\Dn T a/\1<=n)\/∃ (j:Nat) (E k:Int),xs[j]?=some x/\j+2<=n/\Dn E a/\T=E*prc cf (xs.take (j+1))*k
theorem Nd.dn {ws xs:List Str}{cf:Str->Int}{T:Int}{n:Nat}{x:Str}{a:Rat}(h:Nd ws xs cf T n x a):Dn T a:=by
 rcases h with ⟨_,h,_⟩ | ⟨j,E,k,_,_,h,rfl⟩
 ·exact h
 ·exact h.scale.scale
theorem mul4 {E c p k:Int}:E*(p*c)*k=E*c*p*k:=by rw [Int.mul_comm p c,<- Int.mul_assoc]
theorem mul5 {E c p q k:Int}:E*(p*q*c)*k=E*c*p*(q*k):=by
 rw [mul4]
 simp only [Int.mul_assoc]
theorem Nd.child {rc:List (Str × List Rw)}{ws rs xs:List Str}{t:Int}{cf:Str->Int}{T:Int}{n:Nat}{p:Str × List Rw}{a:Rat}(h:Nd ws xs cf T (n+1) p.1 a)(b:BkS ws rs t rc)(f:Full rc ws xs)(c:CF rc cf)(hp:p ∈ rc){ps:List Pu}{l:BQ.Q}(hrs:Rs p.2 ps l){s:Pu}(hs:s ∈ ps):Nd ws xs cf T n s.2.1 (vl s.2.2*(a / vl l)):=by
 have nw:p.1 ∉ ws:=fun z=>(List.nodup_append.mp b.nd).2.2 p.1 z p.1 (by rw [<- b.rw.nm]; exact List.mem_map_of_mem hp) rfl
 rcases h with ⟨h,_⟩ | ⟨j,E,k,hj,hn,hd,rfl⟩
 ·exact absurd h nw
 have dE:Dn (E*cf p.1) (vl s.2.2*(a / vl l)):=by
  rw [rqa]
  exact hd.mul (c.dn p hp ps l hrs s hs)
 have etk:xs.take (j+1)=xs.take j ++ [p.1]:=by rw [List.take_add_one,hj]; rfl
 have ep:prc cf (xs.take (j+1))=prc cf (xs.take j)*cf p.1:=by
  rw [etk,gM]
  show _*(cf p.1*1)=_
  rw [Int.mul_one]
 obtain ⟨i,hi⟩:=List.getElem?_of_mem hp
 have h1:=Rs.things hrs s hs
 rw [<- eI b.names hi] at h1
 rcases f.ord j p.1 hj _ h1 with z | z
 ·refine .inl ⟨z,?_,by omega⟩
  rw [ep,mul4]
  exact dE.scale.scale
 ·obtain ⟨j',hj'⟩:=List.getElem?_of_mem z
  have lt:j' < j:=by
   have:=(List.getElem?_eq_some_iff.mp hj').1
   rw [List.length_take] at this
   omega
  rw [List.getElem?_take_of_lt lt] at hj'
  have e2:prc cf (xs.take j)=prc cf (xs.take (j'+1))*prc cf ((xs.take j).drop (j'+1)):=by
   rw [<- gM]
   congr 1
   have h2:xs.take (j'+1)=(xs.take j).take (j'+1):=by rw [List.take_take,Nat.min_eq_left (by omega)]
   rw [h2,List.take_append_drop]
  exact .inr ⟨j',E*cf p.1,prc cf ((xs.take j).drop (j'+1))*k,hj',by omega,dE,by rw [ep,e2,mul5]⟩
def iK (n:Nat):Sp:=fun vs H Q _=>∃ (b m:Addr) (x:Str) (ws rs:List Str) (t:Int) (us:List V) (rc:List (Str × List Rw)) (a:BQ.Q) (xs:List Str) (cf:Str->Int) (T S:Int) (v0:Rat),vs=[.ref b,.str x,.ref m]/\BwV H b ws us rc/\BkS ws rs t rc/\Full rc ws xs/\CF rc cf/\1<=T/\Bt 3100 T/\v0*(T:Rat)=(S:Rat)/\Bt 3100 S/\AmV H m a/\Am a/\vl a<=v0/\Nd ws xs cf T n x (vl a) /\
 ∀ z lv H',Same H H'->TT H' rc ws n (.ref z) x a lv->Q (.ref z) H'
def gJ (n:Nat):Sp:=fun vs H Q _=>∃ v rc ws x a lv,vs=[v]/\TT H rc ws n v x a lv/\lv.length<=900/\∀ L us H',Same H H'->H L=none->H' L=some (.lst us)->PrL H' us lv->Q (.ref L) H'
def gH (n:Nat):Sp:=fun vs H Q _=>∃ (b m:Addr) (v:V) (x:Str) (ws rs:List Str) (t:Int) (us:List V) (rc:List (Str × List Rw)) (a:BQ.Q) (lv:List (Str × Int × Int)),vs=[.ref b,v,.str x,.ref m]/\BwV H b ws us rc/\BkS ws rs t rc/\TT H rc ws n v x a lv/\AmV H m a/\lv.length<=900/\∀ L us H',Same H H'->H L=none->H' L=some (.lst us)->PrL H' us lv->Q (.ref L) H'
section
variable {P:Program}{w:World}{K:PySem.W.Frag}{mg:Str->Option Value}{base:Heap}
theorem yO {k:Nat}{f:Addr}{fd:FuncData}:FnOk P w K mg base CX0 k f fd ["book","thing","asked"] (iK 0):=by
 have no : ∀ {vs H Q E},iK 0 vs H Q E->False:=fun h=>by
  obtain ⟨_,_,_,_,_,_,_,_,_,_,_,_,_,_,_,_,_,_,_,_,_,_,_,_,_,_,h,_⟩:=h
  rcases h with ⟨_,_,h⟩ | ⟨_,_,_,_,h,_⟩ <;> omega
 exact ⟨fun vs H Q E h=>(no h).elim,fun A outer s H args us vs Q E _ _ _ _ h=>(no h).elim⟩
theorem ndGr:(["place","part","many","book"]:List Str).Nodup:=by decide +kernel
abbrev Ngr:List Str:=["book","thing","asked","parts"]
theorem uB:FnScope Ngr ["book","thing","asked"] (aG sGrown):=⟨rfl,rfl,rfl,by decide +kernel,rfl,by decide +kernel,by decide +kernel⟩
theorem yH {k n:Nat}{f:Addr}{fd:FuncData}(F:Fun K "grown" "grown" sGrown f fd)(T:Txt mg)(cG:Cal P w K mg base CX0 k "grown" ["book","thing","asked"] (iK n))(cP:Cal P w K mg base CX0 k "puts" ["book","recipe","asked"] (tN K)):FnOk P w K mg base CX0 (k+1) f fd ["book","thing","asked"] (iK (n+1)):=by
 refine F.ok uB (fun vs H Q E h => ?_) (fun cdv A outer s H vs Q E hr h => ?_)
 ·obtain ⟨_,_,_,_,_,_,_,_,_,_,_,_,_,_,rfl,_⟩:=h
  rfl
 ·obtain ⟨b,m,x,ws,rs,t,us,rc,a,xs,cf,T',S,v0,rfl,bw,bks,full,hcf,T1,bT,eS,bS,hm,am,le0,nd,kk⟩:=h
  have T0:=Rat.le_of_lt (vK T1)
  have ab:=aF4 (S:=S) am nd.dn (by omega) (by rw [<- eS]; exact Rat.mul_le_mul_of_nonneg_right le0 T0) bT bS
  refine ⟨_,(aD (bF (aK eW (pv 1) (pit 0 0) rfl)
    (aE (aO (aY (aA bX (aA (pv 1) (aA (pv 2) aC))))))
    aU)
   (aD (qF (iy:=3) (N':=["place","part","many","book"]) (g:=gTup K 3 (dZ (dA 0) (dZ (dA 1) (dZ (dA 2) gNil)))) (fun σ=>[none,none,none,some 0].map fun t=>t.bind fun j=>(σ[j]?).join) rfl rfl (by decide +kernel) (by decide +kernel)
       (lT (sc:=aG sGrown) rfl (by decide +kernel)) (fun _ _ _=>fR (sc:=aG sGrown) (N:=Ngr) [none,none,none,some 0] rfl rfl rfl rfl (by decide +kernel))
       (cJ (aH cP hr rfl aQ (aA (pv 0) (aA (pv 1) (aA (pv 2) aC))))) (fun _ _ _ _ _ _=>dH rfl (aP (aJ (i:=0) ndGr rfl (Or.inl rfl) (Or.inr rfl)) (aP (aJ (i:=1) ndGr rfl (Or.inl rfl) (Or.inr rfl)) (aP (aJ (i:=2) ndGr rfl (Or.inl rfl) (Or.inr rfl)) bW))))
       (fun _ _ _ _ _ _=>dF)
       (fun _ _ _ _ _ _=>aH cG hr rfl aQ (aA (pv 3) (aA (pv 1) (aA (pv 2) aC)))) uB.nd rfl (Or.inl rfl) (Or.inr rfl) rfl)
   (aE (aO (aY (aA bX (aA (pv 1) (aA (pv 2) (aA (bJ cU rfl T.tup' eD (aA (pv 3) aC)) aC))))))))),?_⟩
  obtain ⟨w',y0,fo',hb,hw,hfo,hu⟩:=id bw
  refine ⟨_,rfl,b,_,_,rfl,SqT.of hb,rfl,w',_,rfl,.inr (SqT.of hw),rfl,dM _,_,rfl,ite2 (fun h1 => ?_) (fun h1 => ?_)⟩
  ·have xw:x ∈ ws:=dR.mp h1
   refine ⟨_,rfl,_,rfl,(by show 3<=sizeLine; decide),fun z nz => ?_⟩
   have sz:=Same.upd (o:=.tup [.str "ware",.str x,.ref m]) nz
   exact kk z [(x,a)] _ sz ⟨am,ab.1,ab.2,.inl ⟨xw,z,m,rfl,aB,sz _ _ hm,rfl⟩⟩
  ·have xnw:x ∉ ws:=fun z=>h1 (dR.mpr z)
   have xm:x ∈ xs:=by
    rcases nd with ⟨z,_⟩ | ⟨j,_,_,hj,_⟩
    ·exact absurd z xnw
    ·exact List.mem_of_getElem? hj
   obtain ⟨p,hp,rfl⟩:=List.mem_map.mp (full.sub x xm)
   obtain ⟨j,hj⟩:=List.getElem?_of_mem hp
   obtain ⟨p1,rok⟩:=bks.rw.rw j p hj
   obtain ⟨ps,l,hrs⟩:=rok.ok
   have sz:=hrs.sz rok.ln
   have l1:=hrs.pos p1
   have l0:0 < vl l:=(aC9 sz.1).mpr l1
   have ps20:=sz.2.2.2.2.2.2
   refine ⟨_,rfl,_,rfl,_,rfl,b,m,us,rc,j,p,a,l,ps,rfl,bw.bk,bks.names,hj,hm,am,ab.1.mono (by decide),ab.2.mono (by decide),hrs,p1,rok.ln,fun pz pv' H1 s1 npz hpz hpv => ?_⟩
   have pvl:=hpv.len
   have dl:(dues a l ps).length=ps.length:=by unfold dues; rw [List.length_map]
   refine ⟨pz,rfl,⟨_,SqL.of hpz⟩,fun C nC => ?_⟩
   refine dP (Ys.list (SqL.of hpz)) (fun i _ y H'=>∀ s:Pu,ps[i]?=some s->∃ lv,TT H' rc ws n y s.2.1 (due a l s.2.2) lv) (fun i _ y H2 H3 h tk s hs => ?_) nC (by omega) (fun i v H' R hv sm hR => ?_) (fun ys H2 s2 hC yl hys => ?_)
   ·obtain ⟨lv,g⟩:=h s hs
    exact ⟨lv,g.keep tk⟩
   ·obtain ⟨dp,hdp,zz,mm,rfl,hzz,hmm⟩:=hpv.get hv
    unfold dues at hdp
    rw [List.getElem?_map] at hdp
    obtain ⟨sp,hsp,rfl⟩:=Option.map_eq_some_iff.mp hdp
    have spm:=List.mem_of_getElem? hsp
    have spz:=sz.2.2.2.1 sp spm
    have vdue:vl (due a l sp.2.2)=vl sp.2.2*(vl a / vl l):=aDd am sz.1 l1 spz.1
    have sle:vl sp.2.2<=vl l:=by
     rw [hrs.whole rok.ln]
     exact aDt (f:=fun s:Pu=>vl s.2.2) (a:=ps) (fun s hs=>aDb (sz.2.2.2.1 s hs).1) spm
    refine ⟨zz,_,rfl,SqT.of (sm _ _ hzz),rfl,_,_,rfl,_,_,rfl,_,_,rfl,rfl,(((Keep.refl _).set rfl).set rfl).set rfl,?_⟩
    refine ⟨_,rfl,_,rfl,_,rfl,b,mm,sp.2.1,ws,rs,t,us,rc,due a l sp.2.2,xs,cf,T',S,v0,rfl,bw.keep (s1.trans sm).tk,bks,full,hcf,T1,bT,eS,bS,sm _ _ hmm,aCy am sz.1 l1 spz.1,by rw [vdue]; exact Rat.le_trans (rqb sle l0 (aDb am)) le0,by rw [vdue]; exact nd.child bks full hcf hp hrs spm,fun z lv H3 s3 g => ?_⟩
    exact hR _ _ s3 fun s' hs'=>by rw [hsp] at hs'; cases hs'; exact ⟨lv,g⟩
   ·have yps:ys.length=ps.length:=by rw [yl,pvl,dl]
    obtain ⟨lvs,g1,g2⟩:=tE (w:=fun s=>due a l s.2.2) yps fun i y s hy hs=>by
     obtain ⟨u,hu'⟩ : ∃ u,pv'[i]?=some u:=⟨_,List.getElem?_eq_getElem (by have:=(List.getElem?_eq_some_iff.mp hs).1; omega)⟩
     exact hys i u y hu' hy s hs
    have s02:=s1.trans s2
    refine ⟨_,rfl,_,rfl,_,rfl,C,ys,rfl,.inl ⟨SqL.of hC,fun tt ntt => ?_⟩⟩
    have stt:=Same.upd (o:=.tup ys) ntt
    refine ⟨(by show 4<=sizeLine; decide),fun z nz => ?_⟩
    have snz:=Same.upd (o:=.tup [.str "recipe",.str p.1,.ref m,.ref tt]) nz
    have s2z:=stt.trans snz
    exact kk z lvs.flatten _ (s02.trans s2z) ⟨am,ab.1,ab.2,.inr ⟨xnw,z,m,tt,p,ps,l,ys,lvs,hp,rfl,hrs,rfl,aB,(s02.trans s2z) _ _ hm,snz _ _ aB,yps,g1,fun i c s lvi a b d=>(g2 i c s lvi a b d).keep s2z.tk,rfl⟩⟩
theorem uW {k:Nat}{f:Addr}{fd:FuncData}:FnOk P w K mg base CX0 k f fd ["one"] (gJ 0):=⟨fun vs H Q E ⟨_,_,_,_,_,_,_,h,_⟩=>h.elim,fun A outer s H args us vs Q E _ _ _ _ ⟨_,_,_,_,_,_,_,h,_⟩=>h.elim⟩
theorem lI:FnScope ["one","found","part"] ["one"] (aG sLeaves):=⟨rfl,rfl,rfl,by decide +kernel,rfl,by decide +kernel,by decide +kernel⟩
theorem uS {k n:Nat}{f:Addr}{fd:FuncData}(F:Fun K "leaves" "leaves" sLeaves f fd)(cL:Cal P w K mg base CX0 k "leaves" ["one"] (gJ n)):FnOk P w K mg base CX0 (k+1) f fd ["one"] (gJ (n+1)):=by
 refine F.ok lI (fun vs H Q E h => ?_) (fun cdv A outer s H vs Q E hr h => ?_)
 ·obtain ⟨_,_,_,_,_,_,rfl,_⟩:=h
  rfl
 ·obtain ⟨v,rc,ws,x,a,lv,rfl,⟨am,b1,b2,g⟩,l9,kk⟩:=h
  refine ⟨_,(aD (bF (aK eG (pit 0 0) bX (aT _))
    (aE (aO (bC (aA (aY (aA (pit 0 1) (aA (pit 0 2) aC))) aC))))
    aU)
   (aD (aI (i:=1) lI.nd rfl (Or.inl rfl) (bC aC))
   (aD (bL PassesOwn.never rfl (eJ (pit 0 3)) (aJ (i:=2) lI.nd rfl (Or.inl rfl))
    (aE (bZ (eT PySem.F.plainAttrs_list PySem.F.slot_list_extend PySem.F.type_list_extend eX (pv 1) (aA (aH cL hr rfl aQ (aA (pv 2) aC)) aC)))))
   (aE (aO (pv 1)))))),?_⟩
  rcases g with ⟨xw,z,m,rfl,hz,hm,rfl⟩ | ⟨xn,z,m,q,p,ps,l,zs,lvs,hp,rfl,hrs,rfl,hz,hm,hq,l1,l2,hg,rfl⟩
  ·have Sz:=SqT.of (K:=K) hz
   refine ⟨z,_,_,rfl,Sz,rfl,rfl,_,rfl,iteT ⟨z,_,_,rfl,Sz,rfl,z,_,_,rfl,Sz,rfl,(by show 2<=sizeLine; decide),fun o no => ?_⟩⟩
   have so:=Same.upd (o:=.tup [.str x,.ref m]) no
   refine ⟨(by show 1<=sizeLine; decide),fun L nL => ?_⟩
   have sL:=Same.upd (o:=.lst [.ref o]) nL
   exact kk L _ _ (so.trans sL) (bH so nL) aB (.cons ⟨o,m,rfl,sL _ _ aB,(so.trans sL) _ _ hm⟩ .nil)
  ·have Sz:=SqT.of (K:=K) hz
   refine ⟨z,_,_,rfl,Sz,rfl,rfl,_,rfl,iteF ⟨(by show 0<=sizeLine; decide),fun Fd nF => ?_⟩⟩
   have sF:=Same.upd (o:=.lst []) nF
   refine ⟨z,_,_,rfl,sF.tup Sz,rfl,q,rfl,⟨_,SqT.of (sF _ _ hq)⟩,?_⟩
   refine fP (xs:=zs) (fun i σ H'=>∃ (v2:Option V) (fs:List V),σ=[some (.ref z),some (.ref Fd),v2]/\Same H H'/\H' Fd=some (.lst fs)/\PrL H' fs (lvs.take i).flatten) ⟨none,[],rfl,sF,aB,.nil⟩ (fun i σ H' _ ⟨_,_,_,sm,_⟩=>SqT.of (sm _ _ hq)) ?_ ?_
   ·rintro i v σ H1 hv ⟨v2,fs,rfl,s1,hF1,pr1⟩
    have il:=(List.getElem?_eq_some_iff.mp hv).1
    obtain ⟨lv,hlv⟩ : ∃ lv,lvs[i]?=some lv:=⟨_,List.getElem?_eq_getElem (by omega)⟩
    obtain ⟨sp,hsp⟩ : ∃ sp,ps[i]?=some sp:=⟨_,List.getElem?_eq_getElem (by omega)⟩
    have g:=hg i v sp lv hv hsp hlv
    have fl:=qS (lvs:=lvs) (i+1)
    rw [iH hlv,List.length_append] at fl
    refine ⟨_,rfl,.inl ⟨rfl,_,SqL.of hF1⟩,_,rfl,v,rc,ws,_,_,lv,rfl,g.keep s1.tk,by omega,fun L us H2 s2 nL hL pr2 => ?_⟩
    have hF2:=s2 _ _ hF1
    have p1:=pr1.length
    have p2:=pr2.length
    refine ⟨Fd,L,_,_,rfl,rfl,hF2,hL,Nat.le_of_lt (aX (by omega)),?_⟩
    have tk:Tk H2 (upd H2 Fd (.lst (fs ++ us))):=Tk.lst hF2
    refine ⟨_,_,rfl,bQ (s1.trans s2) nF,aB,?_⟩
    rw [iH hlv]
    exact ((pr1.keep s2.tk).append pr2).keep tk
   ·rintro σ H1 ⟨v2,fs,rfl,s1,hF1,pr1⟩
    rw [l1,<- l2,List.take_length] at pr1
    exact ⟨_,rfl,kk Fd fs H1 s1 nF hF1 pr1⟩
end
section
variable {P:Program}{w:World}{K:PySem.W.Frag}{mg:Str->Option Value}{base:Heap}
theorem uV {k:Nat}{f:Addr}{fd:FuncData}:FnOk P w K mg base CX0 k f fd ["_law_book_here","_law_found","_law_thing","_law_asked_here"] (gH 0):=by
 have no : ∀ {vs H Q E},gH 0 vs H Q E->False:=fun h=>by
  obtain ⟨_,_,_,_,_,_,_,_,_,_,_,_,_,_,h,_⟩:=h
  exact h
 exact ⟨fun vs H Q E h=>(no h).elim,fun A outer s H args us vs Q E _ _ _ _ h=>(no h).elim⟩
theorem gK:FnScope ["_law_book_here","_law_found","_law_thing","_law_asked_here","_law_due","_law_some","_law_part","_law_put","_law_more"] ["_law_book_here","_law_found","_law_thing","_law_asked_here"] (aG sWalked):=⟨rfl,rfl,rfl,by decide +kernel,rfl,by decide +kernel,by decide +kernel⟩
theorem uN {k n:Nat}{f:Addr}{fd:FuncData}(F:Fun K "_law_walked" "_law_walked" sWalked f fd)(T:Txt mg)(cW:Cal P w K mg base CX0 k "_law_walked" ["_law_book_here","_law_found","_law_thing","_law_asked_here"] (gH n))(cA:Cal P w K mg base CX0 k "_law_is_amount" ["_law_found"] (tS K))(cP:Cal P w K mg base CX0 k "_law_puts" ["_law_rows","_law_asked_here"] (oT K)):FnOk P w K mg base CX0 (k+1) f fd ["_law_book_here","_law_found","_law_thing","_law_asked_here"] (gH (n+1)):=by
 refine F.ok gK (fun vs H Q E h => ?_) (fun cdv A outer s H vs Q E hr h => ?_)
 ·obtain ⟨_,_,_,_,_,_,_,_,_,_,_,rfl,_⟩:=h
  rfl
 ·obtain ⟨b,m,v,x,ws,rs,t,us,rc,a,lv,rfl,bw,bks,⟨am,b1,b2,g⟩,hm,l9,kk⟩:=h
  refine ⟨_,(aD (bF (PW.pt (fW (fS (eO (aS fQ rfl T.isi boot_isinstance (aA (pv 1) (aA (gB (v:=.ty "tuple") rfl T.tup' eD rfl) aC))))) (fW (aK jX (aS aW rfl T.len PySem.boot_len (aA (pv 1) aC)) aF (aT _)) (eU (fS (eO (aS fQ rfl T.isi boot_isinstance (aA (pit 1 1) (aA (gB (v:=.ty "str") rfl T.str' aFo rfl) aC)))))))))
    (aE (aO dS))
    aU)
   (aD (bF (PW.pt (fW (aK gD (pit 1 1) (pv 2) (aT _)) (fW (fS (eO (aH cA hr rfl aQ (aA (pit 1 2) aC)))) (eU (aK (aEr hr.units) (pit 1 2) (pv 3) (aT _))))))
    (aE (aO dS))
    aU)
   (aD (bF (aK eW (pv 2) (pit 0 0) rfl)
    (aD (bF (PW.pt (fW (aK gD (pit 1 0) bX (aT _)) (eU (aK gD (aS aW rfl T.len PySem.boot_len (aA (pv 1) aC)) aF (aT _)))))
     (aE (aO dS))
     aU)
    (aE (aO (bC (aA (aY (aA (pv 2) (aA (pv 3) aC))) aC)))))
    aU)
   (aD (aI (i:=4) gK.nd rfl (Or.inl rfl) (aH cP hr rfl aQ (aA (eK (fO hr) (bJ (kW rfl) rfl T.dict' wL (aA (bJ eQ rfl T.list' iT (aA (pit 0 2) aC)) aC)) (pv 2) (fun _ _=>rfl)) (aA (pv 3) aC))))
   (aD (bF (PW.pt (fW (aK gD (pit 1 0) bX (aT _)) (fW (aK gD (aS aW rfl T.len PySem.boot_len (aA (pv 1) aC)) aF (aT _)) (eU (fS (eO (aS fQ rfl T.isi boot_isinstance (aA (pit 1 3) (aA (gB (v:=.ty "tuple") rfl T.tup' eD rfl) aC)))))))))
    (aE (aO dS))
    aU)
   (aD (bF (aK gD (aS aW rfl T.len PySem.boot_len (aA (pit 1 3) aC)) (aS aW rfl T.len PySem.boot_len (aA (pv 4) aC)) (aT _))
    (aE (aO dS))
    aU)
   (aD (aI (i:=5) gK.nd rfl (Or.inl rfl) (bC aC))
   (aD (bL PassesOwn.never rfl (aEo rfl T.zip' (aA (pit 1 3) (aA (pv 4) aC))) (dH rfl (aP (aJ (i:=6) gK.nd rfl (Or.inl rfl)) (aP (aJ (i:=7) gK.nd rfl (Or.inl rfl)) bW)))
    (aD (aI (i:=8) gK.nd rfl (Or.inl rfl) (aH cW hr rfl aQ (aA (pv 0) (aA (pv 6) (aA (pit 7 1) (aA (pit 7 2) aC))))))
    (aD (bF (aK mZ (pv 8) dS (aT _))
     (aE (aO dS))
     aU)
    (aE (bZ (eT PySem.F.plainAttrs_list PySem.F.slot_list_extend PySem.F.type_list_extend eX (pv 5) (aA (pv 8) aC)))))))
   (aE (aO (pv 5))))))))))),?_⟩
  obtain ⟨w',y0,fo',hb,hw,hfo,hu⟩:=id bw
  have nmd:=bks.names
  obtain ⟨z,mz,kd,rest,rfl,hz,hmz⟩ : ∃ z mz kd,∃ rest:List V,v = .ref z/\H z=some (.tup ([.str kd,.str x,.ref mz] ++ rest))/\AmV H mz a:=by
   rcases g with ⟨xw,z,m,rfl,hz,hm,rfl⟩ | ⟨xn,z,m,q,p,ps,l,zs,lvs,hp,rfl,hrs,rfl,hz,hm,hq,l1,l2,hg,rfl⟩
   ·exact ⟨z,m,_,[],rfl,hz,hm⟩
   ·exact ⟨z,m,_,[.ref q],rfl,hz,hm⟩
  have Sz:=SqT.of (K:=K) hz
  have n3 : ¬ ((([V.str kd,.str x,.ref mz] ++ rest).length:Nat):Int) < 3:=by
   rw [List.length_append]
   show ¬ (((3+rest.length:Nat):Int) < 3)
   omega
  refine ⟨_,rfl,.ref z,"tuple",true,rfl,.tup_tuple Sz,_,rfl,iteF ⟨_,rfl,z,_,rfl,.inr Sz,_,_,rfl,rfl,_,rfl,ite2 (fun h=>absurd (of_decide_eq_true h) n3) (fun _=>⟨z,_,_,rfl,Sz,rfl,.str x,"str",true,rfl,.str_str,_,rfl,iteF ?_⟩)⟩⟩
  refine ⟨z,_,_,rfl,Sz,rfl,_,rfl,rfl,_,rfl,ite2 (fun h=>absurd h (by simp)) (fun _=>⟨z,_,_,rfl,Sz,rfl,mz,_,_,rfl,SqT.of hmz,am,_,rfl,iteF ⟨z,_,_,rfl,Sz,rfl,_,rfl,mz,m,[a.1,a.2],[a.1,a.2],rfl,rfl,SqT.of hmz,SqT.of hm,_,rfl,ite2 (fun h=>absurd h (by simp)) (fun _ => ?_)⟩⟩)⟩
  refine ⟨_,rfl,b,_,_,rfl,SqT.of hb,rfl,w',_,rfl,.inr (SqT.of hw),rfl,dM _,_,rfl,ite2 (fun h1 => ?_) (fun h1 => ?_)⟩
  ·have xw:x ∈ ws:=dR.mp h1
   rcases g with ⟨_,z',m',e,hz',hm',rfl⟩ | ⟨xn,_⟩
   rotate_left
   ·exact absurd xw xn
   cases e
   rw [hz] at hz'
   cases hz'
   refine ⟨z,_,_,rfl,Sz,rfl,rfl,_,rfl,iteF ⟨_,rfl,z,_,rfl,.inr Sz,rfl,_,rfl,iteF ?_⟩⟩
   refine ⟨_,rfl,_,rfl,(by show 2<=sizeLine; decide),fun o no => ?_⟩
   have so:=Same.upd (o:=.tup [.str x,.ref m]) no
   refine ⟨(by show 1<=sizeLine; decide),fun L nL => ?_⟩
   have sL:=Same.upd (o:=.lst [.ref o]) nL
   exact kk L _ _ (so.trans sL) (bH so nL) aB (.cons ⟨o,m,rfl,sL _ _ aB,(so.trans sL) _ _ hm⟩ .nil)
  ·have xn:x ∉ ws:=fun h=>h1 (dR.mpr h)
   rcases g with ⟨xw,_⟩ | ⟨_,z',m',q,p,ps,l,zs,lvs,hp,rfl,hrs,e,hz',hm',hq,l1,l2,hg,rfl⟩
   ·exact absurd xw xn
   cases e
   rw [hz] at hz'
   cases hz'
   obtain ⟨j,hj⟩:=List.getElem?_of_mem hp
   obtain ⟨p1,rok⟩:=bks.rw.rw j p hj
   have ps24:=(hrs.sz rok.ln).2.2.2.2.2.2
   refine ⟨b,_,_,rfl,SqT.of hb,rfl,fo',_,rfl,.inr (SqT.of hfo),fun l1' n1 => ?_⟩
   have s1:=Same.upd (o:=.lst us) n1
   obtain ⟨kR,e1,e2,e3,e4⟩:=lL hu
   have kRnd:(kR.map (·.1)).Nodup:=by
    rw [e2]
    exact List.pairwise_map.mpr (nmd.imp fun h z=>h (Sum.inr.inj z))
   refine ⟨l1',us,kR,rfl,aB,e1,kRnd,(fun i u kv hu' hkv=>by
    obtain ⟨z,e,hz⟩:=e3 i u kv hu' hkv
    exact ⟨z,e,s1 _ _ hz⟩),fun R nR => ?_⟩
   have sR:=Same.upd (o:=.dK kR) nR
   have hR:upd (upd H l1' (.lst us)) R (.dK kR) R=some (.dK kR):=aB
   have s2:=s1.trans sR
   generalize upd (upd H l1' (.lst us)) R (.dK kR)=H2 at s2 hR ⊢
   obtain ⟨qr,rv,kq,hqr,hrv⟩:=e4 j p hj
   have vq:=sU kRnd kq
   refine ⟨_,rfl,R,_,rfl,vq ▸ DGet.k (k:=Sum.inr p.1) hR,_,rfl,qr,m,rv,p.2,ps,l,a,rfl,s2 _ _ hqr,hrv.imp (fun _ _ x=>RowV.keep s2.tk x),hrs,rok.ln,p1,s2 _ _ hm,am,b1.mono (by decide),b2.mono (by decide),fun zd vs' H3 s3 nzd hzd hvd => ?_⟩
   have s03:=s2.trans s3
   have S3:=SqT.of (K:=K) (s03 _ _ hz)
   have dl:(dues a l ps).length=ps.length:=by unfold dues; rw [List.length_map]
   have vl':vs'.length=ps.length:=by rw [hvd.len,dl]
   refine ⟨z,_,_,rfl,S3,rfl,rfl,_,rfl,iteF ⟨_,rfl,z,_,rfl,.inr S3,rfl,_,rfl,iteF ⟨z,_,_,rfl,S3,rfl,.ref q,"tuple",true,rfl,.tup_tuple (SqT.of (s03 _ _ hq)),_,rfl,iteF ?_⟩⟩⟩
   refine ⟨z,_,_,rfl,S3,rfl,q,_,rfl,.inr (SqT.of (s03 _ _ hq)),_,rfl,zd,_,rfl,.inl (SqL.of hzd),rfl,_,rfl,ite2 (fun h=>absurd h (by rw [l1,vl']; simp)) (fun _ => ?_)⟩
   refine ⟨(by show 0<=sizeLine; decide),fun Fd nF => ?_⟩
   have sF:=Same.upd (o:=.lst []) nF
   have nF0:=bH s03 nF
   have s04:=s03.trans sF
   have hzd4:=sF _ _ hzd
   have Fzd:zd ≠ Fd:=fun e=>by rw [e,aB] at hzd4; cases hzd4; rw [<- e,hzd] at nF; cases nF
   have hF4:upd H3 Fd (.lst []) Fd=some (.lst []):=aB
   have hvd4:L2R (PuV (upd H3 Fd (.lst []))) vs' (dues a l ps):=hvd.imp fun _ _ x=>PuV.keep sF.tk x
   generalize upd H3 Fd (.lst [])=H4 at sF s04 hzd4 hF4 hvd4 ⊢
   refine ⟨z,_,_,rfl,SqT.of (s04 _ _ hz),rfl,_,rfl,q,zd,rfl,⟨_,SqT.of (s04 _ _ hq)⟩,⟨_,SqL.of hzd4⟩,?_⟩
   refine aCv (xs:=zs) (ys:=vs') (fun i σ H'=>∃ (v6 v7 v8:Option V) (fs:List V),σ=[some (.ref b),some (.ref z),some (.str p.1),some (.ref m),some (.ref zd),some (.ref Fd),v6,v7,v8]/\Same H H'/\H' zd=some (.lst vs')/\L2R (PuV H') vs' (dues a l ps)/\H' Fd=some (.lst fs)/\PrL H' fs (lvs.take i).flatten)
    ⟨_,_,_,[],rfl,s04,hzd4,hvd4,hF4,.nil⟩ (fun i σ H' _ hh=>by obtain ⟨_,_,_,_,_,sm,hd,_⟩:=hh; exact ⟨SqT.of (sm _ _ hq),SqL.of hd⟩) (by rw [l1,vl']) ?_ ?_
   ·rintro i c y T' σ H5 hc hy nT ⟨v6,v7,v8,fs,rfl,s5,hzd5,hvd5,hF5,pr5⟩
    have sT:=Same.upd (o:=.tup [c,y]) nT
    have il:=(List.getElem?_eq_some_iff.mp hc).1
    obtain ⟨lvi,hlv⟩ : ∃ lvi,lvs[i]?=some lvi:=⟨_,List.getElem?_eq_getElem (by omega)⟩
    obtain ⟨dp,hdp,zz,mm,rfl,hzz,hmm⟩:=hvd5.get hy
    unfold dues at hdp
    rw [List.getElem?_map] at hdp
    obtain ⟨sp,hsp,rfl⟩:=Option.map_eq_some_iff.mp hdp
    have tt:=hg i c sp lvi hc hsp hlv
    have fl:=qS (lvs:=lvs) (i+1)
    rw [iH hlv,List.length_append] at fl
    refine ⟨T',_,rfl,SqT.of aB,rfl,_,_,rfl,_,_,rfl,rfl,?_⟩
    have hF6:=sT _ _ hF5
    have hzz6:=sT _ _ hzz
    have hmm6:=sT _ _ hmm
    have hzd6:=sT _ _ hzd5
    have s06:=s5.trans sT
    generalize upd H5 T' (.tup [c,.ref zz])=H6 at sT hF6 hzz6 hmm6 hzd6 s06 ⊢
    have Szz:=SqT.of (K:=K) hzz6
    refine ⟨_,rfl,_,rfl,zz,_,_,rfl,Szz,rfl,zz,_,_,rfl,Szz,rfl,b,mm,c,sp.2.1,ws,rs,t,us,rc,due a l sp.2.2,lvi,rfl,bw.keep s06.tk,bks,tt.keep s06.tk,hmm6,by omega,fun L us' H7 s7 nL hL pr7 => ?_⟩
    refine ⟨_,rfl,rfl,_,rfl,iteF ?_⟩
    have hF7:=s7 _ _ hF6
    have f1:=pr5.length
    have f2:=pr7.length
    refine ⟨_,rfl,.inl ⟨rfl,_,SqL.of hF7⟩,_,rfl,Fd,L,_,_,rfl,rfl,hF7,hL,Nat.le_of_lt (aX (by omega)),?_⟩
    have tkF:Tk H7 (upd H7 Fd (.lst (fs ++ us'))):=Tk.lst hF7
    have s57:=sT.trans s7
    refine ⟨_,_,_,_,rfl,bQ (s06.trans s7) nF0,by rw [aL Fzd]; exact s7 _ _ hzd6,hvd5.imp (fun _ _ x=>PuV.keep (s57.tk.trans tkF) x),aB,?_⟩
    rw [iH hlv]
    exact ((pr5.keep s57.tk).append pr7).keep tkF
   ·rintro σ H5 ⟨v6,v7,v8,fs,rfl,s5,hzd5,hvd5,hF5,pr5⟩
    rw [l1,<- l2,List.take_length] at pr5
    exact ⟨_,rfl,kk Fd fs H5 s5 nF0 hF5 pr5⟩
end
abbrev kK:Stmt:=aCt (top 11) 0
structure ErN (K:PySem.W.Frag)(mg:Str->Option Value)(cP c0 c1 c2 c3 c4 c5 c6 c7 c8 fI:Addr):Prop where
 ef:ExF K c8 cP fI "size"
 ct:CtK K cP
 s:PySem.W.subIn K (.ref c8) (.ref cP)=some true
 bi:BaseI K cP
 iP:PySem.W.kitOne K (.ref c8) (.ref cP)=some true
 iV:PySem.W.kitOne K (.ref c8) (.type "ValueError")=some true
 mP:mg "PhialError" = some (.ref cP)
 m0:mg "Twice" = some (.ref c0)
 m1:mg "NoName" = some (.ref c1)
 m2:mg "NoPair" = some (.ref c2)
 m3:mg "Ring" = some (.ref c3)
 m4:mg "Over" = some (.ref c4)
 m5:mg "Meet" = some (.ref c5)
 m6:mg "NoText" = some (.ref c6)
 m7:mg "NoAmount" = some (.ref c7)
 m8:mg "TooLarge" = some (.ref c8)
 i0:PySem.W.kitOne K (.ref c8) (.ref c0)=some false
 i1:PySem.W.kitOne K (.ref c8) (.ref c1)=some false
 i2:PySem.W.kitOne K (.ref c8) (.ref c2)=some false
 i3:PySem.W.kitOne K (.ref c8) (.ref c3)=some false
 i4:PySem.W.kitOne K (.ref c8) (.ref c4)=some false
 i5:PySem.W.kitOne K (.ref c8) (.ref c5)=some false
 i6:PySem.W.kitOne K (.ref c8) (.ref c6)=some false
 i7:PySem.W.kitOne K (.ref c8) (.ref c7)=some false
 i8:PySem.W.kitOne K (.ref c8) (.ref c8)=some true
def tR (c8:Addr):Sp:=fun vs H Q _=>∃ a dd,vs=[.ref a]/\H a=some (excD a c8 dd)/\∀ H',Same H H'->Q (.int 8) H'
def pW (c8:Addr):Sp:=fun vs H Q _=>∃ e v,vs=[.ref e,v]/\H e=some (exN e c8 none)/\∀ dx,H dx=none->dx ≠ e->Q .non (upd (upd H e (exN e c8 (some dx))) dx (xdE dx [("size",v)]))
def BadS (c8:Addr)(v:V)(H:Hp)(E:XK):Prop:=∀ dx H',Same H H'->H' dx=some (xdE dx [("size",v)])->E (.ref c8) (some dx) H'
theorem uE {c8:Addr}{v:V}{H:Hp}{E:XK}(h:BadS c8 v H E):[v].length<=sizeLine/\∀ e,H e=none->pW c8 [.ref e,v] (upd H e (exN e c8 none)) (fun v H2=>v = .non/\∃ dd,H2 e=some (exN e c8 dd)/\E (.ref c8) dd (rem H2 e)) E0:=by
 refine ⟨(by show 1<=sizeLine; decide),fun e he=>⟨e,v,rfl,aB,fun dx hd ne=>⟨rfl,some dx,?_,?_⟩⟩⟩
 ·rw [aL (Ne.symm ne),aB]
 ·have hd':H dx=none:=by
   rw [aL ne] at hd
   exact hd
  refine h dx _ (fun b o hb => ?_) ?_
  ·have n1:b ≠ e:=fun z=>by rw [z,he] at hb; cases hb
   have n2:b ≠ dx:=fun z=>by rw [z,hd'] at hb; cases hb
   rw [mT n1,aL n2,aL n1,aL n1]
   exact hb
  ·rw [mT ne,aB]
def gQ (c8:Addr):Sp:=fun vs H Q E=>∃ (b m:Addr) (x:Str) (ws rs:List Str) (t:Int) (us:List V) (rc:List (Str × List Rw)) (a:BQ.Q) (xs:List Str) (cf f:Str->Int) (T S mo:Int) (v0:Rat),vs=[.ref b,.str x,.ref m,.int mo]/\BwV H b ws us rc/\BkS ws rs t rc/\Full rc ws xs/\CF rc cf/\SI rc xs f/\1<=T/\Bt 3100 T/\v0*(T:Rat)=(S:Rat)/\Bt 3100 S/\AmV H m a/\Am a/\vl a<=v0/\Nd ws xs cf T 7 x (vl a) /\
 (f x<=mo->∀ z lv H',Same H H'->TT H' rc ws 7 (.ref z) x a lv->Q (.ref z) H')/\(mo < f x->BadS c8 (.int (f x)) H E)
section
variable {P:Program}{w:World}{K:PySem.W.Frag}{mg:Str->Option Value}{base:Heap}{cP c0 c1 c2 c3 c4 c5 c6 c7 c8 fI:Addr}
theorem aD3:FnScope ["self","size"] ["self","size"] (aG kK):=⟨rfl,rfl,rfl,by decide +kernel,rfl,by decide +kernel,by decide +kernel⟩
theorem aCk {f:Addr}{fd:FuncData}(F:Fun K "__init__" "TooLarge.__init__" kK f fd)(R:ErN K mg cP c0 c1 c2 c3 c4 c5 c6 c7 c8 fI):FnOk P w K mg base CX0 1 f fd ["self","size"] (pW c8):=by
 refine F.ok aD3 (fun vs H Q E h => ?_) (fun cdv A outer s H vs Q E hr h => ?_)
 ·obtain ⟨_,_,rfl,_⟩:=h
  rfl
 ·obtain ⟨e,v,rfl,he,k⟩:=h
  refine ⟨_,aD (bZ (xP rfl R.mP R.bi (aA (pv 0) (aA bX aC))))
   (aE (aEk (C:=c8) (P:=cP) (f:=fI) rfl (pv 0) (pv 1) rfl)),?_⟩
  refine ⟨_,rfl,e,c8,none,fI,_,rfl,he,R.ef.i,?_⟩
  exact ⟨_,rfl,_,rfl,e,rfl,he,R.ef,fun dx hd ne=>k dx hd ne⟩
theorem pZ:FnScope ["_law_e","_law_some"] ["_law_e"] (aG sKind):=⟨rfl,rfl,rfl,by decide +kernel,rfl,by decide +kernel,by decide +kernel⟩
theorem aCi {f:Addr}{fd:FuncData}(F:Fun K "_law_kind" "_law_kind" sKind f fd)(T:Txt mg)(tv:mg "ValueError" = none)(R:ErN K mg cP c0 c1 c2 c3 c4 c5 c6 c7 c8 fI):FnOk P w K mg base CX0 1 f fd ["_law_e"] (tR c8):=by
 refine F.ok pZ (fun vs H Q E h => ?_) (fun cdv A outer s H vs Q E hr h => ?_)
 ·obtain ⟨_,_,rfl,_⟩:=h
  rfl
 ·obtain ⟨a,dd,rfl,hH,k⟩:=h
  refine ⟨_,(aD (aI (i:=1) pZ.nd rfl (Or.inl rfl) (bC (aA (aS dD rfl T.isi boot_isinstance (aA (pv 0) (aA (dQ (v:=.ref c0) rfl R.m0 rfl) aC))) (aA (aS dD rfl T.isi boot_isinstance (aA (pv 0) (aA (dQ (v:=.ref c1) rfl R.m1 rfl) aC))) (aA (aS dD rfl T.isi boot_isinstance (aA (pv 0) (aA (dQ (v:=.ref c2) rfl R.m2 rfl) aC))) aC)))))
   (aD (aI (i:=1) pZ.nd rfl (Or.inl rfl) (aV qK (pv 1) (bC (aA (aS dD rfl T.isi boot_isinstance (aA (pv 0) (aA (dQ (v:=.ref c3) rfl R.m3 rfl) aC))) (aA (aS dD rfl T.isi boot_isinstance (aA (pv 0) (aA (dQ (v:=.ref c4) rfl R.m4 rfl) aC))) (aA (aS dD rfl T.isi boot_isinstance (aA (pv 0) (aA (dQ (v:=.ref c5) rfl R.m5 rfl) aC))) aC))))))
   (aD (aI (i:=1) pZ.nd rfl (Or.inl rfl) (aV qK (pv 1) (bC (aA (aS dD rfl T.isi boot_isinstance (aA (pv 0) (aA (dQ (v:=.ref c6) rfl R.m6 rfl) aC))) (aA (aS dD rfl T.isi boot_isinstance (aA (pv 0) (aA (dQ (v:=.ref c7) rfl R.m7 rfl) aC))) (aA (aS dD rfl T.isi boot_isinstance (aA (pv 0) (aA (dQ (v:=.ref c8) rfl R.m8 rfl) aC))) aC))))))
   (aD (bF (PW.pt (fW (fS (eO (aS dD rfl T.isi boot_isinstance (aA (pv 0) (aA (dQ (v:=.ref cP) rfl R.mP rfl) aC))))) (eU (fS (eO (aS dD rfl T.isi boot_isinstance (aA (pv 0) (aA (gB (v:=.ty "ValueError") rfl tv aFn rfl) aC))))))))
    (aE (aO (aBy sW aF)))
    aU)
   (aD (bF (aK gD (eT PySem.F.plainAttrs_list PySem.F.slot_list_count PySem.F.type_list_count yQ (pv 1) (aA jV aC)) aF (aT _))
    (aE (aO (aBy sW aF)))
    aU)
   (aE (aO (eT PySem.F.plainAttrs_list PySem.F.slot_list_index PySem.F.type_list_index yP (pv 1) (aA jV aC))))))))),?_⟩
  refine ⟨_,rfl,a,c8,dd,.ref c0,.ref c0,false,rfl,hH,R.ef.i.k,rfl,R.i0,_,rfl,a,c8,dd,.ref c1,.ref c1,false,rfl,hH,R.ef.i.k,rfl,R.i1,_,rfl,a,c8,dd,.ref c2,.ref c2,false,rfl,hH,R.ef.i.k,rfl,R.i2,(by show 3<=sizeLine; decide),fun z1 hz1 => ?_⟩
  have s1:Same H (upd H z1 (.lst [.bl false,.bl false,.bl false])):=Same.upd hz1
  have hH1:=s1 _ _ hH
  refine ⟨_,rfl,_,rfl,a,c8,dd,.ref c3,.ref c3,false,rfl,hH1,R.ef.i.k,rfl,R.i3,_,rfl,a,c8,dd,.ref c4,.ref c4,false,rfl,hH1,R.ef.i.k,rfl,R.i4,_,rfl,a,c8,dd,.ref c5,.ref c5,false,rfl,hH1,R.ef.i.k,rfl,R.i5,(by show 3<=sizeLine; decide),fun z2 hz2 => ?_⟩
  have s2:=s1.trans (Same.upd (o:=.lst [.bl false,.bl false,.bl false]) hz2)
  refine ⟨z1,z2,_,_,rfl,rfl,(Same.upd hz2) _ _ aB,aB,(by show 6<=sizeLine; decide),fun z3 hz3 => ?_⟩
  have s3:=s2.trans (Same.upd (o:=.lst [.bl false,.bl false,.bl false,.bl false,.bl false,.bl false]) hz3)
  have hH3:=s3 _ _ hH
  refine ⟨_,rfl,_,rfl,a,c8,dd,.ref c6,.ref c6,false,rfl,hH3,R.ef.i.k,rfl,R.i6,_,rfl,a,c8,dd,.ref c7,.ref c7,false,rfl,hH3,R.ef.i.k,rfl,R.i7,_,rfl,a,c8,dd,.ref c8,.ref c8,true,rfl,hH3,R.ef.i.k,rfl,R.i8,(by show 3<=sizeLine; decide),fun z4 hz4 => ?_⟩
  have s4:=s3.trans (Same.upd (o:=.lst [.bl false,.bl false,.bl true]) hz4)
  refine ⟨z3,z4,_,_,rfl,rfl,(Same.upd hz4) _ _ aB,aB,(by show 9<=sizeLine; decide),fun z5 hz5 => ?_⟩
  have s5:=s4.trans (Same.upd (o:=.lst [.bl false,.bl false,.bl false,.bl false,.bl false,.bl false,.bl false,.bl false,.bl true]) hz5)
  have hH5:=s5 _ _ hH
  refine ⟨_,rfl,a,c8,dd,.ref cP,.ref cP,true,rfl,hH5,R.ef.i.k,rfl,R.iP,_,rfl,iteF ⟨_,rfl,a,c8,dd,.type "ValueError",.ty "ValueError",true,rfl,hH5,R.ef.i.k,rfl,R.iV,_,rfl,iteF ?_⟩⟩
  refine ⟨_,rfl,.inl ⟨rfl,_,SqL.of aB⟩,z5,_,.bl true,rfl,rfl,aB,rfl,rfl,rfl,_,rfl,iteF ?_⟩
  refine ⟨_,rfl,.inl ⟨rfl,_,SqL.of aB⟩,z5,_,.bl true,8,.bl true,rfl,rfl,aB,rfl,rfl,rfl,rfl,fun m z h e => ?_,k _ s5⟩
  have hm:m=0\/m=1\/m=2\/m=3\/m=4\/m=5\/m=6\/m=7:=by omega
  rcases hm with rfl | rfl | rfl | rfl | rfl | rfl | rfl | rfl <;> cases e <;> rfl
theorem zZ:FnScope ["book","thing","asked","most","size"] ["book","thing","asked","most"] (aG eN):=⟨rfl,rfl,rfl,by decide +kernel,rfl,by decide +kernel,by decide +kernel⟩
theorem aB8 {f dT:Addr}{fdI:FuncData}{oc kV doc pm cdv ct:Value}{od an:Option Addr}{osl:Array (Option Value)}(lk:K.lookup f=some ⟨oc,od,.func (PySem.W.fnOf "tree" "tree" (dJ eN) (dB eN) (aG eN) (.ref dT) kV doc pm an cdv ct),osl⟩)(hcd:PySem.W.codeIn K cdv "tree" = true)
  (R:ErN K mg cP c0 c1 c2 c3 c4 c5 c6 c7 c8 fI) (FI:FnOk P w K mg base CX0 1 fI fdI ["self","size"] (pW c8)) (bI:Binds K fdI ["self","size"] []) (cZ:Cal P w K mg base CX0 14 "size_of" ["book","thing"] (iC K)) (cG:Cal P w K mg base CX0 14 "grown" ["book","thing","asked"] (iK 7)):FnOk P w K mg base (CXg P w) 15 f (PySem.W.fnOf "tree" "tree" (dJ eN) (dB eN) (aG eN) (.ref dT) kV doc pm an cdv ct) ["book","thing","asked","most"] (gQ c8):=by
 refine aFi lk hcd zZ (fun vs H Q E h => ?_) fun A outer s H vs Q E hr hsp => ?_
 ·obtain ⟨_,_,_,_,_,_,_,_,_,_,_,_,_,_,_,_,rfl,_⟩:=h
  rfl
 ·obtain ⟨b,m,x,ws,rs,t,us,rc,a,xs,cf,ff,T',S,mo,v0,rfl,bw,bks,full,hcf,si,T1,bT,eS,bS,hm,am,le0,nd,kk,kE⟩:=hsp
  refine ⟨_,(aD (aI (i:=4) zZ.nd rfl (Or.inl rfl) (aH cZ hr rfl aQ (aA (pv 0) (aA (pv 1) aC))))
   (aD (bF (aK pH (pv 4) (pv 3) (aT _))
    (aE (uF (k:=1) rfl xe_f rfl (hr.mono (by decide)) rfl R.m8 R.ef.i FI bI (aA (pv 4) aC)))
    aU)
   (aE (aO (aH cG hr rfl aQ (aA (pv 0) (aA (pv 1) (aA (pv 2) aC)))))))),?_⟩
  refine ⟨_,rfl,_,rfl,b,x,ws,rs,t,us,rc,rfl,bw,bks,fun f2 xs2 H1 s1 full2 si2 => ?_⟩
  have e:=SI.uniq bks si2 si full2 full x
  rw [e]
  refine ⟨_,rfl,_,rfl,_,_,rfl,rfl,_,rfl,ite2 (fun h => ?_) (fun h => ?_)⟩
  ·have lt:mo < ff x:=of_decide_eq_true h
   exact ⟨_,rfl,uE fun dx H' sm hd=>kE lt dx H' (s1.trans sm) hd⟩
  ·have le:ff x<=mo:=by
    have : ¬ ff x > mo:=fun z=>h (decide_eq_true z)
    omega
   exact ⟨_,rfl,_,rfl,_,rfl,b,m,x,ws,rs,t,us,rc,a,xs,cf,T',S,v0,rfl,bw.keep s1.tk,bks,full,hcf,T1,bT,eS,bS,s1 _ _ hm,am,le0,nd,fun z lv H2 s2 g=>kk le z lv H2 (s1.trans s2) g⟩
end
end K25
namespace L2
open PySem PySem.Spec PyProof.Rows PySem.W
structure CalK (P:Program)(w:World)(K:Frag)(mg:Str->Option Value)(base:Heap)(CX:CXT)(k:Nat)(x:Str)(ps ks:List Str)(gV:List V->List V->List V)(sp:Sp):Prop where
 ex : ∃ (f:Addr) (fd:FuncData) (g:List Value->List Value->List Value),mg x=some (.ref f)/\keepIn K (.ref f)=true/\KBinds K fd ps ks g gV/\FnOk P w K mg base CX k f fd ps sp
theorem CalK.mono {P:Program}{w:World}{K:Frag}{mg:Str->Option Value}{base:Heap}{CX:CXT}{j k:Nat}{x:Str}{ps ks:List Str}{gV:List V->List V->List V}{sp:Sp}(C:CalK P w K mg base CX j x ps ks gV sp)(h:j<=k):CalK P w K mg base CX k x ps ks gV sp:=by
 obtain ⟨f,fd,g,hm,hk,hb,F⟩:=C.ex
 exact ⟨f,fd,g,hm,hk,hb,F.mono h⟩
theorem aB0 {X:Cx}{CX:CXT}{k:Nat}{x:Str}{ps ks:List Str}{gV:List V->List V->List V}{sp:Sp}{E:XK}{e:Expr}{es:List Expr}{kws:List Keyword}{t tk:TA}{p pos:Pos}(C:CalK X.prog X.w X.K X.mg X.base CX k x ps ks gV sp)(hr:Room k X.A)(hg:Gl X x)(hx:gG CX X E)
    (ha:PA X (e :: es) t) (hkw:PK X kws tk) (hall:(backToKw pos (keywordEach kws X.env)).all (·.1.isSome)=true:=by rfl) (hks:(backToKw pos (keywordEach kws X.env)).filterMap (·.1)=ks:=by rfl)
    (hdb:(x == ("__debug__" : Str))=false:=by decide) (he:starEach (e :: es) X.env=(false,eval e X.env) :: starEach es X.env:=by rfl)
    (hpl:((backTo pos (starEach (e :: es) X.env)).any (·.1) || (backToKw pos (keywordEach kws X.env)).any (·.1.isNone))=false:=by rfl) :
    PE X (.Call (.Name x p) (e :: es) kws pos) (zV sp gV E t tk):=by
  obtain ⟨f,fd,g,hm,hk,hb,F⟩:=C.ex
  exact xM F hr hg hm hk hb hx ha hkw hall hks hdb he hpl
section
variable {X:Cx}
theorem xD {CX:CXT}{k:Nat}{f:Addr}{fd:FuncData}{ps:List Str}{sp:Sp}{E:XK}{pins:List (Addr × Obj)}{σ:St}{H:Hp}{s:Shared}{Q:VK}{us:List Value}{vs:List V}{dv:V}{u:Value}(F:FnOk X.prog X.w X.K X.mg X.base CX k f fd ps sp)(hr:Room k X.A)(hb:Binds X.K fd ps [u])(rd:RelV dv u)(hx:iJ CX X σ E)
  (I:Inv X pins σ H s) (r:Vals vs us) (h:sp (vs ++ [dv]) H Q E):wpAny (model X.prog X.w) X.A (call (.ref f) us) (EP X pins σ Q) X.xe s:=by
 have r2:Vals (vs ++ [dv]) (us ++ [u]):=r.append (.cons rd .nil)
 have hl:(us ++ [u]).length=ps.length:=by rw [<- r2.length]; exact F.len _ _ _ _ h
 refine wpAny_call (codeAny_mono (F.run X.A X.stack s H ⟨us,[]⟩ (us ++ [u]) (vs ++ [dv]) Q E hr I.env0 (hb s us I.kIn hl) r2 h) fun r s' hq => ?_)
 cases r with
 | error e=>exact hx pins H s e s' I hq
 | ok fl =>
  cases fl with
  | ret u=>exact I.after hq
  | next=>exact False.elim hq
  | brk=>exact False.elim hq
  | cont=>exact False.elim hq
theorem xO {CX:CXT}{k:Nat}{x:Str}{ps:List Str}{sp:Sp}{dv:V}{E:XK}{e:Expr}{es:List Expr}{t:TA}{p pos:Pos}{σ:St}(C:Cal1 X.prog X.w X.K X.mg X.base CX k x ps sp dv)(hr:Room k X.A)(hg:Gl X x)(hx:iJ CX X σ E)
  (ha:PA X (e :: es) t) (hdb:(x == ("__debug__" : Str))=false:=by decide) (he:starEach (e :: es) X.env=(false,eval e X.env) :: starEach es X.env:=by rfl) (hpl:(backTo pos (starEach es X.env)).any (·.1)=false:=by rfl) :
  PE X (.Call (.Name x p) (e :: es) [] pos) (fun σ' H Q=>σ'=σ/\oJ sp [dv] E t σ' H Q):=by
 obtain ⟨f,fd,u,hm,hk,hb,rd,F⟩:=C.ex
 intro pins s σ' H Q I h
 obtain ⟨es',h⟩:=h
 subst es'
 refine wpAny_Call_Name_kw (fN I hg hm ?_ hdb)
 refine PySem.W.callWith_K (h₀:=X.base) I.ok.mod.kin hk (thn (ha pos pins s σ' H _ I h) fun us s1 ⟨vs,H1,I1,r,q⟩=>⟨I1.kIn,?_⟩) he hpl
 exact xD F hr hb rd hx I1 r q
end
end L2
namespace K25
open PySem PySem.Spec PyProof.Rows L2 GM TM BQ TR
theorem aDi {H:Hp}{l:Addr}{kvs:List (Key × V)}{o:HO}(h:H l=some (.dK kvs)):Tk H (upd H l o):=fun b ys e=>by
 have ne:b ≠ l:=fun z=>by rw [z,h] at e; cases e
 rw [aL ne]
 exact e
structure IM (H:Hp)(d:Addr)(kvs:List (Key × V))(ks:List Str)(f:Str->Int):Prop where
 hd:H d=some (.dK kvs)
 dk:DK kvs ks
 at' : ∀ y ∈ ks,valV kvs (Sum.inr y)=some (.int (f y))
theorem IM.same {H H':Hp}{d:Addr}{kvs:List (Key × V)}{ks:List Str}{f:Str->Int}(h:IM H d kvs ks f)(s:Same H H'):IM H' d kvs ks f:=⟨s _ _ h.hd,h.dk,h.at'⟩
theorem IM.put {H:Hp}{d:Addr}{kvs:List (Key × V)}{ks:List Str}{f g:Str->Int}(h:IM H d kvs ks f)(y:Str)(hg : ∀ z ∈ ks,z ≠ y->g z=f z) : ∃ ks',IM (upd H d (.dK (putK kvs (Sum.inr y) (.int (g y))))) d (putK kvs (Sum.inr y) (.int (g y))) ks' g/\(∀ z,z ∈ ks' ↔ z ∈ ks\/z=y)/\ks'.length<=ks.length+1:=by
 obtain ⟨ks',dk,m,l⟩:=h.dk.put y (.int (g y))
 refine ⟨ks',⟨aB,dk,fun z hz => ?_⟩,m,l⟩
 rw [kY]
 by_cases e:z=y
 ·subst e
  rw [if_pos rfl]
 ·rw [if_neg (fun w=>e (Sum.inr.inj w))]
  rcases (m z).mp hz with w | w
  ·rw [hg z w e]
   exact h.at' z w
  ·exact absurd w e
def oK (K:PySem.W.Frag):Sp:=fun vs H Q _=>∃ (b:Addr) (ws rs:List Str) (t:Int) (us:List V) (rc:List (Str × List Rw)),vs=[.ref b]/\BwV H b ws us rc/\BkS ws rs t rc /\
 ∀ d kvs ks f xs H',Same H H'->H d=none->IM H' d kvs ks f->(∀ z,z ∈ ks ↔ z ∈ ws ++ xs)->Full rc ws xs->SI rc xs f->Q (.ref d) H'
section
variable {P:Program}{w:World}{K:PySem.W.Frag}{mg:Str->Option Value}{base:Heap}
theorem fD:FnScope ["_law_book_here","_law_rows_by","_law_own_sizes","_law_name","_law_raw_here","_law_place","_law_thing","_law_one"] ["_law_book_here"] (aG sSizes):=⟨rfl,rfl,rfl,by decide +kernel,rfl,by decide +kernel,by decide +kernel⟩
theorem xW {f:Addr}{fd:FuncData}(F:Fun K "_law_sizes" "_law_sizes" sSizes f fd)(T:Txt mg)(cO:Cal P w K mg base CX0 4 "_law_order" ["_law_book_here"] lB)(cR:Cal P w K mg base CX0 4 "_law_raw" ["_law_rows"] (tM K)):FnOk P w K mg base CX0 5 f fd ["_law_book_here"] (oK K):=by
 refine F.ok fD (fun vs H Q E h => ?_) (fun cdv A outer s H vs Q E hr h => ?_)
 ·obtain ⟨_,_,_,_,_,_,rfl,_⟩:=h
  rfl
 ·obtain ⟨b,ws,rs,t,us,rc,rfl,bw,bks,k⟩:=h
  refine ⟨_,(aD (aI (i:=1) fD.nd rfl (Or.inl rfl) (bJ (kW rfl) rfl T.dict' wL (aA (bJ eQ rfl T.list' iT (aA (pit 0 2) aC)) aC)))
   (aD (aI (i:=2) fD.nd rfl (Or.inl rfl) lP)
   (aD (bL PassesOwn.never rfl (eJ (pit 0 0)) (aJ (i:=3) fD.nd rfl (Or.inl rfl))
    (aE (iM (fO hr) (pv 2) (pv 3) aF rfl)))
   (aD (bL PassesOwn.never rfl (cJ (aH cO hr rfl aQ (aA (pv 0) aC))) (aJ (i:=3) fD.nd rfl (Or.inl rfl))
    (aD (aI (i:=4) fD.nd rfl (Or.inl rfl) (dG fU (aH cR hr rfl aQ (aA (eK (fO hr) (pv 1) (pv 3) (fun _ _=>rfl)) aC)) aF (fun _ _=>rfl)))
    (aD (iM (fO hr) (pv 2) (pv 3) aF rfl)
    (aE (bL PassesOwn.never rfl (cJ (pv 4)) (dH rfl (aP (aJ (i:=5) fD.nd rfl (Or.inl rfl)) (aP (aJ (i:=6) fD.nd rfl (Or.inl rfl)) (aP (aJ (i:=7) fD.nd rfl (Or.inl rfl)) bW))))
     (aE (iM (fO hr) (pv 2) (pv 3) (aV cX (eK (fO hr) (pv 2) (pv 3) (fun _ _=>rfl)) (eK (fO hr) (pv 2) (pv 6) (fun _ _=>rfl))) rfl)))))))
   (aE (aO (pv 2))))))),?_⟩
  obtain ⟨w',y0,fo',hb,hw,hfo,hu⟩:=id bw
  have rcs:=bks.rw.rcs (by have:=bks.r6; omega)
  have nmd:=bks.names
  have rl:=bks.rw.len
  have r6:=bks.r6
  have w6:=bks.w6
  have wsnd:=List.nodup_append.mp bks.nd
  have inrs : ∀ {z:Str},z ∈ rc.map (·.1)->z ∈ rs:=fun hz=>by rw [<- bks.rw.nm]; exact hz
  refine ⟨b,_,_,rfl,SqT.of hb,rfl,fo',_,rfl,.inr (SqT.of hfo),fun l1 n1 => ?_⟩
  have s1:=Same.upd (o:=.lst us) n1
  obtain ⟨kR,e1,e2,e3,e4⟩:=lL hu
  have kRnd:(kR.map (·.1)).Nodup:=by
   rw [e2]
   exact List.pairwise_map.mpr (nmd.imp fun h z=>h (Sum.inr.inj z))
  refine ⟨l1,us,kR,rfl,aB,e1,kRnd,(fun i u kv hu' hkv=>by
   obtain ⟨z,e,hz⟩:=e3 i u kv hu' hkv
   exact ⟨z,e,s1 _ _ hz⟩),fun R nR => ?_⟩
  have sR:=Same.upd (o:=.dK kR) nR
  have hR:upd (upd H l1 (.lst us)) R (.dK kR) R=some (.dK kR):=aB
  have s2:=s1.trans sR
  generalize upd (upd H l1 (.lst us)) R (.dK kR)=H2 at s2 hR ⊢
  refine fun d nd => ?_
  have nd0:=bH s2 nd
  have Rd:R ≠ d:=fun e=>by rw [<- e,hR] at nd; cases nd
  have sd:=Same.upd (o:=.dK []) nd
  have hd3:upd H2 d (.dK []) d=some (.dK []):=aB
  have s3:=s2.trans sd
  have hR3:=sd _ _ hR
  generalize upd H2 d (.dK [])=H3 at s3 hd3 hR3 ⊢
  refine ⟨b,_,_,rfl,SqT.of (s3 _ _ hb),rfl,w',rfl,⟨_,SqT.of (s3 _ _ hw)⟩,?_⟩
  refine zH (xs:=ws.map V.str) (fun i σ H'=>∃ (v3 v4 v5 v6 v7:Option V) (kvs:List (Key × V)) (ks:List Str),σ=[some (.ref b),some (.ref R),some (.ref d),v3,v4,v5,v6,v7]/\Same H H'/\H' R=some (.dK kR)/\IM H' d kvs ks (fun _=>1)/\(∀ z,z ∈ ks ↔ z ∈ ws.take i)/\ks.length<=i)
   ⟨_,_,_,_,_,[],[],rfl,s3,hR3,⟨hd3,DK.nil,(fun y h=>nomatch h)⟩,(fun z=>by simp),Nat.le_refl _⟩ (fun i σ H' _ hh=>by obtain ⟨_,_,_,_,_,_,_,_,sm,_⟩:=hh; exact SqT.of (sm _ _ hw)) ?_ ?_
  ·rintro i v σ H4 D1 hN hv ⟨v3,v4,v5,v6,v7,kvs,ks,rfl,s4,hR4,im4,mk4,kl4⟩
   rw [List.getElem?_map] at hv
   obtain ⟨y,hy,rfl⟩:=Option.map_eq_some_iff.mp hv
   have il:=(List.getElem?_eq_some_iff.mp hy).1
   refine ⟨_,rfl,_,rfl,d,_,rfl,DPut.k (k:=Sum.inr y) im4.hd (aX (by rw [im4.dk.len]; omega)),?_⟩
   obtain ⟨ks',im5,m5,l5⟩:=im4.put (g:=fun _=>1) y (fun _ _ _=>rfl)
   refine hN _ _ ⟨_,_,_,_,_,_,ks',rfl,bQ s4 nd0,by rw [aL Rd]; exact hR4,im5,fun z => ?_,by omega⟩
   rw [m5,mk4,List.take_add_one,hy,List.mem_append]
   simp
  ·rintro σ H4 ⟨v3,v4,v5,v6,v7,kvs,ks,rfl,s4,hR4,im4,mk4,kl4⟩
   rw [List.length_map,List.take_length] at mk4
   refine ⟨_,rfl,b,ws,us,rc,rfl,bw.keep s4.tk,rcs,by omega,fun xs L H5 s5 nL hL x12 ord orde => ?_⟩
   have full:=vO bks ord orde
   have LD:L ≠ d:=fun e=>by rw [e,im4.hd] at nL; cases nL
   have LR:L ≠ R:=fun e=>by rw [e,hR4] at nL; cases nL
   have xl:xs.length<=rc.length:=by
    have:=fT full.nd full.sub
    rw [List.length_map] at this
    exact this
   refine ⟨L,rfl,⟨_,SqL.of hL⟩,?_⟩
   refine kB (xs:=xs.map V.str) (fun i σ H'=>∃ (v3 v4 v5 v6 v7:Option V) (kvs:List (Key × V)) (ks:List Str) (g:Str->Int),σ=[some (.ref b),some (.ref R),some (.ref d),v3,v4,v5,v6,v7]/\Same H H'/\H' R=some (.dK kR)/\H' L=some (.lst (xs.map V.str))/\IM H' d kvs ks g/\(∀ z,z ∈ ks ↔ z ∈ ws ++ xs.take i)/\ks.length<=6+i/\SI rc (xs.take i) g)
    ⟨_,_,_,_,_,kvs,ks,fun _=>1,rfl,s4.trans s5,s5 _ _ hR4,hL,im4.same s5,(fun z=>by rw [mk4]; simp),(by rw [List.length_map] at kl4; omega),⟨(fun _ _=>rfl),(fun _=>by decide),(fun p _ h=>by simp at h)⟩⟩ (fun i σ H' _ hh=>by obtain ⟨_,_,_,_,_,_,_,_,_,_,_,h,_⟩:=hh; exact SqL.of h) ?_ ?_
   ·rintro i v σ H6 D2 hN2 hv ⟨v3,v4,v5,v6,v7,kvs6,ks6,g,rfl,s6,hR6,hL6,im6,mk6,kl6,si⟩
    rw [List.getElem?_map] at hv
    obtain ⟨y,hy,rfl⟩:=Option.map_eq_some_iff.mp hv
    have il:=(List.getElem?_eq_some_iff.mp hy).1
    obtain ⟨p,hp,rfl⟩:=List.mem_map.mp (full.sub y (List.mem_of_getElem? hy))
    obtain ⟨j,hj⟩:=List.getElem?_of_mem hp
    obtain ⟨p1,rok⟩:=bks.rw.rw j p hj
    obtain ⟨ps,l,hrs⟩:=rok.ok
    have etk:xs.take (i+1)=xs.take i ++ [p.1]:=by rw [List.take_add_one,hy]; rfl
    obtain ⟨q,rv,kq,hq,hrv⟩:=e4 j p hj
    have vq:=sU kRnd kq
    have pnw:p.1 ∉ ws:=fun z=>wsnd.2.2 p.1 z p.1 (inrs (List.mem_map_of_mem hp)) rfl
    refine ⟨_,rfl,_,rfl,R,_,rfl,vq ▸ DGet.k (k:=Sum.inr p.1) hR6,q,rv,p.2,ps,l,rfl,.inr (SqT.of (s6 _ _ hq)),hrv.imp (fun _ _ x=>RowV.keep s6.tk x),hrs,rok.ln,fun tt gl lm fs H7 s7 htt ng hg hfs hlm => ?_⟩
    refine ⟨tt,_,0,.ref gl,rfl,rfl,SqT.of htt,rfl,?_⟩
    have im7:=im6.same s7
    have gd:gl ≠ d:=fun e=>by rw [e,im6.hd] at ng; cases ng
    have inn : ∀ s ∈ ps,s.2.1 ∈ ws ++ xs.take i:=fun s hs=>by
     have h1:=Rs.things hrs s hs
     rw [<- eI nmd hj] at h1
     exact List.mem_append.mpr (ord i p.1 hy _ h1)
    have nin:p.1 ∉ ws ++ xs.take i:=fun z=>by
     rcases List.mem_append.mp z with z | z
     ·exact pnw z
     ·obtain ⟨i',hi'⟩:=List.getElem?_of_mem z
      have lt:i' < i:=by
       have:=(List.getElem?_eq_some_iff.mp hi').1
       rw [List.length_take] at this
       omega
      rw [List.getElem?_take_of_lt lt] at hi'
      have pw:=List.pairwise_iff_getElem.mp full.nd
      have g1:=(List.getElem?_eq_some_iff.mp hi')
      have g2:=(List.getElem?_eq_some_iff.mp hy)
      exact pw i' i g1.1 g2.1 lt (by rw [g1.2,g2.2])
    have ne : ∀ s ∈ ps,s.2.1 ≠ p.1:=fun s hs e=>nin (e ▸ inn s hs)
    obtain ⟨ks8,im8,m8,l8⟩:=im7.put (g:=upf g p.1 1) p.1 (fun z _ nz=>if_neg nz)
    have e8:upf g p.1 1 p.1=1:=if_pos rfl
    rw [e8] at im8
    refine ⟨_,rfl,_,rfl,d,_,rfl,DPut.k (k:=Sum.inr p.1) im7.hd (aX (by rw [im7.dk.len]; omega)),?_⟩
    have tk8:Tk H7 (upd H7 d (.dK (putK kvs6 (Sum.inr p.1) (.int 1)))):=aDi im7.hd
    have s08:Same H (upd H7 d (.dK (putK kvs6 (Sum.inr p.1) (.int 1)))):=bQ (s6.trans s7) nd0
    have hR8:upd H7 d (.dK (putK kvs6 (Sum.inr p.1) (.int 1))) R=some (.dK kR):=by rw [aL Rd]; exact s7 _ _ hR6
    have hL8:upd H7 d (.dK (putK kvs6 (Sum.inr p.1) (.int 1))) L=some (.lst (xs.map V.str)):=by rw [aL LD]; exact s7 _ _ hL6
    have hg8:upd H7 d (.dK (putK kvs6 (Sum.inr p.1) (.int 1))) gl=some (.lst fs):=by rw [aL gd]; exact hg
    have hfs8:=hfs.imp fun _ _ x=>PuV.keep tk8 x
    generalize upd H7 d (.dK (putK kvs6 (Sum.inr p.1) (.int 1)))=H8 at tk8 s08 hR8 hL8 hg8 hfs8 im8 ⊢
    have mk8 : ∀ z,z ∈ ks8 ↔ z ∈ ws ++ xs.take (i+1):=fun z=>by
     rw [m8,mk6,etk,<- List.append_assoc,List.mem_append (s:=ws ++ xs.take i),List.mem_singleton]
    refine ⟨_,rfl,gl,rfl,⟨_,SqL.of hg8⟩,?_⟩
    refine kB (xs:=fs) (fun u σ H'=>∃ (v5 v6 v7:Option V) (kvs':List (Key × V)) (ks':List Str),σ=[some (.ref b),some (.ref R),some (.ref d),some (.str p.1),some (.ref gl),v5,v6,v7]/\Same H H'/\H' R=some (.dK kR)/\H' L=some (.lst (xs.map V.str))/\H' gl=some (.lst fs)/\L2R (PuV H') fs ps/\IM H' d kvs' ks' (upf g p.1 (1+((ps.take u).map fun s=>g s.2.1).sum))/\(∀ z,z ∈ ks' ↔ z ∈ ws ++ xs.take (i+1))/\ks'.length<=6+(i+1))
     ⟨_,_,_,_,ks8,rfl,s08,hR8,hL8,hg8,hfs8,im8,mk8,by omega⟩ (fun u σ H' _ hh=>by obtain ⟨_,_,_,_,_,_,_,_,_,h,_⟩:=hh; exact SqL.of h) ?_ ?_
    ·rintro u v σ H9 D3 hN3 hv9 ⟨x5,x6,x7,kvs9,ks9,rfl,s9,hR9,hL9,hg9,hfs9,im9,mk9,kl9⟩
     obtain ⟨sp,hsp,z,om,rfl,hz,hom⟩:=hfs9.get hv9
     have spm:=List.mem_of_getElem? hsp
     have ept:(ps.take (u+1)).map (fun s=>g s.2.1)=(ps.take u).map (fun s=>g s.2.1) ++ [g sp.2.1]:=by rw [List.take_add_one,hsp,List.map_append]; rfl
     refine ⟨z,_,rfl,SqT.of hz,rfl,_,_,rfl,_,_,rfl,_,_,rfl,rfl,?_⟩
     have own:=im9.at' p.1 ((mk9 _).mpr (by rw [etk]; simp))
     have oth:=im9.at' sp.2.1 ((mk9 _).mpr (by rw [etk,<- List.append_assoc]; exact List.mem_append_left _ (inn sp spm)))
     have ev1:upf g p.1 (1+((ps.take u).map fun s=>g s.2.1).sum) p.1=1+((ps.take u).map fun s=>g s.2.1).sum:=if_pos rfl
     have ev2:upf g p.1 (1+((ps.take u).map fun s=>g s.2.1).sum) sp.2.1=g sp.2.1:=if_neg (ne sp spm)
     rw [ev1] at own
     rw [ev2] at oth
     refine ⟨_,rfl,_,rfl,d,_,rfl,own ▸ DGet.k (k:=Sum.inr p.1) im9.hd,_,rfl,_,rfl,d,_,rfl,oth ▸ DGet.k (k:=Sum.inr sp.2.1) im9.hd,_,_,rfl,rfl,_,rfl,_,rfl,d,_,rfl,DPut.k (k:=Sum.inr p.1) im9.hd (aX (by rw [im9.dk.len]; omega)),?_⟩
     have en:upf g p.1 (1+((ps.take (u+1)).map fun s=>g s.2.1).sum) p.1=1+((ps.take u).map fun s=>g s.2.1).sum+g sp.2.1:=by
      unfold upf
      rw [if_pos rfl,ept,List.sum_append]
      simp
      omega
     obtain ⟨ksa,ima,ma,la⟩:=im9.put (g:=upf g p.1 (1+((ps.take (u+1)).map fun s=>g s.2.1).sum)) p.1 (fun z _ nz=>by unfold upf; rw [if_neg nz,if_neg nz])
     rw [en] at ima
     have tka:Tk H9 (upd H9 d (.dK (putK kvs9 (Sum.inr p.1) (.int (1+((ps.take u).map fun s=>g s.2.1).sum+g sp.2.1))))):=aDi im9.hd
     have mka : ∀ z,z ∈ ksa ↔ z ∈ ws ++ xs.take (i+1):=fun z=>by
      rw [ma,mk9]
      exact ⟨fun h=>h.elim id fun e=>by rw [e,etk]; simp,.inl⟩
     have kla:ksa.length<=6+(i+1):=by
      have:=fT (ws:=ws ++ xs.take (i+1)) ima.dk.nd fun z hz=>(mka z).mp hz
      rw [List.length_append,List.length_take] at this
      omega
     exact hN3 _ _ ⟨_,_,_,_,ksa,rfl,bQ s9 nd0,by rw [aL Rd]; exact hR9,by rw [aL LD]; exact hL9,by rw [aL gd]; exact hg9,hfs9.imp (fun _ _ x=>PuV.keep tka x),ima,mka,kla⟩
    ·rintro σ H9 ⟨x5,x6,x7,kvs9,ks9,rfl,s9,hR9,hL9,hg9,hfs9,im9,mk9,kl9⟩
     rw [hfs9.len,List.take_length] at im9
     refine hN2 _ _ ⟨_,_,_,_,_,kvs9,ks9,_,rfl,s9,hR9,hL9,im9,mk9,kl9,?_⟩
     rw [etk]
     refine si.step nmd hp hrs fun q hq hqx ps' l' hrs' s' hs' e => ?_
     rw [<- etk] at hqx
     obtain ⟨i',hi'⟩:=List.getElem?_of_mem hqx
     have lt:i' < i+1:=by
      have:=(List.getElem?_eq_some_iff.mp hi').1
      rw [List.length_take] at this
      omega
     rw [List.getElem?_take_of_lt lt] at hi'
     obtain ⟨j',hj'⟩:=List.getElem?_of_mem hq
     have h1:=Rs.things hrs' s' hs'
     rw [<- eI nmd hj',e] at h1
     refine nin (List.mem_append.mpr ((ord i' q.1 hi' _ h1).imp id fun z => ?_))
     rw [show xs.take i'=(xs.take i).take i' by rw [List.take_take,Nat.min_eq_left (by omega)]] at z
     exact List.mem_of_mem_take z
   ·rintro σ H6 ⟨v3,v4,v5,v6,v7,kvs6,ks6,g,rfl,s6,hR6,hL6,im6,mk6,kl6,si⟩
    rw [List.length_map,List.take_length] at mk6 si
    exact ⟨_,rfl,k d kvs6 ks6 g xs H6 s6 nd0 im6 mk6 full si⟩
end
theorem aDa {a:BQ.Q}(ha:Am a):vl a*(a.2:Rat)=(a.1:Rat):=by
 have:=cF ha.b1
 unfold vl
 generalize (a.1:Rat)=p at *
 generalize (a.2:Rat)=q at *
 grind
theorem rqg {a b c d:Rat}(h:a*b=c):a*(b*d)=c*d:=by rw [<- h,Rat.mul_assoc]
theorem kZ {ws rs xs:List Str}{t:Int}{rc:List (Str × List Rw)}{a:BQ.Q}{x:Str}(b:BkS ws rs t rc)(F:Full rc ws xs)(hx:x ∈ ws ++ xs)(am:Am a)(b1:Bt 210 a.1)(b2:Bt 210 a.2) : ∃ (cf:Str->Int) (T S:Int),CF rc cf/\1<=T/\Bt 3100 T/\vl a*(T:Rat)=(S:Rat)/\Bt 3100 S/\Nd ws xs cf T 7 x (vl a):=by
 obtain ⟨cf,hcf⟩:=aGu b
 have rl:=b.rw.len
 have r6:=b.r6
 have xl:xs.length<=rc.length:=by
  have:=fT F.nd F.sub
  rw [List.length_map] at this
  exact this
 have bt:=hcf.prc_bt xs
 refine ⟨cf,a.2*prc cf xs,a.1*prc cf xs,hcf,BQ.mul1 am.b1 (hcf.prc_ge _),(b2.mul bt).mono (by omega),?_,(b1.mul bt).mono (by omega),?_⟩
 ·rw [Rat.intCast_mul,Rat.intCast_mul]
  exact rqg (aDa am)
 ·rcases List.mem_append.mp hx with h | h
  ·exact .inl ⟨h,(Dn.own am).scale,by decide⟩
  ·obtain ⟨i,hi⟩:=List.getElem?_of_mem h
   have il:=(List.getElem?_eq_some_iff.mp hi).1
   exact .inr ⟨i,a.2,prc cf (xs.drop (i+1)),hi,by omega,Dn.own am,by rw [Int.mul_assoc,<- gM,List.take_append_drop]⟩
def Ceil (c:V)(sz:Int)(P:Int->Prop):Prop:=(c = .non/\P 300)\/∃ mo,c = .int mo/\P mo
def iE:Sp:=fun vs H Q _=>∃ (b m:Addr) (x:Str) (ws rs:List Str) (t:Int) (us:List V) (rc:List (Str × List Rw)) (a:BQ.Q) (xs:List Str) (f:Str->Int) (c:V) (sz:Int),vs=[.ref b,.str x,.ref m,c,.int sz]/\BwV H b ws us rc/\BkS ws rs t rc/\Full rc ws xs/\SI rc xs f/\x ∈ ws ++ xs/\AmV H m a/\Am a/\Bt 210 a.1/\Bt 210 a.2/\f x=sz/\Ceil c sz (fun mo=>mo < sz)/\∀ H',Same H H'->Q (.bl true) H'
section
variable {P:Program}{w:World}{K:PySem.W.Frag}{mg:Str->Option Value}{base:Heap}{cP c0 c1 c2 c3 c4 c5 c6 c7 c8 fI:Addr}
theorem jP:FnScope ["_law_book_here","_law_thing","_law_asked_here","_law_ceiling","_law_size","_law_refused_here","_law_e"] ["_law_book_here","_law_thing","_law_asked_here","_law_ceiling","_law_size"] (aG sRefused):=⟨rfl,rfl,rfl,by decide +kernel,rfl,by decide +kernel,by decide +kernel⟩
theorem rP {f:Addr}{fd:FuncData}(F:Fun K "_law_refused" "_law_refused" sRefused f fd)(R:ErN K mg cP c0 c1 c2 c3 c4 c5 c6 c7 c8 fI)(cK:Cal P w K mg base CX0 15 "_law_kind" ["_law_e"] (tR c8))(cW:Cal P w K mg base CX0 15 "_law_whole" ["_law_found"] jM)
  (cT:Cal P w K mg base (CXg P w) 15 "tree" ["book","thing","asked","most"] (gQ c8)) (cT1:Cal1 P w K mg base (CXg P w) 15 "tree" ["book","thing","asked","most"] (gQ c8) (.int 300)):FnOk P w K mg base CX0 16 f fd ["_law_book_here","_law_thing","_law_asked_here","_law_ceiling","_law_size"] iE:=by
 refine F.ok jP (fun vs H Q E h => ?_) (fun cdv A outer s H vs Q E hr h => ?_)
 ·obtain ⟨_,_,_,_,_,_,_,_,_,_,_,_,_,rfl,_⟩:=h
  rfl
 ·obtain ⟨b,m,x,ws,rs,t,us,rc,a,xs,ff,c,sz,rfl,bw,bks,full,si,hx,hm,am,b1,b2,ef,hc,k⟩:=h
  refine ⟨_,(aD (aI (i:=5) jP.nd rfl (Or.inl rfl) dS)
   (aD (aBs (i:=6) (j:=5) ⟨rfl,rfl,rfl⟩ rfl R.mP R.ct jP.nd rfl rfl rfl rfl (by decide) (fun pins E' σ Ec hp=>aE (bF (aK mZ (pv 3) dS (aT _)) (aE (bZ (xO cT1 hr rfl hp (aA (pv 0) (aA (pv 1) (aA (pv 2) aC)))))) (aE (bZ (aBz cT hr rfl hp (aA (pv 0) (aA (pv 1) (aA (pv 2) (aA (pv 3) aC))))))))))
   (aD (bF (PW.pt (fW (aK mZ (pv 5) dS (aT _)) (eU (aK gD (aH cK hr rfl aQ (aA (pv 5) aC)) aF (aT _)))))
    (aE (aO jV))
    aU)
   (aE (aO (uK (aH cW hr rfl aQ (aA (aAf (pv 5) rfl) aC)) (mW (fK eG (aAf (pv 5) rfl) (pv 4) (aT _))))))))),?_⟩
  obtain ⟨cf,T',S,hcf,T1,bT,eS,bS,nd⟩:=kZ bks full hx am b1 b2
  rcases hc with ⟨rfl,lt⟩ | ⟨mo,rfl,lt⟩
  ·refine ⟨_,rfl,rfl,_,rfl,iteT ?_⟩
   refine ⟨rfl,_,rfl,_,rfl,_,rfl,b,m,x,ws,rs,t,us,rc,a,xs,cf,ff,T',S,300,vl a,rfl,bw,bks,full,hcf,si,T1,bT,eS,bS,hm,am,Rat.le_refl,nd,(fun le=>absurd le (by omega)),fun _ dx H' sm hd=>⟨c8,rfl,R.ef.i.k,R.s,fun e he => ?_⟩⟩
   have hd':(upd H' e (excD e c8 (some dx))) dx=some (xdE dx [("size",.int (ff x))]):=(Same.upd he) _ _ hd
   refine ⟨_,rfl,rfl,_,rfl,iteF ⟨_,rfl,e,some dx,rfl,aB,fun H2 s2=>⟨rfl,_,rfl,iteF ?_⟩⟩⟩
   have hq:=s2 _ _ (aB (H:=H') (a:=e) (o:=excD e c8 (some dx)))
   refine ⟨_,rfl,e,c8,cP,fI,dx,_,.int (ff x),rfl,hq,s2 _ _ hd',R.ef,rfl,ff x,rfl,_,rfl,iteT ⟨_,rfl,e,c8,cP,fI,dx,_,.int (ff x),rfl,hq,s2 _ _ hd',R.ef,rfl,.int sz,rfl,rfl,?_⟩⟩
   rw [ef,decide_eq_true rfl]
   exact k _ (sm.trans ((Same.upd he).trans s2))
  ·refine ⟨_,rfl,rfl,_,rfl,iteF ?_⟩
   refine ⟨rfl,_,rfl,_,rfl,_,rfl,_,rfl,b,m,x,ws,rs,t,us,rc,a,xs,cf,ff,T',S,mo,vl a,rfl,bw,bks,full,hcf,si,T1,bT,eS,bS,hm,am,Rat.le_refl,nd,(fun le=>absurd le (by omega)),fun _ dx H' sm hd=>⟨c8,rfl,R.ef.i.k,R.s,fun e he => ?_⟩⟩
   have hd':(upd H' e (excD e c8 (some dx))) dx=some (xdE dx [("size",.int (ff x))]):=(Same.upd he) _ _ hd
   refine ⟨_,rfl,rfl,_,rfl,iteF ⟨_,rfl,e,some dx,rfl,aB,fun H2 s2=>⟨rfl,_,rfl,iteF ?_⟩⟩⟩
   have hq:=s2 _ _ (aB (H:=H') (a:=e) (o:=excD e c8 (some dx)))
   refine ⟨_,rfl,e,c8,cP,fI,dx,_,.int (ff x),rfl,hq,s2 _ _ hd',R.ef,rfl,ff x,rfl,_,rfl,iteT ⟨_,rfl,e,c8,cP,fI,dx,_,.int (ff x),rfl,hq,s2 _ _ hd',R.ef,rfl,.int sz,rfl,rfl,?_⟩⟩
   rw [ef,decide_eq_true rfl]
   exact k _ (sm.trans ((Same.upd he).trans s2))
end
def dOf (x:Str × Int × Int):Dt:=.t [.s x.1,.t [.i x.2.1,.i x.2.2]]
theorem Pr.dv {K:PySem.W.Frag}{H:Hp}{v:V}{x:Str × Int × Int}(h:Pr H v x):Dv K H 40 v (dOf x):=by
 obtain ⟨p,q,rfl,h1,h2⟩:=h
 refine .t (n:=39) (SqZ.of h1) rfl fun j y d hy hd => ?_
 match j,hy,hd with
 | 0,hy,hd=>cases hy; cases hd; exact .s
 | 1,hy,hd =>
  cases hy; cases hd
  refine .t (n:=38) (SqZ.of h2) rfl fun j y d hy hd => ?_
  match j,hy,hd with
  | 0,hy,hd=>cases hy; cases hd; exact .i
  | 1,hy,hd=>cases hy; cases hd; exact .i
  | j+2,hy,_=>simp at hy
 | j+2,hy,_=>simp at hy
theorem PrL.dl {K:PySem.W.Frag}{H:Hp}{vs:List V}{xs:List (Str × Int × Int)}(h:PrL H vs xs):DL K H 40 vs (xs.map dOf):=by
 induction h with
 | nil=>exact DL.nil
 | cons p _ ih=>exact DL.cons p.dv ih
theorem Dv.two {K:PySem.W.Frag}{H:Hp}{q:Addr}{a:BQ.Q}(h:AmV H q a):Dv K H 40 (.ref q) (.t [.i a.1,.i a.2]):=by
 refine .t (n:=39) (SqZ.of h) rfl fun j x d hx hd => ?_
 match j,hx,hd with
 | 0,hx,hd=>cases hx; cases hd; exact .i
 | 1,hx,hd=>cases hx; cases hd; exact .i
def zD:List V->List V->List V:=fun vs zs=>if zs.length=1/\vs.length=3 then vs ++ zs else []
def oM:Sp:=fun vs H Q _=>∃ (b m:Addr) (x:Str) (ws rs:List Str) (t:Int) (us:List V) (rc:List (Str × List Rw)) (a:BQ.Q) (xs:List Str) (f:Str->Int) (c:V) (sz:Int),vs=[.ref b,.str x,.ref m,c,.int sz]/\BwV H b ws us rc/\BkS ws rs t rc/\Full rc ws xs/\SI rc xs f/\x ∈ ws ++ xs/\AmV H m a/\Am a/\Bt 210 a.1/\Bt 210 a.2/\f x=sz/\Ceil c sz (fun _=>True)/\∀ H',Same H H'->Q (.bl true) H'
theorem TT.len {H:Hp}{rc:List (Str × List Rw)}{ws xs:List Str}{f:Str->Int}(si:SI rc xs f)(all : ∀ p ∈ rc,p.1 ∈ xs) : ∀ {n:Nat} {v:V} {x:Str} {a:BQ.Q} {lv:List (Str × Int × Int)},TT H rc ws n v x a lv->(lv.length:Int)<=f x
 | 0,_,_,_,_,h=>h.elim
 | n+1,v,x,a,lv,h=>by
  obtain ⟨am,b1,b2,h⟩:=h
  rcases h with ⟨xw,z,m,e,h1,h2,rfl⟩ | ⟨xn,z,m,q,p,ps,l,zs,lvs,hp,rfl,hrs,e,h1,h2,h3,l1,l2,h4,rfl⟩
  ·have:=si.ge x
   show ((1:Nat):Int)<=_
   omega
  ·rw [si.rc p hp (all p hp) ps l hrs]
   have key : ∀ (lvs:List (List (Str × Int × Int))) (ps:List Pu),lvs.length=ps.length->(∀ (i:Nat) s lvi,ps[i]?=some s->lvs[i]?=some lvi->(lvi.length:Int)<=f s.2.1)->(lvs.flatten.length:Int)<=(ps.map fun s=>f s.2.1).sum:=by
    intro lvs
    induction lvs with
    | nil =>
     intro ps hl _
     cases ps with
     | nil=>simp
     | cons _ _=>simp at hl
    | cons lv lvs ih =>
     intro ps hl k
     cases ps with
     | nil=>simp at hl
     | cons s ps =>
      have h1:=ih ps (by simpa using hl) fun i s lvi a b=>k (i+1) s lvi (by simpa using a) (by simpa using b)
      have h2:=k 0 s lv rfl rfl
      rw [List.flatten_cons,List.length_append,List.map_cons,List.sum_cons]
      omega
   have:=key lvs ps l2 fun i s lvi hs hl=>by
    have il:=(List.getElem?_eq_some_iff.mp hs).1
    obtain ⟨c,hc⟩ : ∃ c,zs[i]?=some c:=⟨_,List.getElem?_eq_getElem (by omega)⟩
    exact TT.len si all (h4 i c s lvi hc hs hl)
   omega
section
variable {P:Program}{w:World}{K:PySem.W.Frag}{mg:Str->Option Value}{base:Heap}{c8:Addr}
theorem fX:FnScope ["_law_book_here","_law_thing","_law_asked_here","_law_ceiling","_law_size","_law_found","_law_bound","_law_told","_law_due","_law_listed_leaves"] ["_law_book_here","_law_thing","_law_asked_here","_law_ceiling","_law_size"] (aG sRight):=⟨rfl,rfl,rfl,by decide +kernel,rfl,by decide +kernel,by decide +kernel⟩
theorem xX {f:Addr}{fd:FuncData}(F:Fun K "_law_right" "_law_right" sRight f fd)(T:Txt mg)(cZ:Cal P w K mg base CX0 16 "size_of" ["book","thing"] (iC K))(cW:Cal P w K mg base CX0 16 "_law_whole" ["_law_found"] jM)(cR:Cal P w K mg base CX0 16 "_law_refused" ["_law_book_here","_law_thing","_law_asked_here","_law_ceiling","_law_size"] iE)
  (cT1:Cal1 P w K mg base (CXg P w) 16 "tree" ["book","thing","asked","most"] (gQ c8) (.int 300)) (cTK:CalK P w K mg base (CXg P w) 16 "tree" ["book","thing","asked","most"] ["most"] zD (gQ c8)) (cV:Cal P w K mg base CX0 16 "_law_walked" ["_law_book_here","_law_found","_law_thing","_law_asked_here"] (gH 7)) (cL:Cal P w K mg base CX0 16 "leaves" ["one"] (gJ 7)):FnOk P w K mg base CX0 17 f fd ["_law_book_here","_law_thing","_law_asked_here","_law_ceiling","_law_size"] oM:=by
 refine F.ok fX (fun vs H Q E h => ?_) (fun cdv A outer s H vs Q E hr h => ?_)
 ·obtain ⟨_,_,_,_,_,_,_,_,_,_,_,_,_,rfl,_⟩:=h
  rfl
 ·obtain ⟨b,m,x,ws,rs,t,us,rc,a,xs,ff,c,sz,rfl,bw,bks,full,si,hx,hm,am,b1,b2,ef,hc,k⟩:=h
  refine ⟨_,(aD (aI (i:=5) fX.nd rfl (Or.inl rfl) (aH cZ hr rfl aQ (aA (pv 0) (aA (pv 1) aC))))
   (aD (bF (PW.pt (fW (fS (eO (aH cW hr rfl aQ (aA (pv 5) aC)))) (eU (aK gD (pv 5) (pv 4) (aT _)))))
    (aE (aO jV))
    aU)
   (aD (aI (i:=6) fX.nd rfl (Or.inl rfl) aF)
   (aD (bF (aK pG (pv 3) dS (aT _))
    (aE (aI (i:=6) fX.nd rfl (Or.inl rfl) (pv 3)))
    aU)
   (aD (bF (aK pH (pv 4) (pv 6) (aT _))
    (aE (aO (aH cR hr rfl aQ (aA (pv 0) (aA (pv 1) (aA (pv 2) (aA (pv 3) (aA (pv 4) aC))))))))
    aU)
   (aD (bF (aK pH (pv 4) aF (aT _))
    (aE (aO (aGc (fK pG (pv 3) dS (aT _)) (mW (fK (aB5 hr.units) (fH zY (pF cT1 hr rfl xQ (aA (pv 0) (aA (pv 1) (aA (aY (aA aF (aA aF aC))) aC)))) iN (gA aF)) (aY (aA bX (aA (pv 1) (aA (aY (aA aF (aA aF aC))) aC)))) (aT _))))))
    aU)
   (aD (bF (aK mZ (pv 3) dS (aT _))
    (aE (aI (i:=7) fX.nd rfl (Or.inl rfl) (pF cT1 hr rfl xQ (aA (pv 0) (aA (pv 1) (aA (pv 2) aC))))))
    (aE (aI (i:=7) fX.nd rfl (Or.inl rfl) (aB0 cTK hr rfl xQ (aA (pv 0) (aA (pv 1) (aA (pv 2) aC))) (aBu (pv 3) aEl)))))
   (aD (aI (i:=8) fX.nd rfl (Or.inl rfl) (aH cV hr rfl aQ (aA (pv 0) (aA (pv 7) (aA (pv 1) (aA (pv 2) aC))))))
   (aD (bF (aK mZ (pv 8) dS (aT _))
    (aE (aO jV))
    aU)
   (aD (aI (i:=9) fX.nd rfl (Or.inl rfl) (aH cL hr rfl aQ (aA (pv 7) aC)))
   (aE (aO (uK (aS fQ rfl T.isi boot_isinstance (aA (pv 9) (aA (gB (v:=.ty "list") rfl T.list' iT rfl) aC))) (mW (fK (aB6 hr.units) (pv 9) (pv 8) (aT _)))))))))))))))),?_⟩
  obtain ⟨cf,T',S,hcf,T1,bT,eS,bS,nd⟩:=kZ bks full hx am b1 b2
  refine ⟨_,rfl,_,rfl,b,x,ws,rs,t,us,rc,rfl,bw,bks,fun f2 xs2 H1 s1 full2 si2 => ?_⟩
  have e2:f2 x=sz:=(SI.uniq bks si2 si full2 full x).trans ef
  rw [e2]
  refine ⟨_,rfl,sz,rfl,_,rfl,iteF ⟨_,rfl,_,rfl,rfl,_,rfl,ite2 (fun h=>absurd h (by simp)) (fun _ => ?_)⟩⟩
  rcases hc with ⟨rfl,_⟩ | ⟨mo,rfl,_⟩
  ·refine ⟨_,rfl,rfl,_,rfl,iteF ?_⟩
   refine ⟨_,rfl,_,rfl,_,_,rfl,rfl,_,rfl,ite2 (fun h => ?_) (fun h => ?_)⟩
   ·have lt:300 < sz:=of_decide_eq_true h
    exact ⟨_,rfl,_,rfl,_,rfl,_,rfl,_,rfl,b,m,x,ws,rs,t,us,rc,a,xs,ff,.non,sz,rfl,bw.keep s1.tk,bks,full,si,hx,s1 _ _ hm,am,b1,b2,ef,.inl ⟨rfl,lt⟩,fun H2 s2=>k H2 (s1.trans s2)⟩
   have le3:ff x<=300:=by
    have : ¬ sz > 300:=fun z=>h (decide_eq_true z)
    omega
   refine ⟨_,rfl,_,_,rfl,rfl,_,rfl,ite2 (fun h60 => ?_) (fun h60 => ?_)⟩
   ·have g60:60 < sz:=of_decide_eq_true h60
    have xn:x ∉ ws:=fun hw=>by
     have nx:x ∉ xs:=fun w=>by
      obtain ⟨p,hp,e⟩:=List.mem_map.mp (full.sub _ w)
      have:x ∈ rs:=by rw [<- bks.rw.nm,<- e]; exact List.mem_map_of_mem hp
      exact (List.nodup_append.mp bks.nd).2.2 _ hw _ this rfl
     have:=si.one x nx
     omega
    refine ⟨_,rfl,rfl,_,rfl,iteF ?_⟩
    refine ⟨_,rfl,_,rfl,(by show 2<=sizeLine; decide),fun o no => ?_⟩
    have so:=Same.upd (o:=.tup [.int 3,.int 7]) no
    have am37:Am (3,7):=⟨by decide,by decide,by decide⟩
    have b37:Bt 210 ((3,7):BQ.Q).1/\Bt 210 ((3,7):BQ.Q).2:=⟨(bP 4 (c:=16) (by decide) (by decide):Bt 4 (3:Int)).mono (by decide),(bP 4 (c:=16) (by decide) (by decide):Bt 4 (7:Int)).mono (by decide)⟩
    obtain ⟨cf',U,S',hcf',U1,bU,eS',bS',nd'⟩:=kZ bks full hx am37 b37.1 b37.2
    refine ⟨b,o,x,ws,rs,t,us,rc,(3,7),xs,cf',ff,U,S',300,vl (3,7),rfl,bw.keep (s1.trans so).tk,bks,full,hcf',si,U1,bU,eS',bS',aB,am37,Rat.le_refl,nd',(fun _ z lv H2 s2 tt => ?_),(fun lt=>absurd lt (by omega))⟩
    obtain ⟨_,_,_,tt⟩:=tt
    rcases tt with ⟨xw,_⟩ | ⟨_,z',m',q,p,ps,l,zs,lvs,hp,rfl,hrs,e,hz,hm',hq,l1,l2,hg,rfl⟩
    ·exact absurd xw xn
    cases e
    refine ⟨_,rfl,z,_,rfl,SqT.of hz,(by show ¬ (HT.sIx 4 0 none=0/\HT.sIx 4 4 (some 3)=4); decide),fun p3 np3 => ?_⟩
    have sp3:=Same.upd (o:=.tup (cutV [.str "recipe",.str p.1,.ref m',.ref q] none (some 3))) np3
    refine ⟨_,rfl,(by show 2<=sizeLine; decide),fun o4 no4 => ?_⟩
    have so4:=Same.upd (o:=.tup [.int 3,.int 7]) no4
    refine ⟨(by show 3<=sizeLine; decide),fun o5 no5 => ?_⟩
    have so5:=Same.upd (o:=.tup [.str "recipe",.str p.1,.ref o4]) no5
    have s45:=so4.trans so5
    have h3:upd (upd (upd H2 p3 (.tup (cutV [.str "recipe",.str p.1,.ref m',.ref q] none (some 3)))) o4 (.tup [.int 3,.int 7])) o5 (.tup [.str "recipe",.str p.1,.ref o4]) p3=some (.tup [.str "recipe",.str p.1,.ref m']):=s45 _ _ aB
    exact ⟨p3,o5,_,_,[.s "recipe",.s p.1,.t [.i 3,.i 7]],rfl,rfl,SqT.of h3,SqT.of aB,.cons .s (.cons .s (.cons (Dv.two (a:=(3,7)) ((sp3.trans s45) _ _ hm')) .nil)),.cons .s (.cons .s (.cons (Dv.two (a:=(3,7)) (so5 _ _ aB)) .nil)),k _ ((((s1.trans so).trans s2).trans sp3).trans s45)⟩
   ·refine ⟨_,rfl,rfl,_,rfl,iteT ?_⟩
    refine ⟨_,rfl,_,rfl,_,rfl,b,m,x,ws,rs,t,us,rc,a,xs,cf,ff,T',S,300,vl a,rfl,bw.keep s1.tk,bks,full,hcf,si,T1,bT,eS,bS,s1 _ _ hm,am,Rat.le_refl,nd,(fun _ z lv H2 s2 tt => ?_),(fun lt=>absurd lt (by omega))⟩
    have tl:=tt.len si full.all
    have s02:=s1.trans s2
    refine ⟨_,rfl,_,rfl,_,rfl,_,rfl,b,m,.ref z,x,ws,rs,t,us,rc,a,lv,rfl,bw.keep s02.tk,bks,tt,s02 _ _ hm,by omega,fun L us' H3 s3 nL hL pr => ?_⟩
    refine ⟨_,rfl,rfl,_,rfl,iteF ⟨_,rfl,.ref z,rc,ws,x,a,lv,rfl,tt.keep s3.tk,by omega,fun L2' us2 H4 s4 nL2 hL2 pr2 => ?_⟩⟩
    exact ⟨_,rfl,.ref L2',"list",true,rfl,.lst_list (SqL.of hL2),_,rfl,iteT ⟨_,rfl,_,rfl,L2',L,_,_,_,rfl,rfl,SqL.of hL2,SqL.of (s4 _ _ hL),pr2.dl,(pr.keep s4.tk).dl,k _ ((s02.trans s3).trans s4)⟩⟩
  ·refine ⟨_,rfl,rfl,_,rfl,iteT ⟨_,rfl,?_⟩⟩
   refine ⟨_,rfl,_,rfl,_,_,rfl,rfl,_,rfl,ite2 (fun h => ?_) (fun h => ?_)⟩
   ·have lt:mo < sz:=of_decide_eq_true h
    exact ⟨_,rfl,_,rfl,_,rfl,_,rfl,_,rfl,b,m,x,ws,rs,t,us,rc,a,xs,ff,.int mo,sz,rfl,bw.keep s1.tk,bks,full,si,hx,s1 _ _ hm,am,b1,b2,ef,.inr ⟨mo,rfl,lt⟩,fun H2 s2=>k H2 (s1.trans s2)⟩
   have lem:ff x<=mo:=by
    have : ¬ sz > mo:=fun z=>h (decide_eq_true z)
    omega
   refine ⟨_,rfl,_,_,rfl,rfl,_,rfl,ite2 (fun h60 => ?_) (fun h60 => ?_)⟩
   ·exact ⟨_,rfl,rfl,_,rfl,iteT (k _ s1)⟩
   ·have l60:ff x<=60:=by
     have : ¬ sz > 60:=fun z=>h60 (decide_eq_true z)
     omega
    refine ⟨_,rfl,rfl,_,rfl,iteF ?_⟩
    refine ⟨_,rfl,_,rfl,_,rfl,_,rfl,b,m,x,ws,rs,t,us,rc,a,xs,cf,ff,T',S,mo,vl a,rfl,bw.keep s1.tk,bks,full,hcf,si,T1,bT,eS,bS,s1 _ _ hm,am,Rat.le_refl,nd,(fun _ z lv H2 s2 tt => ?_),(fun lt=>absurd lt (by omega))⟩
    have tl:=tt.len si full.all
    have s02:=s1.trans s2
    refine ⟨_,rfl,_,rfl,_,rfl,_,rfl,b,m,.ref z,x,ws,rs,t,us,rc,a,lv,rfl,bw.keep s02.tk,bks,tt,s02 _ _ hm,by omega,fun L us' H3 s3 nL hL pr => ?_⟩
    refine ⟨_,rfl,rfl,_,rfl,iteF ⟨_,rfl,.ref z,rc,ws,x,a,lv,rfl,tt.keep s3.tk,by omega,fun L2' us2 H4 s4 nL2 hL2 pr2 => ?_⟩⟩
    exact ⟨_,rfl,.ref L2',"list",true,rfl,.lst_list (SqL.of hL2),_,rfl,iteT ⟨_,rfl,_,rfl,L2',L,_,_,_,rfl,rfl,SqL.of hL2,SqL.of (s4 _ _ hL),pr2.dl,(pr.keep s4.tk).dl,k _ ((s02.trans s3).trans s4)⟩⟩
end
end K25
namespace SX
open PySem PySem.Spec PyProof.Rows
def itO (f:Value)(i:Int)(n ep:Nat)(a:Addr):Obj:={ cls:=.type "set_iterator",dict:=none,data:=.fields #[f,.int i 0,.ref a,.int n 0,.int ep 0],slots := #[] }
section
variable {P:Program}{w:World}{A:Around}{E:Value->Shared->Prop}{s:Shared}
end
abbrev IP (ord:List Value)(i:Nat)(v:Value):Prop:=ord[i]?=some v
section
variable {P:Program}{w:World}{A:Around}{E:Value->Shared->Prop}{s:Shared}{a I:Addr}{es:Array (Int × Value)}{ep:Nat}{t:SetTable}
end
section
variable {P:Program}{w:World}{A:Around}{E:Value->Shared->Prop}{s:Shared}{a I:Addr}{es:Array (Int × Value)}{ep:Nat}{t:SetTable}
end
section
variable {P:Program}{w:World}{A:Around}{E:Value->Shared->Prop}{s:Shared}{a:Addr}{ks:List Str}
end
end SX
namespace L2
open PySem PySem.Spec PyProof.Rows
abbrev SetT (X:Cx)(a:Addr)(ks:List Str):HO:=.ext fun h=>SX.SetS X.prog X.w h a ks
section
variable {X:Cx}
def rSetS (X:Cx):List V->Hp->VK->Prop:=fun xs H Q=>∃ a,∃ ss:List Str,xs=[.ref a]/\SqL X.K H a (ss.map V.str)/\ss.length < 1000/\∀ p,H p=none->Q (.ref p) (upd H p (SetT X p (SX.ddl ss)))
def rSortSet (X:Cx):List V->Hp->VK->Prop:=fun xs H Q=>∃ a,∃ ks:List Str,xs=[.ref a]/\H a=some (SetT X a ks)/\ks.length < 64/\∀ (p:Addr) (ss':List Str),ss'.Perm ks->sortedS ss'=true->H p=none->Q (.ref p) (upd H p (.lst (ss'.map V.str)))
end
structure PSX (X:Cx)(st:Stmt)(t:TS):Prop where
 h:PS X st t
structure PSB (X:Cx)(l:List Stmt)(t:TS):Prop where
 h:PSs X l t
theorem jG {X:Cx}{st:Stmt}{t u:TS}{rest:List Stmt}(h1:PSX X st t)(h2:PSB X rest u):PSB X (st :: rest) (tSeq t u):=⟨aD h1.h h2.h⟩
end L2
namespace HT
open PySem PySem.Spec PyProof.Rows
section
variable {prog:Program}{w:World}{A:Around}{E:Value->Shared->Prop}{s:Shared}
end
end HT
namespace L2
open PySem PySem.Spec PyProof.Rows
section
variable {X:Cx}
def rRepTA (K:PySem.W.Frag):R2:=fun x y H Q=>∃ a k xs,x = .ref a/\y = .int k/\SqT K H a xs/\xs ≠ []/\1<=k/\k<=1000/\xs.length<=1000/\(k=1->Q (.ref a) H)/\(2<=k->∀ p,H p=none->Q (.ref p) (upd H p (.tup (List.replicate k.toNat xs).flatten)))
def aAc (K:PySem.W.Frag):R2:=fun x y H Q=>∃ a b xs ys,x = .ref a/\y = .ref b/\SqT K H a xs/\H b=some (.tup ys)/\ys ≠ []/\xs.length+ys.length<=sizeLine/\∀ p H',Same H H'->H' p=some (.tup (xs ++ ys))->Q (.ref p) H'
theorem xR:OpR X (binaryOp .Add) (aAc X.K):=by
 intro pins s σ H x y v u Q I rx ry h
 obtain ⟨a,b,xs,ys,rfl,rfl,ha,hb,hy,hz,q⟩:=h
 refine xS pins s σ H _ _ v u Q I rx ry ?_
 by_cases e:xs=[]
 ·subst e
  exact .inl ⟨a,b,ys,rfl,rfl,ha,SqT.of hb,q b H (Same.refl _) (by rw [List.nil_append]; exact hb)⟩
 ·exact .inr ⟨a,b,xs,ys,rfl,rfl,ha,SqT.of hb,e,hz,fun z=>absurd z hy,fun _ p hp=>q p _ (Same.upd hp) aB⟩
end
structure PEX (X:Cx)(e:Expr)(t:TE):Prop where
 h:PE X e t
structure PAX (X:Cx)(es:List Expr)(t:TA):Prop where
 h:PA X es t
section
variable {X:Cx}
theorem fV {i j pos}:PEX X (.Constant (.int i) j pos) (tC (.int i)):=⟨aF⟩
theorem jK {x j pos}:PEX X (.Constant (.str x) j pos) (tC (.str x)):=⟨bX⟩
theorem x_v (i:Nat){x:Str}{pos:Pos}(hN:X.N[i]?=some x:=by rfl)(hv:Vis X.env.scope x:=by first | exact Or.inl rfl | exact Or.inr (Or.inl rfl) | exact Or.inr (Or.inr rfl))(hd:(x == ("__debug__" : Str))=false:=by decide)
  (hcd:(x == ("__classdict__" : Str))=false:=by decide):PEX X (.Name x pos) (tVar i):=⟨qI hN hv hd hcd⟩
theorem dX:PAX X [] tNil:=⟨aC⟩
theorem aZ {e:Expr}{es:List Expr}{te:TE}{t:TA}(ha:PEX X e te)(hr:PAX X es t)(hs:starEach (e :: es) X.env=(false,eval e X.env) :: starEach es X.env:=by rfl):PAX X (e :: es) (aA9 te t):=⟨aA ha.h hr.h hs⟩
theorem dW {es:List Expr}{t:TA}{x1}{pos:Pos}(h:PAX X es t):PEX X (.Tuple es x1 pos) (tTup t):=⟨aY h.h⟩
theorem oI {a b:Expr}{ta tb:TE}{pos:Pos}(ha:PEX X a ta)(hb:PEX X b tb):PEX X (.BinOp a .Mult b pos) (tOp (aEc X.K) ta tb):=⟨aV aB3 ha.h hb.h⟩
theorem aAz {a b:Expr}{ta tb:TE}{pos:Pos}(ha:PEX X a ta)(hb:PEX X b tb):PEX X (.BinOp a .Add b pos) (tOp (aAc X.K) ta tb):=⟨aV xR ha.h hb.h⟩
theorem jF {i:Nat}{x:Str}{e:Expr}{te:TE}{pos pos':Pos}(hN:X.N.Nodup)(hi:X.N[i]?=some x)(hx:Loc X.env.scope x)(he:PEX X e te)(hs:swapsWith e (some (.Name x pos')) pos.line X.env=pure false:=by rfl)(hf:X.fn x=true\/X.env.scope.names.lookup x=some .local:=by first | exact .inl rfl | exact .inr rfl | assumption) :
  PSX X (.Assign [.Name x pos'] e pos) (tAsg te (dA i)):=⟨aI hN hi hx he.h hs hf⟩
theorem xH {e:Expr}{te:TE}{pos:Pos}(he:PEX X e te):PSX X (.Return (some e) pos) (tRet te):=⟨aO he.h⟩
theorem aBr {st:Stmt}{t:TS}(h:PSX X st t):PSB X [st] t:=⟨aE h.h⟩
end
end L2
namespace K25
open PySem PySem.Spec PyProof.Rows L2 GM TM BQ TR
def pA (n:Nat):Rw:=.parts (1,1) (List.replicate n (1,"a"))
def pR:Rw:=.parts (1,1) (List.replicate 4 (1,"r"))
def gr:Str × List Rw:=("r",List.replicate 5 (pA 4) ++ [pA 3])
def gs (n:Nat):Str × List Rw:=("s",List.replicate 3 pR ++ List.replicate 2 (pA 4) ++ [pA n])
theorem qC {α:Type}{a:α} : ∀ n:Nat,(List.replicate n [a]).flatten=List.replicate n a
 | 0=>rfl
 | n+1=>by rw [List.replicate_succ,List.flatten_cons,qC n]; rfl
theorem qN {α:Type}{R:V->α->Prop}{u:V}{p:α}(n:Nat)(r:R u p):L2R R (List.replicate n [u]).flatten (List.replicate n p):=by
 rw [qC]
 refine L2R.of (by simp) fun i q v hq hv => ?_
 have e1:=List.eq_of_mem_replicate (List.mem_of_getElem? hq)
 have e2:=List.eq_of_mem_replicate (List.mem_of_getElem? hv)
 subst e1 e2
 exact r
theorem yR {H:Hp}{f m r z:Addr}{k:Nat}{y:Str}(hf:H f=some (.tup [.str "parts",.ref m,.ref r]))(hm:H m=some (.tup [.int 1,.int 1]))(hr:H r=some (.tup (List.replicate k [V.ref z]).flatten))(hz:H z=some (.tup [.int 1,.str y])):RowV H (.ref f) (.parts (1,1) (List.replicate k (1,y))) :=
 .parts hf (show AmV H m (1,1) from hm) hr (qN (R:=PrV H) (p:=((1:Int),y)) k ⟨z,rfl,hz⟩)
theorem bE {H H':Hp}{v:V}{p:Str × List Rw}(k:Tk H H')(h:RecV H v p):RecV H' v p:=by
 obtain ⟨z,q,vs,e,h1,h2,h3⟩:=h
 exact ⟨z,q,vs,e,k _ _ h1,k _ _ h2,h3.imp fun _ _ x=>RowV.keep k x⟩
def oV:Sp:=fun vs H Q _=>∃ n:Int,vs=[.int n]/\3<=n/\n<=4/\∀ b us H',Same H H'->BwV H' b ["a"] us [gr,gs n.toNat]->Q (.ref b) H'
section
variable {P:Program}{w:World}{K:PySem.W.Frag}{mg:Str->Option Value}{base:Heap}
theorem jQ:FnScope ["_law_last","_law_four","_law_lower_here","_law_upper","_law_end"] ["_law_last"] (aG sGreat):=⟨rfl,rfl,rfl,by decide +kernel,rfl,by decide +kernel,by decide +kernel⟩
theorem yI {f:Addr}{fd:FuncData}(F:Fun K "_law_great" "_law_great" sGreat f fd):FnOk P w K mg base CX0 1 f fd ["_law_last"] oV:=by
 refine F.ok jQ (fun vs H Q E h => ?_) (fun cdv A outer s H vs Q E hr h => ?_)
 ·obtain ⟨_,rfl,_⟩:=h
  rfl
 ·obtain ⟨n,rfl,n3,n4,k⟩:=h
  refine ⟨_,PSB.h (jG (jF (i:=1) jQ.nd rfl (Or.inl rfl) (dW (aZ jK (aZ (dW (aZ fV (aZ fV dX))) (aZ (oI (dW (aZ (dW (aZ fV (aZ jK dX))) dX)) fV) dX)))))
   (jG (jF (i:=2) jQ.nd rfl (Or.inl rfl) (dW (aZ jK (aZ (aAz (oI (dW (aZ (x_v 1) dX)) fV) (dW (aZ (dW (aZ jK (aZ (dW (aZ fV (aZ fV dX))) (aZ (oI (dW (aZ (dW (aZ fV (aZ jK dX))) dX)) fV) dX)))) dX))) dX))))
   (jG (jF (i:=3) jQ.nd rfl (Or.inl rfl) (dW (aZ jK (aZ (dW (aZ fV (aZ fV dX))) (aZ (oI (dW (aZ (dW (aZ fV (aZ jK dX))) dX)) fV) dX)))))
   (jG (jF (i:=4) jQ.nd rfl (Or.inl rfl) (dW (aZ jK (aZ (dW (aZ fV (aZ fV dX))) (aZ (oI (dW (aZ (dW (aZ fV (aZ jK dX))) dX)) (x_v 0)) dX)))))
   (aBr (xH (dW (aZ (dW (aZ jK dX)) (aZ (dW dX) (aZ (dW (aZ (x_v 2) (aZ (dW (aZ jK (aZ (aAz (aAz (oI (dW (aZ (x_v 3) dX)) fV) (oI (dW (aZ (x_v 1) dX)) fV)) (dW (aZ (x_v 4) dX))) dX))) dX))) dX)))))))))),?_⟩
  have S0:Same H H:=Same.refl _
  refine ⟨(by show 2<=sizeLine; decide),fun mA nmA => ?_⟩
  have s1:=Same.upd (o:=.tup [.int 1,.int 1]) nmA
  have hmA:upd H mA (.tup [.int 1,.int 1]) mA=some (.tup [.int 1,.int 1]):=aB
  generalize upd H mA (.tup [.int 1,.int 1])=G1 at s1 hmA ⊢
  replace S0:=S0.trans s1
  refine ⟨(by show 2<=sizeLine; decide),fun zA nzA => ?_⟩
  have s2:=Same.upd (o:=.tup [.int 1,.str "a"]) nzA
  have hzA:upd G1 zA (.tup [.int 1,.str "a"]) zA=some (.tup [.int 1,.str "a"]):=aB
  generalize upd G1 zA (.tup [.int 1,.str "a"])=G2 at s2 hzA ⊢
  replace hmA:=s2 _ _ hmA
  replace S0:=S0.trans s2
  refine ⟨(by show 1<=sizeLine; decide),fun wA nwA => ?_⟩
  have s3:=Same.upd (o:=.tup [.ref zA]) nwA
  have hwA:upd G2 wA (.tup [.ref zA]) wA=some (.tup [.ref zA]):=aB
  generalize upd G2 wA (.tup [.ref zA])=G3 at s3 hwA ⊢
  replace hmA:=s3 _ _ hmA
  replace hzA:=s3 _ _ hzA
  replace S0:=S0.trans s3
  refine ⟨wA,4,[.ref zA],rfl,rfl,SqT.of hwA,by simp,by decide,by decide,(by show 1<=1000; decide),fun rA nrA => ?_⟩
  have s4:=Same.upd (o:=.tup (List.replicate (4:Int).toNat [V.ref zA]).flatten) nrA
  have hrA:upd G3 rA (.tup (List.replicate (4:Int).toNat [V.ref zA]).flatten) rA=some (.tup (List.replicate (4:Int).toNat [V.ref zA]).flatten):=aB
  generalize upd G3 rA (.tup (List.replicate (4:Int).toNat [V.ref zA]).flatten)=G4 at s4 hrA ⊢
  replace hmA:=s4 _ _ hmA
  replace hzA:=s4 _ _ hzA
  replace hwA:=s4 _ _ hwA
  replace S0:=S0.trans s4
  refine ⟨(by show 3<=sizeLine; decide),fun fA nfA => ?_⟩
  have s5:=Same.upd (o:=.tup [.str "parts",.ref mA,.ref rA]) nfA
  have hfA:upd G4 fA (.tup [.str "parts",.ref mA,.ref rA]) fA=some (.tup [.str "parts",.ref mA,.ref rA]):=aB
  generalize upd G4 fA (.tup [.str "parts",.ref mA,.ref rA])=G5 at s5 hfA ⊢
  replace hmA:=s5 _ _ hmA
  replace hzA:=s5 _ _ hzA
  replace hwA:=s5 _ _ hwA
  replace hrA:=s5 _ _ hrA
  replace S0:=S0.trans s5
  have RA:=yR hfA hmA hrA hzA
  refine ⟨_,rfl,?_⟩
  refine ⟨(by show 1<=sizeLine; decide),fun x1 nx1 => ?_⟩
  have s6:=Same.upd (o:=.tup [.ref fA]) nx1
  have hx1:upd G5 x1 (.tup [.ref fA]) x1=some (.tup [.ref fA]):=aB
  generalize upd G5 x1 (.tup [.ref fA])=G6 at s6 hx1 ⊢
  replace RA:=RowV.keep s6.tk RA
  replace S0:=S0.trans s6
  refine ⟨x1,5,[.ref fA],rfl,rfl,SqT.of hx1,by simp,by decide,by decide,(by show 1<=1000; decide),fun x2 nx2 => ?_⟩
  have s7:=Same.upd (o:=.tup (List.replicate (5:Int).toNat [V.ref fA]).flatten) nx2
  have hx2:upd G6 x2 (.tup (List.replicate (5:Int).toNat [V.ref fA]).flatten) x2=some (.tup (List.replicate (5:Int).toNat [V.ref fA]).flatten):=aB
  generalize upd G6 x2 (.tup (List.replicate (5:Int).toNat [V.ref fA]).flatten)=G7 at s7 hx2 ⊢
  replace RA:=RowV.keep s7.tk RA
  replace hx1:=s7 _ _ hx1
  replace S0:=S0.trans s7
  refine ⟨(by show 2<=sizeLine; decide),fun mB nmB => ?_⟩
  have s8:=Same.upd (o:=.tup [.int 1,.int 1]) nmB
  have hmB:upd G7 mB (.tup [.int 1,.int 1]) mB=some (.tup [.int 1,.int 1]):=aB
  generalize upd G7 mB (.tup [.int 1,.int 1])=G8 at s8 hmB ⊢
  replace RA:=RowV.keep s8.tk RA
  replace hx1:=s8 _ _ hx1
  replace hx2:=s8 _ _ hx2
  replace S0:=S0.trans s8
  refine ⟨(by show 2<=sizeLine; decide),fun zB nzB => ?_⟩
  have s9:=Same.upd (o:=.tup [.int 1,.str "a"]) nzB
  have hzB:upd G8 zB (.tup [.int 1,.str "a"]) zB=some (.tup [.int 1,.str "a"]):=aB
  generalize upd G8 zB (.tup [.int 1,.str "a"])=G9 at s9 hzB ⊢
  replace RA:=RowV.keep s9.tk RA
  replace hx1:=s9 _ _ hx1
  replace hx2:=s9 _ _ hx2
  replace hmB:=s9 _ _ hmB
  replace S0:=S0.trans s9
  refine ⟨(by show 1<=sizeLine; decide),fun wB nwB => ?_⟩
  have s10:=Same.upd (o:=.tup [.ref zB]) nwB
  have hwB:upd G9 wB (.tup [.ref zB]) wB=some (.tup [.ref zB]):=aB
  generalize upd G9 wB (.tup [.ref zB])=G10 at s10 hwB ⊢
  replace RA:=RowV.keep s10.tk RA
  replace hx1:=s10 _ _ hx1
  replace hx2:=s10 _ _ hx2
  replace hmB:=s10 _ _ hmB
  replace hzB:=s10 _ _ hzB
  replace S0:=S0.trans s10
  refine ⟨wB,3,[.ref zB],rfl,rfl,SqT.of hwB,by simp,by decide,by decide,(by show 1<=1000; decide),fun rB nrB => ?_⟩
  have s11:=Same.upd (o:=.tup (List.replicate (3:Int).toNat [V.ref zB]).flatten) nrB
  have hrB:upd G10 rB (.tup (List.replicate (3:Int).toNat [V.ref zB]).flatten) rB=some (.tup (List.replicate (3:Int).toNat [V.ref zB]).flatten):=aB
  generalize upd G10 rB (.tup (List.replicate (3:Int).toNat [V.ref zB]).flatten)=G11 at s11 hrB ⊢
  replace RA:=RowV.keep s11.tk RA
  replace hx1:=s11 _ _ hx1
  replace hx2:=s11 _ _ hx2
  replace hmB:=s11 _ _ hmB
  replace hzB:=s11 _ _ hzB
  replace hwB:=s11 _ _ hwB
  replace S0:=S0.trans s11
  refine ⟨(by show 3<=sizeLine; decide),fun fB nfB => ?_⟩
  have s12:=Same.upd (o:=.tup [.str "parts",.ref mB,.ref rB]) nfB
  have hfB:upd G11 fB (.tup [.str "parts",.ref mB,.ref rB]) fB=some (.tup [.str "parts",.ref mB,.ref rB]):=aB
  generalize upd G11 fB (.tup [.str "parts",.ref mB,.ref rB])=G12 at s12 hfB ⊢
  replace RA:=RowV.keep s12.tk RA
  replace hx1:=s12 _ _ hx1
  replace hx2:=s12 _ _ hx2
  replace hmB:=s12 _ _ hmB
  replace hzB:=s12 _ _ hzB
  replace hwB:=s12 _ _ hwB
  replace hrB:=s12 _ _ hrB
  replace S0:=S0.trans s12
  have RB:=yR hfB hmB hrB hzB
  refine ⟨(by show 1<=sizeLine; decide),fun x3 nx3 => ?_⟩
  have s13:=Same.upd (o:=.tup [.ref fB]) nx3
  have hx3:upd G12 x3 (.tup [.ref fB]) x3=some (.tup [.ref fB]):=aB
  generalize upd G12 x3 (.tup [.ref fB])=G13 at s13 hx3 ⊢
  replace RA:=RowV.keep s13.tk RA
  replace hx1:=s13 _ _ hx1
  replace hx2:=s13 _ _ hx2
  replace RB:=RowV.keep s13.tk RB
  replace S0:=S0.trans s13
  refine ⟨x2,x3,_,_,rfl,rfl,SqT.of hx2,hx3,by simp,(by show 6<=sizeLine; decide),fun x4 G14 s14 hx4 => ?_⟩
  replace RA:=RowV.keep s14.tk RA
  replace hx1:=s14 _ _ hx1
  replace hx2:=s14 _ _ hx2
  replace RB:=RowV.keep s14.tk RB
  replace hx3:=s14 _ _ hx3
  replace S0:=S0.trans s14
  refine ⟨(by show 2<=sizeLine; decide),fun x5 nx5 => ?_⟩
  have s15:=Same.upd (o:=.tup [.str "r",.ref x4]) nx5
  have hx5:upd G14 x5 (.tup [.str "r",.ref x4]) x5=some (.tup [.str "r",.ref x4]):=aB
  generalize upd G14 x5 (.tup [.str "r",.ref x4])=G15 at s15 hx5 ⊢
  replace RA:=RowV.keep s15.tk RA
  replace hx1:=s15 _ _ hx1
  replace hx2:=s15 _ _ hx2
  replace RB:=RowV.keep s15.tk RB
  replace hx3:=s15 _ _ hx3
  replace hx4:=s15 _ _ hx4
  replace S0:=S0.trans s15
  have CL:RecV G15 (.ref x5) gr:=⟨x5,x4,_,rfl,hx5,hx4,L2R.append (qN 5 RA) (L2R.one RB)⟩
  refine ⟨(by show 2<=sizeLine; decide),fun mC nmC => ?_⟩
  have s16:=Same.upd (o:=.tup [.int 1,.int 1]) nmC
  have hmC:upd G15 mC (.tup [.int 1,.int 1]) mC=some (.tup [.int 1,.int 1]):=aB
  generalize upd G15 mC (.tup [.int 1,.int 1])=G16 at s16 hmC ⊢
  replace RA:=RowV.keep s16.tk RA
  replace CL:=bE s16.tk CL
  replace S0:=S0.trans s16
  refine ⟨(by show 2<=sizeLine; decide),fun zC nzC => ?_⟩
  have s17:=Same.upd (o:=.tup [.int 1,.str "r"]) nzC
  have hzC:upd G16 zC (.tup [.int 1,.str "r"]) zC=some (.tup [.int 1,.str "r"]):=aB
  generalize upd G16 zC (.tup [.int 1,.str "r"])=G17 at s17 hzC ⊢
  replace RA:=RowV.keep s17.tk RA
  replace CL:=bE s17.tk CL
  replace hmC:=s17 _ _ hmC
  replace S0:=S0.trans s17
  refine ⟨(by show 1<=sizeLine; decide),fun wC nwC => ?_⟩
  have s18:=Same.upd (o:=.tup [.ref zC]) nwC
  have hwC:upd G17 wC (.tup [.ref zC]) wC=some (.tup [.ref zC]):=aB
  generalize upd G17 wC (.tup [.ref zC])=G18 at s18 hwC ⊢
  replace RA:=RowV.keep s18.tk RA
  replace CL:=bE s18.tk CL
  replace hmC:=s18 _ _ hmC
  replace hzC:=s18 _ _ hzC
  replace S0:=S0.trans s18
  refine ⟨wC,4,[.ref zC],rfl,rfl,SqT.of hwC,by simp,by decide,by decide,(by show 1<=1000; decide),fun rC nrC => ?_⟩
  have s19:=Same.upd (o:=.tup (List.replicate (4:Int).toNat [V.ref zC]).flatten) nrC
  have hrC:upd G18 rC (.tup (List.replicate (4:Int).toNat [V.ref zC]).flatten) rC=some (.tup (List.replicate (4:Int).toNat [V.ref zC]).flatten):=aB
  generalize upd G18 rC (.tup (List.replicate (4:Int).toNat [V.ref zC]).flatten)=G19 at s19 hrC ⊢
  replace RA:=RowV.keep s19.tk RA
  replace CL:=bE s19.tk CL
  replace hmC:=s19 _ _ hmC
  replace hzC:=s19 _ _ hzC
  replace hwC:=s19 _ _ hwC
  replace S0:=S0.trans s19
  refine ⟨(by show 3<=sizeLine; decide),fun fC nfC => ?_⟩
  have s20:=Same.upd (o:=.tup [.str "parts",.ref mC,.ref rC]) nfC
  have hfC:upd G19 fC (.tup [.str "parts",.ref mC,.ref rC]) fC=some (.tup [.str "parts",.ref mC,.ref rC]):=aB
  generalize upd G19 fC (.tup [.str "parts",.ref mC,.ref rC])=G20 at s20 hfC ⊢
  replace RA:=RowV.keep s20.tk RA
  replace CL:=bE s20.tk CL
  replace hmC:=s20 _ _ hmC
  replace hzC:=s20 _ _ hzC
  replace hwC:=s20 _ _ hwC
  replace hrC:=s20 _ _ hrC
  replace S0:=S0.trans s20
  have RC:=yR hfC hmC hrC hzC
  refine ⟨(by show 2<=sizeLine; decide),fun mE nmE => ?_⟩
  have s21:=Same.upd (o:=.tup [.int 1,.int 1]) nmE
  have hmE:upd G20 mE (.tup [.int 1,.int 1]) mE=some (.tup [.int 1,.int 1]):=aB
  generalize upd G20 mE (.tup [.int 1,.int 1])=G21 at s21 hmE ⊢
  replace RA:=RowV.keep s21.tk RA
  replace CL:=bE s21.tk CL
  replace RC:=RowV.keep s21.tk RC
  replace S0:=S0.trans s21
  refine ⟨(by show 2<=sizeLine; decide),fun zE nzE => ?_⟩
  have s22:=Same.upd (o:=.tup [.int 1,.str "a"]) nzE
  have hzE:upd G21 zE (.tup [.int 1,.str "a"]) zE=some (.tup [.int 1,.str "a"]):=aB
  generalize upd G21 zE (.tup [.int 1,.str "a"])=G22 at s22 hzE ⊢
  replace RA:=RowV.keep s22.tk RA
  replace CL:=bE s22.tk CL
  replace RC:=RowV.keep s22.tk RC
  replace hmE:=s22 _ _ hmE
  replace S0:=S0.trans s22
  refine ⟨(by show 1<=sizeLine; decide),fun wE nwE => ?_⟩
  have s23:=Same.upd (o:=.tup [.ref zE]) nwE
  have hwE:upd G22 wE (.tup [.ref zE]) wE=some (.tup [.ref zE]):=aB
  generalize upd G22 wE (.tup [.ref zE])=G23 at s23 hwE ⊢
  replace RA:=RowV.keep s23.tk RA
  replace CL:=bE s23.tk CL
  replace RC:=RowV.keep s23.tk RC
  replace hmE:=s23 _ _ hmE
  replace hzE:=s23 _ _ hzE
  replace S0:=S0.trans s23
  refine ⟨_,rfl,?_⟩
  refine ⟨wE,n,[.ref zE],rfl,rfl,SqT.of hwE,by simp,by omega,by omega,(by show 1<=1000; decide),fun rE nrE => ?_⟩
  have s24:=Same.upd (o:=.tup (List.replicate (n:Int).toNat [V.ref zE]).flatten) nrE
  have hrE:upd G23 rE (.tup (List.replicate (n:Int).toNat [V.ref zE]).flatten) rE=some (.tup (List.replicate (n:Int).toNat [V.ref zE]).flatten):=aB
  generalize upd G23 rE (.tup (List.replicate (n:Int).toNat [V.ref zE]).flatten)=G24 at s24 hrE ⊢
  replace RA:=RowV.keep s24.tk RA
  replace CL:=bE s24.tk CL
  replace RC:=RowV.keep s24.tk RC
  replace hmE:=s24 _ _ hmE
  replace hzE:=s24 _ _ hzE
  replace hwE:=s24 _ _ hwE
  replace S0:=S0.trans s24
  refine ⟨(by show 3<=sizeLine; decide),fun fE nfE => ?_⟩
  have s25:=Same.upd (o:=.tup [.str "parts",.ref mE,.ref rE]) nfE
  have hfE:upd G24 fE (.tup [.str "parts",.ref mE,.ref rE]) fE=some (.tup [.str "parts",.ref mE,.ref rE]):=aB
  generalize upd G24 fE (.tup [.str "parts",.ref mE,.ref rE])=G25 at s25 hfE ⊢
  replace RA:=RowV.keep s25.tk RA
  replace CL:=bE s25.tk CL
  replace RC:=RowV.keep s25.tk RC
  replace hmE:=s25 _ _ hmE
  replace hzE:=s25 _ _ hzE
  replace hwE:=s25 _ _ hwE
  replace hrE:=s25 _ _ hrE
  replace S0:=S0.trans s25
  have RE:=yR hfE hmE hrE hzE
  refine ⟨(by show 1<=sizeLine; decide),fun y1 ny1 => ?_⟩
  have s26:=Same.upd (o:=.tup [.str "a"]) ny1
  have hy1:upd G25 y1 (.tup [.str "a"]) y1=some (.tup [.str "a"]):=aB
  generalize upd G25 y1 (.tup [.str "a"])=G26 at s26 hy1 ⊢
  replace RA:=RowV.keep s26.tk RA
  replace CL:=bE s26.tk CL
  replace RC:=RowV.keep s26.tk RC
  replace RE:=RowV.keep s26.tk RE
  replace S0:=S0.trans s26
  refine ⟨(by show 0<=sizeLine; decide),fun y2 ny2 => ?_⟩
  have s27:=Same.upd (o:=.tup []) ny2
  have hy2:upd G26 y2 (.tup []) y2=some (.tup []):=aB
  generalize upd G26 y2 (.tup [])=G27 at s27 hy2 ⊢
  replace RA:=RowV.keep s27.tk RA
  replace CL:=bE s27.tk CL
  replace RC:=RowV.keep s27.tk RC
  replace RE:=RowV.keep s27.tk RE
  replace hy1:=s27 _ _ hy1
  replace S0:=S0.trans s27
  refine ⟨_,rfl,_,rfl,?_⟩
  refine ⟨(by show 1<=sizeLine; decide),fun y3 ny3 => ?_⟩
  have s28:=Same.upd (o:=.tup [.ref fC]) ny3
  have hy3:upd G27 y3 (.tup [.ref fC]) y3=some (.tup [.ref fC]):=aB
  generalize upd G27 y3 (.tup [.ref fC])=G28 at s28 hy3 ⊢
  replace RA:=RowV.keep s28.tk RA
  replace CL:=bE s28.tk CL
  replace RC:=RowV.keep s28.tk RC
  replace RE:=RowV.keep s28.tk RE
  replace hy1:=s28 _ _ hy1
  replace hy2:=s28 _ _ hy2
  replace S0:=S0.trans s28
  refine ⟨y3,3,[.ref fC],rfl,rfl,SqT.of hy3,by simp,by decide,by decide,(by show 1<=1000; decide),fun y4 ny4 => ?_⟩
  have s29:=Same.upd (o:=.tup (List.replicate (3:Int).toNat [V.ref fC]).flatten) ny4
  have hy4:upd G28 y4 (.tup (List.replicate (3:Int).toNat [V.ref fC]).flatten) y4=some (.tup (List.replicate (3:Int).toNat [V.ref fC]).flatten):=aB
  generalize upd G28 y4 (.tup (List.replicate (3:Int).toNat [V.ref fC]).flatten)=G29 at s29 hy4 ⊢
  replace RA:=RowV.keep s29.tk RA
  replace CL:=bE s29.tk CL
  replace RC:=RowV.keep s29.tk RC
  replace RE:=RowV.keep s29.tk RE
  replace hy1:=s29 _ _ hy1
  replace hy2:=s29 _ _ hy2
  replace hy3:=s29 _ _ hy3
  replace S0:=S0.trans s29
  refine ⟨_,rfl,?_⟩
  refine ⟨(by show 1<=sizeLine; decide),fun y5 ny5 => ?_⟩
  have s30:=Same.upd (o:=.tup [.ref fA]) ny5
  have hy5:upd G29 y5 (.tup [.ref fA]) y5=some (.tup [.ref fA]):=aB
  generalize upd G29 y5 (.tup [.ref fA])=G30 at s30 hy5 ⊢
  replace RA:=RowV.keep s30.tk RA
  replace CL:=bE s30.tk CL
  replace RC:=RowV.keep s30.tk RC
  replace RE:=RowV.keep s30.tk RE
  replace hy1:=s30 _ _ hy1
  replace hy2:=s30 _ _ hy2
  replace hy3:=s30 _ _ hy3
  replace hy4:=s30 _ _ hy4
  replace S0:=S0.trans s30
  refine ⟨y5,2,[.ref fA],rfl,rfl,SqT.of hy5,by simp,by decide,by decide,(by show 1<=1000; decide),fun y6 ny6 => ?_⟩
  have s31:=Same.upd (o:=.tup (List.replicate (2:Int).toNat [V.ref fA]).flatten) ny6
  have hy6:upd G30 y6 (.tup (List.replicate (2:Int).toNat [V.ref fA]).flatten) y6=some (.tup (List.replicate (2:Int).toNat [V.ref fA]).flatten):=aB
  generalize upd G30 y6 (.tup (List.replicate (2:Int).toNat [V.ref fA]).flatten)=G31 at s31 hy6 ⊢
  replace RA:=RowV.keep s31.tk RA
  replace CL:=bE s31.tk CL
  replace RC:=RowV.keep s31.tk RC
  replace RE:=RowV.keep s31.tk RE
  replace hy1:=s31 _ _ hy1
  replace hy2:=s31 _ _ hy2
  replace hy3:=s31 _ _ hy3
  replace hy4:=s31 _ _ hy4
  replace hy5:=s31 _ _ hy5
  replace S0:=S0.trans s31
  refine ⟨y4,y6,_,_,rfl,rfl,SqT.of hy4,hy6,by simp,(by show 5<=sizeLine; decide),fun y7 G32 s32 hy7 => ?_⟩
  replace RA:=RowV.keep s32.tk RA
  replace CL:=bE s32.tk CL
  replace RC:=RowV.keep s32.tk RC
  replace RE:=RowV.keep s32.tk RE
  replace hy1:=s32 _ _ hy1
  replace hy2:=s32 _ _ hy2
  replace hy3:=s32 _ _ hy3
  replace hy4:=s32 _ _ hy4
  replace hy5:=s32 _ _ hy5
  replace hy6:=s32 _ _ hy6
  replace S0:=S0.trans s32
  refine ⟨_,rfl,?_⟩
  refine ⟨(by show 1<=sizeLine; decide),fun y8 ny8 => ?_⟩
  have s33:=Same.upd (o:=.tup [.ref fE]) ny8
  have hy8:upd G32 y8 (.tup [.ref fE]) y8=some (.tup [.ref fE]):=aB
  generalize upd G32 y8 (.tup [.ref fE])=G33 at s33 hy8 ⊢
  replace RA:=RowV.keep s33.tk RA
  replace CL:=bE s33.tk CL
  replace RC:=RowV.keep s33.tk RC
  replace RE:=RowV.keep s33.tk RE
  replace hy1:=s33 _ _ hy1
  replace hy2:=s33 _ _ hy2
  replace hy3:=s33 _ _ hy3
  replace hy4:=s33 _ _ hy4
  replace hy5:=s33 _ _ hy5
  replace hy6:=s33 _ _ hy6
  replace hy7:=s33 _ _ hy7
  replace S0:=S0.trans s33
  refine ⟨y7,y8,_,_,rfl,rfl,SqT.of hy7,hy8,by simp,(by show 6<=sizeLine; decide),fun y9 G34 s34 hy9 => ?_⟩
  replace RA:=RowV.keep s34.tk RA
  replace CL:=bE s34.tk CL
  replace RC:=RowV.keep s34.tk RC
  replace RE:=RowV.keep s34.tk RE
  replace hy1:=s34 _ _ hy1
  replace hy2:=s34 _ _ hy2
  replace hy3:=s34 _ _ hy3
  replace hy4:=s34 _ _ hy4
  replace hy5:=s34 _ _ hy5
  replace hy6:=s34 _ _ hy6
  replace hy7:=s34 _ _ hy7
  replace hy8:=s34 _ _ hy8
  replace S0:=S0.trans s34
  refine ⟨(by show 2<=sizeLine; decide),fun y10 ny10 => ?_⟩
  have s35:=Same.upd (o:=.tup [.str "s",.ref y9]) ny10
  have hy10:upd G34 y10 (.tup [.str "s",.ref y9]) y10=some (.tup [.str "s",.ref y9]):=aB
  generalize upd G34 y10 (.tup [.str "s",.ref y9])=G35 at s35 hy10 ⊢
  replace RA:=RowV.keep s35.tk RA
  replace CL:=bE s35.tk CL
  replace RC:=RowV.keep s35.tk RC
  replace RE:=RowV.keep s35.tk RE
  replace hy1:=s35 _ _ hy1
  replace hy2:=s35 _ _ hy2
  replace hy3:=s35 _ _ hy3
  replace hy4:=s35 _ _ hy4
  replace hy5:=s35 _ _ hy5
  replace hy6:=s35 _ _ hy6
  replace hy7:=s35 _ _ hy7
  replace hy8:=s35 _ _ hy8
  replace hy9:=s35 _ _ hy9
  replace S0:=S0.trans s35
  have CS:RecV G35 (.ref y10) (gs n.toNat):=⟨y10,y9,_,rfl,hy10,hy9,L2R.append (L2R.append (qN 3 RC) (qN 2 RA)) (L2R.one RE)⟩
  refine ⟨(by show 2<=sizeLine; decide),fun y11 ny11 => ?_⟩
  have s36:=Same.upd (o:=.tup [.ref x5,.ref y10]) ny11
  have hy11:upd G35 y11 (.tup [.ref x5,.ref y10]) y11=some (.tup [.ref x5,.ref y10]):=aB
  generalize upd G35 y11 (.tup [.ref x5,.ref y10])=G36 at s36 hy11 ⊢
  replace CL:=bE s36.tk CL
  replace hy1:=s36 _ _ hy1
  replace hy2:=s36 _ _ hy2
  replace CS:=bE s36.tk CS
  replace S0:=S0.trans s36
  refine ⟨(by show 3<=sizeLine; decide),fun y12 ny12 => ?_⟩
  have s37:=Same.upd (o:=.tup [.ref y1,.ref y2,.ref y11]) ny12
  have hy12:upd G36 y12 (.tup [.ref y1,.ref y2,.ref y11]) y12=some (.tup [.ref y1,.ref y2,.ref y11]):=aB
  generalize upd G36 y12 (.tup [.ref y1,.ref y2,.ref y11])=G37 at s37 hy12 ⊢
  replace CL:=bE s37.tk CL
  replace hy1:=s37 _ _ hy1
  replace hy2:=s37 _ _ hy2
  replace CS:=bE s37.tk CS
  replace hy11:=s37 _ _ hy11
  replace S0:=S0.trans s37
  exact k y12 _ _ S0 ⟨y1,.ref y2,y11,hy12,hy1,hy11,L2R.append (L2R.one CL) (L2R.one CS)⟩
end
end K25
namespace L2
open PySem PySem.Spec PyProof.Rows PySem.W
theorem aB1 {X:Cx}{CX:CXT}{k:Nat}{x:Str}{ps:List Str}{sp:Sp}{E:XK}{p pos:Pos}(C:Cal X.prog X.w X.K X.mg X.base CX k x ps sp)(hr:Room k X.A)(hg:Gl X x)(hx:gG CX X E)(hdb:(x == ("__debug__" : Str))=false:=by decide):PE X (.Call (.Name x p) [] [] pos) (oJ sp [] E tNil):=by
 obtain ⟨f,fd,hm,hk,hb,F⟩:=C.ex
 exact xN F hr hg hm hk hb .nil hx hdb
end L2
namespace K25
open PySem PySem.Spec PyProof.Rows L2 GM TM BQ TR
def Pt (r:Rw):Prop:=∃ ps,r = .parts (1,1) ps/\1<=ps.length/\ps.length<=4/\∀ p ∈ ps,1<=p.1/\p.1<=9
theorem qA : ∀ (n:Nat) (rr:List Rw),rr.length=n->(∀ r ∈ rr,Pt r)->∃ ps l,Rs rr ps l/\ps.map (·.2.1)=thgs rr
 | 0,rr,h,_=>by
  have:rr=[]:=List.eq_nil_of_length_eq_zero h
  subst this
  exact ⟨[],(0,1),.nil,rfl⟩
 | n+1,rr,h,k=>by
  have ne:rr ≠ []:=fun e=>by rw [e] at h; simp at h
  have e:=List.dropLast_concat_getLast ne
  obtain ⟨ps,l,hrs,nm⟩:=qA n rr.dropLast (by rw [List.length_dropLast,h]; rfl) fun r hr=>k r (List.dropLast_subset _ hr)
  obtain ⟨qs,er,q1,q4,qq⟩:=k _ (List.getLast_mem ne)
  rw [<- e,er]
  refine ⟨_,_,Rs.snoc hrs (r:=.parts (1,1) qs) ⟨sm11,q1,q4,qq⟩,?_⟩
  unfold thgs at nm ⊢
  rw [List.map_append,nm,List.flatMap_append]
  congr 1
  show (qs.map _).map _=[Rw.parts (1,1) qs].flatMap thg
  rw [List.map_map]
  show _=thg (.parts (1,1) qs) ++ []
  rw [List.append_nil]
  rfl
theorem lS {rr:List Rw}{ps:List Pu}{l:BQ.Q}(h:Rs rr ps l)(k : ∀ r ∈ rr,Pt r):ps.map (·.2.1)=thgs rr:=by
 obtain ⟨ps',l',h',nm⟩:=qA _ rr rfl k
 obtain ⟨e,_⟩:=h.det h'
 rw [e]
 exact nm
theorem ptA {n:Nat}(h1:1<=n)(h4:n<=4):Pt (pA n):=⟨_,rfl,by rw [List.length_replicate]; exact h1,by rw [List.length_replicate]; exact h4,fun p hp=>by rw [List.eq_of_mem_replicate hp]; decide⟩
theorem ptR:Pt pR:=⟨_,rfl,by decide,by decide,fun p hp=>by rw [List.eq_of_mem_replicate hp]; decide⟩
theorem yX : ∀ r ∈ gr.2,Pt r:=fun r hr=>by
 rcases List.mem_append.mp (show r ∈ List.replicate 5 (pA 4) ++ [pA 3] from hr) with h | h
 ·rw [List.eq_of_mem_replicate h]; exact ptA (by decide) (by decide)
 ·rw [List.mem_singleton.mp h]; exact ptA (by decide) (by decide)
theorem vN {n:Nat}(h1:1<=n)(h4:n<=4) : ∀ r ∈ (gs n).2,Pt r:=fun r hr=>by
 rcases List.mem_append.mp (show r ∈ (List.replicate 3 pR ++ List.replicate 2 (pA 4)) ++ [pA n] from hr) with h | h
 ·rcases List.mem_append.mp h with h | h
  ·rw [List.eq_of_mem_replicate h]; exact ptR
  ·rw [List.eq_of_mem_replicate h]; exact ptA (by decide) (by decide)
 ·rw [List.mem_singleton.mp h]; exact ptA h1 h4
theorem aFw {n:Nat}:thg (pA n)=List.replicate n ("a" : Str):=by
 show (List.replicate n ((1:Int),("a" : Str))).map (·.2)=_
 rw [List.map_replicate]
theorem zT {r:Rw}{n:Nat}{y:Str}(hr:r ∈ (gs n).2\/r ∈ gr.2)(hy:y ∈ thg r):y = "a" \/ (y = "r" /\ r ∈ (gs n).2/\r=pR):=by
 have aa : ∀ {k:Nat},r=pA k->y = "a" := fun e=>by
  rw [e,aFw] at hy
  exact List.eq_of_mem_replicate hy
 rcases hr with h0 | h0
 ·rcases List.mem_append.mp (show r ∈ (List.replicate 3 pR ++ List.replicate 2 (pA 4)) ++ [pA n] from h0) with h | h
  ·rcases List.mem_append.mp h with h | h
   ·have e:=List.eq_of_mem_replicate h
    rw [e] at hy
    have hy':y ∈ (List.replicate 4 ((1:Int),("r" : Str))).map (·.2):=hy
    rw [List.map_replicate] at hy'
    exact .inr ⟨List.eq_of_mem_replicate hy',h0,e⟩
   ·exact .inl (aa (List.eq_of_mem_replicate h))
  ·exact .inl (aa (List.mem_singleton.mp h))
 ·rcases List.mem_append.mp (show r ∈ List.replicate 5 (pA 4) ++ [pA 3] from h0) with h | h
  ·exact .inl (aa (List.eq_of_mem_replicate h))
  ·exact .inl (aa (List.mem_singleton.mp h))
theorem gBk {n:Nat}(h1:1<=n)(h4:n<=4):BkS ["a"] ["r","s"] 0 [gr,gs n]:=by
 have thl : ∀ {r:Rw},Pt r->(thg r).length<=10:=fun h=>by
  obtain ⟨ps,rfl,_,l4,_⟩:=h
  show (ps.map _).length<=10
  rw [List.length_map]
  omega
 refine ⟨⟨rfl,fun j p hj => ?_⟩,by decide,by decide,by decide,by decide,by decide,fun x hx => ?_,by decide,by decide⟩
 ·match j,hj with
  | 0,hj =>
   cases hj
   obtain ⟨ps,l,hrs,_⟩:=qA _ gr.2 rfl yX
   refine ⟨by decide,⟨ps,l,hrs⟩,by decide,fun r hr y hy => ?_,fun r hr=>thl (yX r hr)⟩
   rcases zT (n:=n) (.inr hr) hy with e | ⟨e,h,er⟩
   ·exact .inl (by rw [e]; decide)
   ·exfalso
    rw [er] at hr
    revert hr
    unfold gr pR pA
    simp
    decide
  | 1,hj =>
   cases hj
   obtain ⟨ps,l,hrs,_⟩:=qA _ (gs n).2 rfl (vN h1 h4)
   refine ⟨by show 1<=6; decide,⟨ps,l,hrs⟩,by show 6<=6; decide,fun r hr y hy => ?_,fun r hr=>thl (vN h1 h4 r hr)⟩
   rcases zT (n:=n) (.inl hr) hy with e | ⟨e,_⟩
   ·exact .inl (by rw [e]; decide)
   ·exact .inr ⟨0,by rw [e]; rfl,.inl ⟨rfl,by decide⟩⟩
  | j+2,hj=>simp at hj
 ·have:x = "a" \/ x = "r" \/ x = "s" := by simpa using hx
  rcases this with rfl | rfl | rfl <;> exact ⟨by decide,by decide,by decide⟩
theorem aCu:thgs gr.2=List.replicate 23 ("a" : Str):=by decide
theorem yW {n:Nat}(h:n=3\/n=4):thgs (gs n).2=List.replicate 12 ("r" : Str) ++ List.replicate (8+n) ("a" : Str):=by
 rcases h with rfl | rfl <;> decide
def fG (n:Nat)(y:Str):Int:=if y = "s" then 297+n else if y = "r" then 24 else 1
theorem gSI {n:Nat}(h:n=3\/n=4):SI [gr,gs n] ["r","s"] (fG n):=by
 have sumOf : ∀ {rr:List Rw} {ps:List Pu} {l:BQ.Q},Rs rr ps l->(∀ r ∈ rr,Pt r)->(ps.map fun s=>fG n s.2.1).sum=((thgs rr).map (fG n)).sum:=fun hrs k=>by
  rw [<- lS hrs k,List.map_map]
  rfl
 refine ⟨fun y hy => ?_,fun y => ?_,fun p hp _ ps l hrs => ?_⟩
 ·unfold fG
  rw [if_neg (fun e=>hy (by rw [e]; decide)),if_neg (fun e=>hy (by rw [e]; decide))]
 ·unfold fG
  split
  ·omega
  ·split <;> decide
 ·have:p=gr\/p=gs n:=by simpa using hp
  rcases this with rfl | rfl
  ·rw [sumOf hrs yX,aCu]
   rfl
  ·rw [sumOf hrs (vN (by omega) (by omega)),yW h]
   rcases h with rfl | rfl <;> rfl
theorem aFh {n:Nat}(h:n=3\/n=4):Full [gr,gs n] ["a"] ["r","s"]:=by
 have bk:=gBk (n:=n) (by omega) (by omega)
 refine ⟨fun i x hi t ht => ?_,by decide,fun x hx=>hx,fun p hp => ?_⟩
 ·match i,hi with
  | 0,hi =>
   cases hi
   rw [show ("r" : Str)=gr.1 from rfl,eI (j:=0) (p:=gr) bk.names rfl,aCu] at ht
   exact .inl (by rw [List.eq_of_mem_replicate ht]; decide)
  | 1,hi =>
   cases hi
   rw [show ("s" : Str)=(gs n).1 from rfl,eI (j:=1) (p:=gs n) bk.names rfl,yW h] at ht
   rcases List.mem_append.mp ht with z | z
   ·exact .inr (by rw [List.eq_of_mem_replicate z]; decide)
   ·exact .inl (by rw [List.eq_of_mem_replicate z]; decide)
  | i+2,hi=>simp at hi
 ·have:p=gr\/p=gs n:=by simpa using hp
  rcases this with rfl | rfl
  ·show ("r" : Str) ∈ _; decide
  ·show ("s" : Str) ∈ _; decide
theorem TT.cnt {H:Hp}{rc:List (Str × List Rw)}{ws:List Str}{h:Str->Nat}(hw : ∀ x ∈ ws,h x=1)(hr : ∀ p ∈ rc,∀ ps l,Rs p.2 ps l->h p.1=(ps.map fun s=>h s.2.1).sum) : ∀ {n:Nat} {v:V} {x:Str} {a:BQ.Q} {lv:List (Str × Int × Int)},TT H rc ws n v x a lv->lv.length=h x
 | 0,_,_,_,_,t=>t.elim
 | n+1,v,x,a,lv,t=>by
  obtain ⟨am,b1,b2,t⟩:=t
  rcases t with ⟨xw,z,m,e,h1,h2,rfl⟩ | ⟨xn,z,m,q,p,ps,l,zs,lvs,hp,rfl,hrs,e,h1,h2,h3,l1,l2,h4,rfl⟩
  ·rw [hw x xw]; rfl
  ·rw [hr p hp ps l hrs]
   have key : ∀ (lvs:List (List (Str × Int × Int))) (ps:List Pu),lvs.length=ps.length->(∀ (i:Nat) s lvi,ps[i]?=some s->lvs[i]?=some lvi->lvi.length=h s.2.1)->lvs.flatten.length=(ps.map fun s=>h s.2.1).sum:=by
    intro lvs
    induction lvs with
    | nil =>
     intro ps hl _
     cases ps with
     | nil=>rfl
     | cons _ _=>simp at hl
    | cons lv lvs ih =>
     intro ps hl k
     cases ps with
     | nil=>simp at hl
     | cons s ps =>
      have h1:=ih ps (by simpa using hl) fun i s lvi a b=>k (i+1) s lvi (by simpa using a) (by simpa using b)
      have h2:=k 0 s lv rfl rfl
      rw [List.flatten_cons,List.length_append,List.map_cons,List.sum_cons,h1,h2]
   exact key lvs ps l2 fun i s lvi hs hl=>by
    have il:=(List.getElem?_eq_some_iff.mp hs).1
    obtain ⟨c,hc⟩ : ∃ c,zs[i]?=some c:=⟨_,List.getElem?_eq_getElem (by omega)⟩
    exact TT.cnt hw hr (h4 i c s lvi hc hs hl)
def hG (y:Str):Nat:=if y = "s" then 287 else if y = "r" then 23 else 1
theorem gCnt : ∀ p ∈ [gr,gs 3],∀ ps l,Rs p.2 ps l->hG p.1=(ps.map fun s=>hG s.2.1).sum:=fun p hp ps l hrs=>by
 have sumOf : ∀ {rr:List Rw},Rs rr ps l->(∀ r ∈ rr,Pt r)->(ps.map fun s=>hG s.2.1).sum=((thgs rr).map hG).sum:=fun hrs k=>by
  rw [<- lS hrs k,List.map_map]
  rfl
 have:p=gr\/p=gs 3:=by simpa using hp
 rcases this with rfl | rfl
 ·rw [sumOf hrs yX,aCu]; rfl
 ·rw [sumOf hrs (vN (by decide) (by decide)),yW (.inl rfl)]; rfl
def oX:Sp:=fun vs H Q _=>vs=[]/\∀ H',Same H H'->Q (.bl true) H'
section
variable {P:Program}{w:World}{K:PySem.W.Frag}{mg:Str->Option Value}{base:Heap}{c8:Addr}
theorem uC:FnScope ["_law_told"] [] (aG sBound):=⟨rfl,rfl,rfl,by decide +kernel,rfl,by decide +kernel,by decide +kernel⟩
theorem yJ {f:Addr}{fd:FuncData}(F:Fun K "_law_at_the_bound" "_law_at_the_bound" sBound f fd)(T:Txt mg)(cG:Cal P w K mg base CX0 16 "_law_great" ["_law_last"] oV)(cT1:Cal1 P w K mg base (CXg P w) 16 "tree" ["book","thing","asked","most"] (gQ c8) (.int 300))(cL:Cal P w K mg base CX0 16 "leaves" ["one"] (gJ 7))(cZ:Cal P w K mg base CX0 16 "size_of" ["book","thing"] (iC K))(cR:Cal P w K mg base CX0 16 "_law_refused" ["_law_book_here","_law_thing","_law_asked_here","_law_ceiling","_law_size"] iE):FnOk P w K mg base CX0 17 f fd [] oX:=by
 refine F.ok uC (fun vs H Q E h => ?_) (fun cdv A outer s H vs Q E hr h => ?_)
 ·obtain ⟨rfl,_⟩:=h
  rfl
 ·obtain ⟨rfl,k⟩:=h
  refine ⟨_,(aD (aI (i:=0) uC.nd rfl (Or.inl rfl) (pF cT1 hr rfl xQ (aA (aH cG hr rfl aQ (aA aF aC)) (aA bX (aA (aY (aA aF (aA aF aC))) aC)))))
   (aD (bF (PW.pt (fW (aK (aB4 hr.units) (fH zY (pv 0) iN (gA aF)) (aY (aA bX (aA bX (aA (aY (aA aF (aA aF aC))) aC)))) (aT _)) (eU (aK gD (aS aW rfl T.len PySem.boot_len (aA (pit 0 3) aC)) aF (aT _)))))
    (aE (aO jV))
    aU)
   (aD (bF (PW.pt (fW (aK gD (aS aW rfl T.len PySem.boot_len (aA (aH cL hr rfl aQ (aA (pv 0) aC)) aC)) aF (aT _)) (eU (aK gD (aH cZ hr rfl aQ (aA (aH cG hr rfl aQ (aA aF aC)) (aA bX aC))) aF (aT _)))))
    (aE (aO jV))
    aU)
   (aE (aO (aH cR hr rfl aQ (aA (aH cG hr rfl aQ (aA aF aC)) (aA bX (aA (aY (aA aF (aA aF aC))) (aA dS (aA aF aC))))))))))),?_⟩
  have am11:Am (1,1):=⟨by decide,by decide,by decide⟩
  have b11:Bt 210 ((1,1):BQ.Q).1/\Bt 210 ((1,1):BQ.Q).2:=⟨(bP 4 (c:=16) (by decide) (by decide):Bt 4 (1:Int)).mono (by decide),(bP 4 (c:=16) (by decide) (by decide):Bt 4 (1:Int)).mono (by decide)⟩
  have bk3:BkS ["a"] ["r","s"] 0 [gr,gs 3]:=gBk (by decide) (by decide)
  have full3:=aFh (n:=3) (.inl rfl)
  have si3:=gSI (n:=3) (.inl rfl)
  have xin:("s" : Str) ∈ (["a"]:List Str) ++ (["r","s"]:List Str):=by decide
  obtain ⟨cf,U,S,hcf,U1,bU,eS,bS,nd⟩:=kZ (a:=(1,1)) bk3 full3 xin am11 b11.1 b11.2
  refine ⟨3,rfl,by decide,by decide,fun b us H1 s1 bw => ?_⟩
  refine ⟨(by show 2<=sizeLine; decide),fun o no => ?_⟩
  have so:=Same.upd (o:=.tup [.int 1,.int 1]) no
  refine ⟨b,o,"s",["a"],["r","s"],0,us,_,(1,1),["r","s"],cf,fG 3,U,S,300,vl (1,1),rfl,bw.keep so.tk,bk3,full3,hcf,si3,U1,bU,eS,bS,aB,am11,Rat.le_refl,nd,(fun _ z lv H2 s2 tt0 => ?_),(fun lt=>absurd lt (by decide))⟩
  have cnt:=tt0.cnt (h:=hG) (fun x hx=>by rw [List.mem_singleton.mp hx]; rfl) gCnt
  have cnt':lv.length=287:=cnt
  obtain ⟨_,_,_,tt⟩:=id tt0
  rcases tt with ⟨xw,_⟩ | ⟨_,z',m',q,p,ps,l,zs,lvs,hp,ep,hrs,e,hz,hm',hq,l1,l2,hg,elv⟩
  ·exact absurd xw (by decide)
  cases e
  have pe:p=gs 3:=by
   have:p=gr\/p=gs 3:=by simpa using hp
   rcases this with rfl | rfl
   ·exact absurd ep (by decide)
   ·rfl
  subst pe
  have zl:zs.length=23:=by
   have h1:=congrArg List.length (lS hrs (vN (by decide) (by decide)))
   rw [List.length_map,yW (.inl rfl)] at h1
   rw [l1,h1]
   decide
  refine ⟨_,rfl,_,rfl,z,_,rfl,SqT.of hz,(by show ¬ (HT.sIx 4 0 none=0/\HT.sIx 4 4 (some 3)=4); decide),fun p3 np3 => ?_⟩
  have sp3:=Same.upd (o:=.tup (cutV [.str "recipe",.str "s",.ref m',.ref q] none (some 3))) np3
  refine ⟨(by show 2<=sizeLine; decide),fun o4 no4 => ?_⟩
  have so4:=Same.upd (o:=.tup [.int 1,.int 1]) no4
  refine ⟨(by show 3<=sizeLine; decide),fun o5 no5 => ?_⟩
  have so5:=Same.upd (o:=.tup [.str "recipe",.str "s",.ref o4]) no5
  have s45:=so4.trans so5
  have s35:=sp3.trans s45
  have h3:upd (upd (upd H2 p3 (.tup (cutV [.str "recipe",.str "s",.ref m',.ref q] none (some 3)))) o4 (.tup [.int 1,.int 1])) o5 (.tup [.str "recipe",.str "s",.ref o4]) p3=some (.tup [.str "recipe",.str "s",.ref m']):=s45 _ _ aB
  have h5:upd (upd (upd H2 p3 (.tup (cutV [.str "recipe",.str "s",.ref m',.ref q] none (some 3)))) o4 (.tup [.int 1,.int 1])) o5 (.tup [.str "recipe",.str "s",.ref o4]) o5=some (.tup [.str "recipe",.str "s",.ref o4]):=aB
  have h4:=so5 _ _ (aB (H:=upd H2 p3 (.tup (cutV [.str "recipe",.str "s",.ref m',.ref q] none (some 3)))) (a:=o4) (o:=.tup [.int 1,.int 1]))
  generalize upd (upd (upd H2 p3 (.tup (cutV [.str "recipe",.str "s",.ref m',.ref q] none (some 3)))) o4 (.tup [.int 1,.int 1])) o5 (.tup [.str "recipe",.str "s",.ref o4])=H3 at s35 h3 h4 h5 ⊢
  have S3:=SqT.of (K:=K) (s35 _ _ hz)
  refine ⟨p3,o5,_,_,[.s "recipe",.s "s",.t [.i 1,.i 1]],rfl,rfl,SqT.of h3,SqT.of h5,.cons .s (.cons .s (.cons (Dv.two (a:=(1,1)) (s35 _ _ hm')) .nil)),.cons .s (.cons .s (.cons (Dv.two (a:=(1,1)) h4) .nil)),_,rfl,iteF ⟨z,_,_,rfl,S3,rfl,q,_,rfl,.inr (SqT.of (s35 _ _ hq)),rfl,_,rfl,ite2 (fun h=>absurd h (by rw [zl]; simp)) (fun _ => ?_)⟩⟩
  refine ⟨_,rfl,.ref z,_,_,"s",(1,1),lv,rfl,tt0.keep s35.tk,by omega,fun L us' H4 s4 nL hL pr => ?_⟩
  have pl:=pr.length
  refine ⟨L,_,rfl,.inl (SqL.of hL),rfl,_,rfl,ite2 (fun h=>absurd h (by rw [pl,cnt']; simp)) (fun _ => ?_)⟩
  refine ⟨3,rfl,by decide,by decide,fun b2 us2 H5 s5 bw2 => ?_⟩
  refine ⟨b2,"s",["a"],["r","s"],0,us2,_,rfl,bw2,bk3,fun f2 xs2 H6 s6 full6 si6 => ?_⟩
  have e6:f2 "s" = 300:=(SI.uniq bk3 si6 si3 full6 full3 "s").trans rfl
  rw [e6]
  refine ⟨rfl,_,rfl,iteF ?_⟩
  refine ⟨4,rfl,by decide,by decide,fun b7 us7 H7 s7 bw7 => ?_⟩
  refine ⟨(by show 2<=sizeLine; decide),fun o8 no8 => ?_⟩
  have so8:=Same.upd (o:=.tup [.int 1,.int 1]) no8
  have s03:=((s1.trans so).trans s2).trans s35
  exact ⟨b7,o8,"s",["a"],["r","s"],0,us7,_,(1,1),["r","s"],fG 4,.non,301,rfl,bw7.keep so8.tk,gBk (by decide) (by decide),aFh (n:=4) (.inr rfl),gSI (n:=4) (.inr rfl),xin,aB,am11,b11.1,b11.2,rfl,.inl ⟨rfl,by decide⟩,fun H' s'=>k H' ((((((s03.trans s4).trans s5).trans s6).trans s7).trans so8).trans s')⟩
end
end K25
namespace L2
open PySem PySem.Spec PyProof.Rows
theorem wI {X:Cx}:hZ X (.builtin "len") (fun xs H Q=>∃ d kvs,xs=[.ref d]/\H d=some (.dK kvs)/\Q (.int kvs.length) H):=by
 intro pins s σ H xs us Q I r h
 obtain ⟨d,kvs,rfl,hH,q⟩:=h
 obtain ⟨u,rfl,rx⟩:=jL r
 cases rx
 exact aGt I (.inl hH) fun t s' I'=>⟨.int kvs.length,H,I',⟨t,rfl⟩,q⟩
end L2
namespace K25
open PySem PySem.Spec PyProof.Rows L2 GM TM BQ TR
def tQ (K:PySem.W.Frag):Sp:=fun vs H Q _=>∃ (a:Addr) (ns:List Int),vs=[.ref a]/\SqL K H a (ns.map V.int)/\ns.length<=63/\∀ H',Q (.bl true) H'
section
variable {P:Program}{w:World}{K:PySem.W.Frag}{mg:Str->Option Value}{base:Heap}
theorem lJ:FnScope ["_law_script","_law_book_here","_law_own_sizes","_law_at","_law_left_here","_law_thing","_law_asked_here","_law_ceiling"] ["_law_script"] (aG sLaw):=⟨rfl,rfl,rfl,by decide +kernel,rfl,by decide +kernel,by decide +kernel⟩
theorem aE1 {f:Addr}{fd:FuncData}(F:Fun K "law" "law" sLaw f fd)(T:Txt mg)(cB:Cal P w K mg base CX0 17 "_law_book" ["_law_script"] (tV K))(cS:Cal P w K mg base CX0 17 "_law_sizes" ["_law_book_here"] (oK K))(cL:Cal P w K mg base CX0 17 "_law_left" ["_law_script","_law_k"] (mM K))(cN:Cal P w K mg base CX0 17 "_law_next" ["_law_left_here","_law_many"] gR)(cA:Cal P w K mg base CX0 17 "_law_asked" ["_law_left_here"] oY)(cR:Cal P w K mg base CX0 17 "_law_right" ["_law_book_here","_law_thing","_law_asked_here","_law_ceiling","_law_size"] oM)(cD:Cal P w K mg base CX0 17 "_law_at_the_bound" [] oX):FnOk P w K mg base CX0 18 f fd ["_law_script"] (tQ K):=by
 refine F.ok lJ (fun vs H Q E h => ?_) (fun cdv A outer s H vs Q E hr h => ?_)
 ·obtain ⟨_,_,rfl,_⟩:=h
  rfl
 ·obtain ⟨sc,ns,rfl,hS,l63,k⟩:=h
  refine ⟨_,(aD (aI (i:=1) lJ.nd rfl (Or.inl rfl) (aH cB hr rfl aQ (aA (pv 0) aC)))
   (aD (aI (i:=2) lJ.nd rfl (Or.inl rfl) (aH cS hr rfl aQ (aA (pv 1) aC)))
   (aD (bL PassesOwn.never rfl (mV rfl T.range (aA aF (aA (aS (nY rfl) rfl T.min' boot_min (aA (aS aW rfl T.len PySem.boot_len (aA (pv 0) aC)) (aA aF aC))) aC))) (aJ (i:=3) lJ.nd rfl (Or.inl rfl))
    (aD (aI (i:=4) lJ.nd rfl (Or.inl rfl) (aH cL hr rfl aQ (aA (pv 0) (aA (pv 3) aC))))
    (aD (aI (i:=5) lJ.nd rfl (Or.inl rfl) (dG cI (bJ (sK rfl) rfl T.list' iT (aA (pv 2) aC)) (aH cN hr rfl aQ (aA (pv 4) (aA (aS wI rfl T.len PySem.boot_len (aA (pv 2) aC)) aC))) (fun _ _=>rfl)))
    (aD (aI (i:=6) lJ.nd rfl (Or.inl rfl) (aH cA hr rfl aQ (aA (pv 4) aC)))
    (aE (bL PassesOwn.never rfl (cJ (bC (aA dS (aA (eK (fO hr) (pv 2) (pv 5) (fun _ _=>rfl)) (aA (aV mX (eK (fO hr) (pv 2) (pv 5) (fun _ _=>rfl)) aF) (aA aF aC)))))) (aJ (i:=7) lJ.nd rfl (Or.inl rfl))
     (aE (bF (fS (eO (aH cR hr rfl aQ (aA (pv 1) (aA (pv 5) (aA (pv 6) (aA (pv 7) (aA (eK (fO hr) (pv 2) (pv 5) (fun _ _=>rfl)) aC))))))))
      (aE (aO jV))
      aU))))))))
   (aD (aI (i:=5) lJ.nd rfl (Or.inl rfl) (dG fU (dG fU (pit 1 2) (aBy sW aF) (fun _ _=>rfl)) aF (fun _ _=>rfl)))
   (aD (bF (fS (eO (aH cR hr rfl aQ (aA (pv 1) (aA (pv 5) (aA (aY (aA aF (aA aF aC))) (aA dS (aA (eK (fO hr) (pv 2) (pv 5) (fun _ _=>rfl)) aC))))))))
    (aE (aO jV))
    aU)
   (aE (aO (aB1 cD hr rfl aQ)))))))),?_⟩
  refine ⟨_,rfl,sc,ns,rfl,hS,fun b ws rs t us rc H1 s1 bw bks => ?_⟩
  refine ⟨_,rfl,b,ws,rs,t,us,rc,rfl,bw,bks,fun d kvs ks ff xs H2 s2 nd im mk full si => ?_⟩
  have s02:=s1.trans s2
  have bw2:=bw.keep s2.tk
  obtain ⟨w',y0,fo',hb,hw,hfo,hu⟩:=id bw2
  have rl:=bks.rw.len
  have r1:=bks.r1
  have r6:=bks.r6
  have w1:=bks.w1
  have w6:=bks.w6
  have ul:=hu.len
  have kl:kvs.length=ks.length:=im.dk.len
  have ks1:1<=ks.length:=by
   obtain ⟨w0,hw0⟩ : ∃ w0,ws[0]?=some w0:=⟨_,List.getElem?_eq_getElem (by omega)⟩
   exact List.length_pos_of_mem ((mk w0).mpr (List.mem_append_left _ (List.mem_of_getElem? hw0)))
  have ks12:ks.length<=12:=by
   have h1:=fT (ws:=ws ++ xs) im.dk.nd fun z hz=>(mk z).mp hz
   have h2:=fT full.nd full.sub
   rw [List.length_map] at h2
   rw [List.length_append] at h1
   omega
  refine ⟨_,rfl,sc,_,rfl,.inl (s02.seq hS),_,_,rfl,18,_,rfl,⟨by decide,by decide,by split <;> omega,by split <;> omega⟩,?_⟩
  refine rY (fun i σ H'=>∃ v3 v4 v5 v6 v7:Option V,σ=[some (.ref sc),some (.ref b),some (.ref d),v3,v4,v5,v6,v7]/\Same H2 H') ⟨_,_,_,_,_,rfl,Same.refl _⟩ ?_ ?_
  ·rintro i σ H4 D1 hN hi ⟨v3,v4,v5,v6,v7,rfl,s4⟩
   refine ⟨_,rfl,_,rfl,sc,ns,_,rfl,(s02.trans s4).seq hS,by omega,by split at hi <;> omega,fun p H5 s5 np lf5 => ?_⟩
   have s45:=s4.trans s5
   have im5:=im.same s45
   refine ⟨_,rfl,d,kvs,ks,rfl,im5.hd,im.dk.keys,fun l1 n1 => ?_⟩
   have sl1:=Same.upd (o:=.lst (ks.map V.str)) n1
   have hl1:upd H5 l1 (.lst (ks.map V.str)) l1=some (.lst (ks.map V.str)):=aB
   have lp:p ≠ l1:=fun e=>by
    obtain ⟨_,_,h,_⟩:=lf5
    rw [e,n1] at h
    cases h
   have lf5':=lf5.keep sl1
   generalize upd H5 l1 (.lst (ks.map V.str))=H5' at sl1 hl1 lf5' ⊢
   refine ⟨_,rfl,_,rfl,d,kvs,rfl,sl1 _ _ im5.hd,p,_,rfl,lf5',by omega,bl9 (bP 8 (c:=256) (by omega) (by omega)),fun dg H6 d0 dl s6 lf6 => ?_⟩
   obtain ⟨dn,rfl⟩:=Int.eq_ofNat_of_zero_le d0
   obtain ⟨x,hx⟩ : ∃ x,ks[dn]?=some x:=⟨_,List.getElem?_eq_getElem (by omega)⟩
   have s46:Same H4 H6:=((SmB.of (s5.trans sl1)).trans s6).same np
   have s26:=s4.trans s46
   have hl6:=s6 _ _ (Ne.symm lp) hl1
   refine ⟨l1,_,(dn:Int),.str x,rfl,rfl,SqL.of hl6,bG (by rw [List.getElem?_map,hx]; rfl),?_⟩
   have xk:=List.mem_of_getElem? hx
   have xin:=(mk x).mp xk
   refine ⟨_,rfl,p,rfl,lf6,fun a m2 H7 am a1 ab1 ab2 s7 lf7 hm2 => ?_⟩
   have s47:Same H4 H7:=((SmB.of s46).trans s7).same np
   have s27:=s4.trans s47
   have at7:=im.at' x xk
   have dg : ∀ {H':Hp},Same H2 H'->DGet H' d (.str x) (some (.int (ff x))):=fun s=>at7 ▸ DGet.k (k:=Sum.inr x) (s _ _ im.hd)
   refine ⟨_,rfl,_,rfl,d,_,rfl,dg s27,_,rfl,_,rfl,d,_,rfl,dg s27,_,_,rfl,rfl,(by show 4<=sizeLine; decide),fun C nC => ?_⟩
   have sC:=Same.upd (o:=.lst [.non,.int (ff x),.int (ff x - 1),.int 40]) nC
   have hC:upd H7 C (.lst [.non,.int (ff x),.int (ff x - 1),.int 40]) C=some (.lst [.non,.int (ff x),.int (ff x - 1),.int 40]):=aB
   generalize upd H7 C (.lst [.non,.int (ff x),.int (ff x - 1),.int 40])=H8 at sC hC ⊢
   have s28:=s27.trans sC
   refine ⟨C,rfl,⟨_,SqL.of hC⟩,?_⟩
   refine kB (xs:=[.non,.int (ff x),.int (ff x - 1),.int 40]) (fun j σ H'=>∃ v7:Option V,σ=[some (.ref sc),some (.ref b),some (.ref d),some (.int (18+(i:Nat))),some (.ref p),some (.str x),some (.ref m2),v7]/\Same H8 H') ⟨_,rfl,Same.refl _⟩ (fun j σ H' _ hh=>by obtain ⟨_,_,sm⟩:=hh; exact SqL.of (sm _ _ hC)) ?_ ?_
   ·rintro j c σ H9 D2 hN2 hc ⟨v7',rfl,s9⟩
    have s29:=s28.trans s9
    have ce:Ceil c (ff x) (fun _=>True):=by
     match j,hc with
     | 0,hc=>cases hc; exact .inl ⟨rfl,trivial⟩
     | 1,hc=>cases hc; exact .inr ⟨_,rfl,trivial⟩
     | 2,hc=>cases hc; exact .inr ⟨_,rfl,trivial⟩
     | 3,hc=>cases hc; exact .inr ⟨_,rfl,trivial⟩
     | j+4,hc=>simp at hc
    exact ⟨_,rfl,_,rfl,_,rfl,_,rfl,_,rfl,_,rfl,d,_,rfl,dg s29,b,m2,x,ws,rs,t,us,rc,a,xs,ff,c,ff x,rfl,bw2.keep s29.tk,bks,full,si,xin,(sC.trans s9) _ _ hm2,am,ab1,ab2,rfl,ce,fun Ha sa=>⟨_,rfl,iteF (hN2 _ _ ⟨_,rfl,s9.trans sa⟩)⟩⟩
   ·rintro σ H9 ⟨v7',rfl,s9⟩
    exact hN _ _ ⟨_,_,_,_,_,rfl,s28.trans s9⟩
  ·rintro σ H4 ⟨v3,v4,v5,v6,v7,rfl,s4⟩
   obtain ⟨p,hj⟩ : ∃ p,rc[rc.length - 1]?=some p:=⟨_,List.getElem?_eq_getElem (by omega)⟩
   obtain ⟨u,hus⟩ : ∃ u,us[rc.length - 1]?=some u:=⟨_,List.getElem?_eq_getElem (by omega)⟩
   obtain ⟨z,q,vs',rfl,hz,hq,hv⟩:=hu.at' _ _ _ hus hj
   have elast:atI us (-1)=some (.ref z):=by
    have h1:=List.getElem?_eq_some_iff.mp hus
    have h2:us=us.dropLast ++ [.ref z]:=by
     have h3:us ≠ []:=fun e=>by rw [e] at ul; simp at ul; omega
     have h4:=List.dropLast_concat_getLast h3
     rw [List.getLast_eq_getElem] at h4
     have h5:us[us.length - 1] = .ref z:=by
      have:=h1.2
      simpa [ul] using this
     rw [h5] at h4
     exact h4.symm
    rw [h2]
    exact zS _ _
   have hpp:=List.mem_of_getElem? hj
   have xin:p.1 ∈ ws ++ xs:=List.mem_append_right _ (full.all p hpp)
   have at7:=im.at' p.1 ((mk _).mpr xin)
   have am37:Am (3,7):=⟨by decide,by decide,by decide⟩
   have b37:Bt 210 ((3,7):BQ.Q).1/\Bt 210 ((3,7):BQ.Q).2:=⟨(bP 4 (c:=16) (by decide) (by decide):Bt 4 (3:Int)).mono (by decide),(bP 4 (c:=16) (by decide) (by decide):Bt 4 (7:Int)).mono (by decide)⟩
   refine ⟨b,_,_,rfl,SqT.of (s4 _ _ hb),rfl,1,rfl,fo',_,-1,.ref z,rfl,rfl,SqT.of (s4 _ _ hfo),elast,z,_,0,.str p.1,rfl,rfl,SqT.of (s4 _ _ hz),rfl,?_⟩
   refine ⟨_,rfl,_,rfl,(by show 2<=sizeLine; decide),fun o no => ?_⟩
   have so:=Same.upd (o:=.tup [.int 3,.int 7]) no
   have s25:=s4.trans so
   exact ⟨_,rfl,_,rfl,d,_,rfl,at7 ▸ DGet.k (k:=Sum.inr p.1) (s25 _ _ im.hd),b,o,p.1,ws,rs,t,us,rc,(3,7),xs,ff,.non,ff p.1,rfl,bw2.keep s25.tk,bks,full,si,xin,aB,am37,b37.1,b37.2,rfl,.inl ⟨rfl,trivial⟩,fun H6 s6=>⟨_,rfl,iteF ⟨rfl,fun H7 _=>k H7⟩⟩⟩
end
structure Dn (K:PySem.W.Frag)(x:Str)(st:Stmt)(ps:List Str):Prop where
 ex : ∃ (f:Addr) (fd:FuncData),PySem.W.nsIn K mainGlobals x=some (some (.ref f))/\Fun K x x st f fd/\Binds K fd ps []
theorem Dn.mk' {K:PySem.W.Frag}{x:Str}{st:Stmt}{ps:List Str}{f:Addr}{oc:Value}{od an:Option Addr}{osl:Array (Option Value)}{kV doc pm cdv ct:Value}(a:PySem.W.nsIn K mainGlobals x=some (some (.ref f)))
  (l:K.lookup f=some ⟨oc,od,.func (PySem.W.fnOf x x (dJ st) (dB st) (aG st) .none kV doc pm an cdv ct),osl⟩) (c:PySem.W.codeIn K cdv x=true) (k:PySem.W.keepIn K (.ref f)=true)
  (hb : ∀ (kV doc pm:Value) (an:Option Addr) (cdv ct:Value) (us:List Value),us.length=ps.length->bindArgs (PySem.W.fnOf x x (dJ st) (dB st) (aG st) .none kV doc pm an cdv ct) ⟨us,[]⟩=pure (ps.zip us)):Dn K x st ps :=
 ⟨f,_,a,nQ (st:=st) l c k,(nQ (st:=st) l c k).binds hb⟩
theorem Dn.cal {P:Program}{w:World}{K:PySem.W.Frag}{mg:Str->Option Value}{base h:Heap}{CX:CXT}{k:Nat}{x:Str}{st:Stmt}{ps:List Str}{sp:Sp}(D:Dn K x st ps)(X:K.In h)(G:h.Ns mainGlobals mg)
  (ok : ∀ {f:Addr} {fd:FuncData},Fun K x x st f fd->FnOk P w K mg base CX k f fd ps sp):Cal P w K mg base CX k x ps sp:=by
 obtain ⟨f,fd,a,F,b⟩:=D.ex
 exact ⟨f,fd,PySem.W.mg_of X G a,F.kp,b,ok F⟩
structure NouK (K:PySem.W.Frag)(aN:Addr):Prop where
 m:PySem.W.nsIn K mainGlobals "NOUGHT" = some (some (.ref aN))
 s : ∀ H:Hp,SqT K H aN [.int 0,.int 1]
theorem NouK.mk' {K:PySem.W.Frag}{aN:Addr}{od:Option Addr}{t0 t1:Tok}{n:Nat}{sl:Array (Option Value)}(a:PySem.W.nsIn K mainGlobals "NOUGHT" = some (some (.ref aN)))
  (l:K.lookup aN=some ⟨.type "tuple",od,.seq #[.int 0 t0,.int 1 t1] n,sl⟩) : ∃ aN:Addr,NouK K aN :=
 ⟨aN,a,fun _=>.inr ⟨_,_,_,l,rfl,rfl,(by show 2<=sizeLine; decide),.cons ⟨_,rfl⟩ (.cons ⟨_,rfl⟩ .nil)⟩⟩
def TrK (K:PySem.W.Frag):Prop:=∃ (f dT:Addr) (oc oc2 kV doc pm cdv ct:Value) (od od2 an:Option Addr) (osl sl2:Array (Option Value)) (tk:Tok) (n2:Nat),
 PySem.W.nsIn K mainGlobals "tree" = some (some (.ref f))/\K.lookup f=some ⟨oc,od,.func (PySem.W.fnOf "tree" "tree" (dJ eN) (dB eN) (aG eN) (.ref dT) kV doc pm an cdv ct),osl⟩ /\
 PySem.W.codeIn K cdv "tree" = true/\PySem.W.keepIn K (.ref f)=true/\K.lookup dT=some ⟨oc2,od2,.seq #[.int 300 tk] n2,sl2⟩
theorem TrK.mk' {K:PySem.W.Frag}{f dT:Addr}{oc oc2 kV doc pm cdv ct:Value}{od od2 an:Option Addr}{osl sl2:Array (Option Value)}{tk:Tok}{n2:Nat}(a:PySem.W.nsIn K mainGlobals "tree" = some (some (.ref f)))
  (l:K.lookup f=some ⟨oc,od,.func (PySem.W.fnOf "tree" "tree" (dJ eN) (dB eN) (aG eN) (.ref dT) kV doc pm an cdv ct),osl⟩) (c:PySem.W.codeIn K cdv "tree" = true) (k:PySem.W.keepIn K (.ref f)=true)
  (d:K.lookup dT=some ⟨oc2,od2,.seq #[.int 300 tk] n2,sl2⟩):TrK K:=⟨_,_,_,_,_,_,_,_,_,_,_,_,_,_,_,_,a,l,c,k,d⟩
theorem aGx {K:PySem.W.Frag}{s:Shared}{us:List Value}{dT:Addr}{oc2 kV doc pm cdv ct:Value}{od2 an:Option Addr}{sl2:Array (Option Value)}{tk:Tok}{n2:Nat}(hK:K.In s.heap)(d:K.lookup dT=some ⟨oc2,od2,.seq #[.int 300 tk] n2,sl2⟩)(hl:(us ++ [Value.int 300 tk]).length=4) :
  BindsTo s (PySem.W.fnOf "tree" "tree" (dJ eN) (dB eN) (aG eN) (.ref dT) kV doc pm an cdv ct) ⟨us,[]⟩ ((["book","thing","asked","most"]:List Str).zip (us ++ [Value.int 300 tk])):=by
 match us,hl with
 | [a,b,c],_=>exact PySem.W.binds_K hK rfl d rfl rfl rfl
 | [],h=>simp at h
 | [_],h=>simp at h
 | [_,_],h=>simp at h
 | _ :: _ :: _ :: _ :: _,h=>simp at h
theorem aGw {K:PySem.W.Frag}{s:Shared}{us:List Value}{dT:Addr}{oc2 kV doc pm cdv ct:Value}{od2 an:Option Addr}{sl2:Array (Option Value)}{tk:Tok}{n2:Nat}(hK:K.In s.heap)(d:K.lookup dT=some ⟨oc2,od2,.seq #[.int 300 tk] n2,sl2⟩)(hl:(us ++ []).length=4) :
  BindsTo s (PySem.W.fnOf "tree" "tree" (dJ eN) (dB eN) (aG eN) (.ref dT) kV doc pm an cdv ct) ⟨us,[]⟩ ((["book","thing","asked","most"]:List Str).zip (us ++ [])):=by
 match us,hl with
 | [a,b,c,e],_=>exact PySem.W.binds_K hK rfl d rfl rfl rfl
 | [],h=>simp at h
 | [_],h=>simp at h
 | [_,_],h=>simp at h
 | [_,_,_],h=>simp at h
 | _ :: _ :: _ :: _ :: _ :: _,h=>simp at h
def yZ:List Value->List Value->List Value:=fun us ws=>if ws.length=1/\us.length=3 then us ++ ws else []
theorem aGv {K:PySem.W.Frag}{dT:Addr}{oc2 kV doc pm cdv ct:Value}{od2 an:Option Addr}{sl2:Array (Option Value)}{tk:Tok}{n2:Nat}(d:K.lookup dT=some ⟨oc2,od2,.seq #[.int 300 tk] n2,sl2⟩) :
  KBinds K (PySem.W.fnOf "tree" "tree" (dJ eN) (dB eN) (aG eN) (.ref dT) kV doc pm an cdv ct) ["book","thing","asked","most"] ["most"] yZ zD:=by
 refine ⟨fun s us ws hK hl => ?_,fun {vs us zs ws} r rz => ?_⟩
 ·by_cases h:ws.length=1/\us.length=3
  ·match us,ws,h with
   | [a,b,c],[e],_=>exact PySem.W.binds_K hK rfl d rfl rfl rfl
  ·have e:yZ us ws=[]:=if_neg h
   rw [e] at hl
   simp at hl
 ·have l1:=r.length
  have l2:=rz.length
  unfold zD yZ
  by_cases h:ws.length=1/\us.length=3
  ·rw [if_pos h,if_pos ⟨by omega,by omega⟩]
   exact r.append rz
  ·rw [if_neg h,if_neg (fun z=>h ⟨by omega,by omega⟩)]
   exact .nil
structure ErNK (K:PySem.W.Frag)(cP c0 c1 c2 c3 c4 c5 c6 c7 c8 fI:Addr):Prop where
 ef:ExF K c8 cP fI "size"
 ct:CtK K cP
 s:PySem.W.subIn K (.ref c8) (.ref cP)=some true
 bi:BaseI K cP
 iP:PySem.W.kitOne K (.ref c8) (.ref cP)=some true
 iV:PySem.W.kitOne K (.ref c8) (.type "ValueError")=some true
 mP:PySem.W.nsIn K mainGlobals "PhialError" = some (some (.ref cP))
 m0:PySem.W.nsIn K mainGlobals "Twice" = some (some (.ref c0))
 m1:PySem.W.nsIn K mainGlobals "NoName" = some (some (.ref c1))
 m2:PySem.W.nsIn K mainGlobals "NoPair" = some (some (.ref c2))
 m3:PySem.W.nsIn K mainGlobals "Ring" = some (some (.ref c3))
 m4:PySem.W.nsIn K mainGlobals "Over" = some (some (.ref c4))
 m5:PySem.W.nsIn K mainGlobals "Meet" = some (some (.ref c5))
 m6:PySem.W.nsIn K mainGlobals "NoText" = some (some (.ref c6))
 m7:PySem.W.nsIn K mainGlobals "NoAmount" = some (some (.ref c7))
 m8:PySem.W.nsIn K mainGlobals "TooLarge" = some (some (.ref c8))
 i0:PySem.W.kitOne K (.ref c8) (.ref c0)=some false
 i1:PySem.W.kitOne K (.ref c8) (.ref c1)=some false
 i2:PySem.W.kitOne K (.ref c8) (.ref c2)=some false
 i3:PySem.W.kitOne K (.ref c8) (.ref c3)=some false
 i4:PySem.W.kitOne K (.ref c8) (.ref c4)=some false
 i5:PySem.W.kitOne K (.ref c8) (.ref c5)=some false
 i6:PySem.W.kitOne K (.ref c8) (.ref c6)=some false
 i7:PySem.W.kitOne K (.ref c8) (.ref c7)=some false
 i8:PySem.W.kitOne K (.ref c8) (.ref c8)=some true
 fn : ∃ fd:FuncData,Fun K "__init__" "TooLarge.__init__" kK fI fd/\Binds K fd ["self","size"] []
theorem ErNK.er {K:PySem.W.Frag}{mg:Str->Option Value}{h:Heap}{cP c0 c1 c2 c3 c4 c5 c6 c7 c8 fI:Addr}(E:ErNK K cP c0 c1 c2 c3 c4 c5 c6 c7 c8 fI)(X:K.In h)(G:h.Ns mainGlobals mg):ErN K mg cP c0 c1 c2 c3 c4 c5 c6 c7 c8 fI :=
 ⟨E.ef,E.ct,E.s,E.bi,E.iP,E.iV,PySem.W.mg_of X G E.mP,PySem.W.mg_of X G E.m0,PySem.W.mg_of X G E.m1,PySem.W.mg_of X G E.m2,PySem.W.mg_of X G E.m3,PySem.W.mg_of X G E.m4,PySem.W.mg_of X G E.m5,PySem.W.mg_of X G E.m6,PySem.W.mg_of X G E.m7,PySem.W.mg_of X G E.m8,E.i0,E.i1,E.i2,E.i3,E.i4,E.i5,E.i6,E.i7,E.i8⟩
theorem fnI_mk {K:PySem.W.Frag}{f:Addr}{oc:Value}{od an:Option Addr}{osl:Array (Option Value)}{kV doc pm cdv ct:Value}
  (l:K.lookup f=some ⟨oc,od,.func (PySem.W.fnOf "__init__" "TooLarge.__init__" (dJ kK) (dB kK) (aG kK) .none kV doc pm an cdv ct),osl⟩) (c:PySem.W.codeIn K cdv "TooLarge.__init__" = true) (k:PySem.W.keepIn K (.ref f)=true) :
  ∃ fd:FuncData,Fun K "__init__" "TooLarge.__init__" kK f fd/\Binds K fd ["self","size"] [] :=
 ⟨_,nQ (st:=kK) l c k,(nQ (st:=kK) l c k).binds fun _ _ _ _ _ _ us hl=>match us,hl with | [_,_],_=>rfl⟩
theorem err_mk {K:PySem.W.Frag}{cP c0 c1 c2 c3 c4 c5 c6 c7 c8 fI:Addr}{od:Option Addr}{cd:ClassData}{sl:Array (Option Value)}
  (mP:PySem.W.nsIn K mainGlobals "PhialError" = some (some (.ref cP)))
  (m0:PySem.W.nsIn K mainGlobals "Twice" = some (some (.ref c0)))
  (m1:PySem.W.nsIn K mainGlobals "NoName" = some (some (.ref c1)))
  (m2:PySem.W.nsIn K mainGlobals "NoPair" = some (some (.ref c2)))
  (m3:PySem.W.nsIn K mainGlobals "Ring" = some (some (.ref c3)))
  (m4:PySem.W.nsIn K mainGlobals "Over" = some (some (.ref c4)))
  (m5:PySem.W.nsIn K mainGlobals "Meet" = some (some (.ref c5)))
  (m6:PySem.W.nsIn K mainGlobals "NoText" = some (some (.ref c6)))
  (m7:PySem.W.nsIn K mainGlobals "NoAmount" = some (some (.ref c7)))
  (m8:PySem.W.nsIn K mainGlobals "TooLarge" = some (some (.ref c8)))
  (_lk:K.lookup c8=some ⟨.type "type",od,.cls cd,sl⟩) (_ni:PySem.W.nsIn K cd.ns "__init__" = some (some (.ref fI)))
  (ef:ExF K c8 cP fI "size")
  (ct:CtK K cP)
  (s:PySem.W.subIn K (.ref c8) (.ref cP)=some true)
  (bi:BaseI K cP)
  (iP:PySem.W.kitOne K (.ref c8) (.ref cP)=some true)
  (iV:PySem.W.kitOne K (.ref c8) (.type "ValueError")=some true)
  (i0:PySem.W.kitOne K (.ref c8) (.ref c0)=some false)
  (i1:PySem.W.kitOne K (.ref c8) (.ref c1)=some false)
  (i2:PySem.W.kitOne K (.ref c8) (.ref c2)=some false)
  (i3:PySem.W.kitOne K (.ref c8) (.ref c3)=some false)
  (i4:PySem.W.kitOne K (.ref c8) (.ref c4)=some false)
  (i5:PySem.W.kitOne K (.ref c8) (.ref c5)=some false)
  (i6:PySem.W.kitOne K (.ref c8) (.ref c6)=some false)
  (i7:PySem.W.kitOne K (.ref c8) (.ref c7)=some false)
  (i8:PySem.W.kitOne K (.ref c8) (.ref c8)=some true)
  (fn : ∃ fd:FuncData,Fun K "__init__" "TooLarge.__init__" kK fI fd/\Binds K fd ["self","size"] []) : ∃ cP c0 c1 c2 c3 c4 c5 c6 c7 c8 fI:Addr,ErNK K cP c0 c1 c2 c3 c4 c5 c6 c7 c8 fI :=
 ⟨_,_,_,_,_,_,_,_,_,_,_,ef,ct,s,bi,iP,iV,mP,m0,m1,m2,m3,m4,m5,m6,m7,m8,i0,i1,i2,i3,i4,i5,i6,i7,i8,fn⟩
structure AllD (K:PySem.W.Frag):Prop where
 dGcd:Dn K "common_divisor" sGcd ["one","other"]
 dLow:Dn K "lowest_terms" sLow ["top","bottom"]
 dPlus:Dn K "plus" sPlus ["one","other"]
 dMinus:Dn K "minus" sMinus ["one","other"]
 dTimes:Dn K "times" sTimes ["one","other"]
 dOver:Dn K "over" sOver ["one","other"]
 dLess:Dn K "less" sLess ["one","other"]
 dWholeL:Dn K "whole" sWholeL ["one"]
 dRowsOf:Dn K "rows_of" sRowsOf ["book","name"]
 dShares:Dn K "shares" sShares ["all_of_it","pairs"]
 dPutBy:Dn K "put_by" sPutBy ["row","lies"]
 dPaw:Dn K "puts_as_written" sPaw ["rows"]
 dBowl:Dn K "whole_bowl" sBowl ["written"]
 dPuts:Dn K "puts" sPuts ["book","recipe","asked"]
 dCell:Dn K "_law_cell_at" sCell ["_law_script","_law_k"]
 dLeft:Dn K "_law_left" sLeft ["_law_script","_law_k"]
 dNext:Dn K "_law_next" sNext ["_law_left_here","_law_many"]
 dDiv:Dn K "_law_divisor" sDiv ["_law_one","_law_other"]
 dLlow:Dn K "_law_low" sLlow ["_law_top","_law_bottom"]
 dNames:Dn K "_law_names" sNames ["_law_left_here","_law_many"]
 dSum:Dn K "_law_sum" sSum ["_law_one","_law_other"]
 dAmount:Dn K "_law_amount" sAmount ["_law_left_here","_law_at"]
 dParts:Dn K "_law_parts" sParts ["_law_left_here","_law_at","_law_allowed"]
 dRow:Dn K "_law_row" sRow ["_law_left_here","_law_at","_law_allowed","_law_lies"]
 dRaw:Dn K "_law_raw" sRaw ["_law_rows"]
 dThings:Dn K "_law_things" sThings ["_law_row_here"]
 dBelow:Dn K "_law_below" sBelow ["_law_book_here","_law_name"]
 dReach:Dn K "_law_reach" sReach ["_law_book_here"]
 dOrder:Dn K "_law_order" sOrder ["_law_book_here"]
 dLower:Dn K "_law_lower" sLower ["_law_recipes_here","_law_j","_law_turn"]
 dRecipes:Dn K "_law_recipes" sRecipes ["_law_script","_law_wares","_law_recipes_here","_law_turn"]
 dBook:Dn K "_law_book" sBook ["_law_script"]
 dWhole:Dn K "_law_whole" sWhole ["_law_found"]
 dIsAm:Dn K "_law_is_amount" sIsAm ["_law_found"]
 dThin:Dn K "things_in" sThin ["row"]
 dThof:Dn K "things_of" sThof ["book","name"]
 dRnm:Dn K "recipe_names" sRnm ["book"]
 dOof:Dn K "order_of" sOof ["book"]
 dReady:Dn K "first_ready" sReady ["book","order"]
 dSizeOf:Dn K "size_of" sSizeOf ["book","thing"]
 dGrown:Dn K "grown" sGrown ["book","thing","asked"]
 dLeaves:Dn K "leaves" sLeaves ["one"]
 dLputs:Dn K "_law_puts" sLputs ["_law_rows","_law_asked_here"]
 dKind:Dn K "_law_kind" sKind ["_law_e"]
 dAsked:Dn K "_law_asked" sAsked ["_law_left_here"]
 dSizes:Dn K "_law_sizes" sSizes ["_law_book_here"]
 dWalked:Dn K "_law_walked" sWalked ["_law_book_here","_law_found","_law_thing","_law_asked_here"]
 dRefused:Dn K "_law_refused" sRefused ["_law_book_here","_law_thing","_law_asked_here","_law_ceiling","_law_size"]
 dRight:Dn K "_law_right" sRight ["_law_book_here","_law_thing","_law_asked_here","_law_ceiling","_law_size"]
 dGreat:Dn K "_law_great" sGreat ["_law_last"]
 dBound:Dn K "_law_at_the_bound" sBound []
 z0:PySem.W.nsIn K mainGlobals "isinstance" = some none
 z1:PySem.W.nsIn K mainGlobals "int" = some none
 z2:PySem.W.nsIn K mainGlobals "bool" = some none
 z3:PySem.W.nsIn K mainGlobals "tuple" = some none
 z4:PySem.W.nsIn K mainGlobals "len" = some none
 z5:PySem.W.nsIn K mainGlobals "range" = some none
 z6:PySem.W.nsIn K mainGlobals "min" = some none
 z7:PySem.W.nsIn K mainGlobals "str" = some none
 z8:PySem.W.nsIn K mainGlobals "abs" = some none
 z9:PySem.W.nsIn K mainGlobals "list" = some none
 z10:PySem.W.nsIn K mainGlobals "sum" = some none
 z11:PySem.W.nsIn K mainGlobals "zip" = some none
 z12:PySem.W.nsIn K mainGlobals "enumerate" = some none
 z13:PySem.W.nsIn K mainGlobals "all" = some none
 z14:PySem.W.nsIn K mainGlobals "sorted" = some none
 z15:PySem.W.nsIn K mainGlobals "reversed" = some none
 z16:PySem.W.nsIn K mainGlobals "dict" = some none
 nou : ∃ aN:Addr,NouK K aN
 tr:TrK K
 err : ∃ cP c0 c1 c2 c3 c4 c5 c6 c7 c8 fI:Addr,ErNK K cP c0 c1 c2 c3 c4 c5 c6 c7 c8 fI
 vl:PySem.W.nsIn K mainGlobals "ValueError" = some none
theorem AllD.txt {K:PySem.W.Frag}{mg:Str->Option Value}{h:Heap}(A:AllD K)(X:K.In h)(G:h.Ns mainGlobals mg):Txt mg:=⟨PySem.W.mg_none_of X G A.z0,PySem.W.mg_none_of X G A.z1,PySem.W.mg_none_of X G A.z2,PySem.W.mg_none_of X G A.z3,PySem.W.mg_none_of X G A.z4,PySem.W.mg_none_of X G A.z5,PySem.W.mg_none_of X G A.z6,PySem.W.mg_none_of X G A.z7,PySem.W.mg_none_of X G A.z8,PySem.W.mg_none_of X G A.z9,PySem.W.mg_none_of X G A.z10,PySem.W.mg_none_of X G A.z11,PySem.W.mg_none_of X G A.z12,PySem.W.mg_none_of X G A.z13,PySem.W.mg_none_of X G A.z14,PySem.W.mg_none_of X G A.z15,PySem.W.mg_none_of X G A.z16⟩
theorem aFa {P:Program}{w:World}{K:PySem.W.Frag}{mg:Str->Option Value}{base h:Heap}{f:Addr}{fd:FuncData}(X:K.In h)(G:h.Ns mainGlobals mg)(A:AllD K)(F:Fun K "law" "law" sLaw f fd):FnOk P w K mg base CX0 18 f fd ["_law_script"] (tQ K):=by
 have T:Txt mg:=A.txt X G
 obtain ⟨aN,NK⟩:=A.nou
 have mN:=PySem.W.mg_of X G NK.m
 have cG:Cal P w K mg base CX0 1 "common_divisor" ["one","other"] oW:=A.dGcd.cal X G aE2
 have cLow:Cal P w K mg base CX0 2 "lowest_terms" ["top","bottom"] gS:=A.dLow.cal X G fun F=>aE0 F cG
 have cPl:Cal P w K mg base CX0 3 "plus" ["one","other"] (pV K):=A.dPlus.cal X G fun F=>aCc F mN NK.s cLow
 have cTi:Cal P w K mg base CX0 3 "times" ["one","other"] (jN K):=A.dTimes.cal X G fun F=>xV F cLow
 have cOv:Cal P w K mg base CX0 3 "over" ["one","other"] (mL K):=A.dOver.cal X G fun F=>aCd F mN NK.s cLow
 have cLs:Cal P w K mg base CX0 1 "less" ["one","other"] (tP K):=A.dLess.cal X G aCg
 have cMi:Cal P w K mg base CX0 3 "minus" ["one","other"] (oS K):=A.dMinus.cal X G fun F=>yE F (cLs.mono (by decide)) cLow
 have cWl:Cal P w K mg base CX0 4 "whole" ["one"] (jC K):=A.dWholeL.cal X G fun F=>uM F mN NK.s cPl
 have cBo:Cal P w K mg base CX0 5 "whole_bowl" ["written"] (tU K):=A.dBowl.cal X G fun F=>aCm F cWl
 have cSh:Cal P w K mg base CX0 4 "shares" ["all_of_it","pairs"] (lA K):=A.dShares.cal X G fun F=>uQ F T cOv cTi
 have cPb:Cal P w K mg base CX0 5 "put_by" ["row","lies"] (oP K):=A.dPutBy.cal X G fun F=>yA F mN NK.s cSh (cTi.mono (by decide)) (cMi.mono (by decide))
 have cPw:Cal P w K mg base CX0 6 "puts_as_written" ["rows"] (wZ K):=A.dPaw.cal X G fun F=>aEy F T mN NK.s cPb (cPl.mono (by decide)) (cWl.mono (by decide))
 have cRo:Cal P w K mg base CX0 1 "rows_of" ["book","name"] iD:=A.dRowsOf.cal X G fun F=>uR F
 have cPu:Cal P w K mg base CX0 7 "puts" ["book","recipe","asked"] (tN K):=A.dPuts.cal X G fun F=>aCb F (cRo.mono (by decide)) cPw (cOv.mono (by decide)) (cBo.mono (by decide)) (cTi.mono (by decide))
 have cC:Cal P w K mg base CX0 1 "_law_cell_at" ["_law_script","_law_k"] (tT K):=A.dCell.cal X G fun F=>aCl F T
 have cL:Cal P w K mg base CX0 2 "_law_left" ["_law_script","_law_k"] (mM K):=A.dLeft.cal X G fun F=>aCh F T cC
 have cN:Cal P w K mg base CX0 1 "_law_next" ["_law_left_here","_law_many"] gR:=A.dNext.cal X G fun F=>aCe F T
 have cD:Cal P w K mg base CX0 1 "_law_divisor" ["_law_one","_law_other"] oW:=A.dDiv.cal X G aE3
 have cLl:Cal P w K mg base CX0 2 "_law_low" ["_law_top","_law_bottom"] gS:=A.dLlow.cal X G fun F=>aCf F cD
 have cNm:Cal P w K mg base CX0 2 "_law_names" ["_law_left_here","_law_many"] oR:=A.dNames.cal X G fun F=>yD F T cN
 have cSm:Cal P w K mg base CX0 3 "_law_sum" ["_law_one","_law_other"] (wY K):=A.dSum.cal X G fun F=>aEu F cLl
 have cAm:Cal P w K mg base CX0 3 "_law_amount" ["_law_left_here","_law_at"] jD:=A.dAmount.cal X G fun F=>uT F (cN.mono (by decide)) cLl
 have cPt:Cal P w K mg base CX0 4 "_law_parts" ["_law_left_here","_law_at","_law_allowed"] (oQ K):=A.dParts.cal X G fun F=>yB F T (cN.mono (by decide)) cAm
 have cRw:Cal P w K mg base CX0 5 "_law_row" ["_law_left_here","_law_at","_law_allowed","_law_lies"] (aBb K):=A.dRow.cal X G fun F=>aEv F T (cN.mono (by decide)) (cAm.mono (by decide)) cPt (cSm.mono (by decide))
 have cRa:Cal P w K mg base CX0 4 "_law_raw" ["_law_rows"] (tM K):=A.dRaw.cal X G fun F=>aEx F T (cLl.mono (by decide)) cSm
 have cTh:Cal P w K mg base CX0 1 "_law_things" ["_law_row_here"] gI:=A.dThings.cal X G fun F=>uO F
 have cBe:Cal P w K mg base CX0 2 "_law_below" ["_law_book_here","_law_name"] lC:=A.dBelow.cal X G fun F=>yK F cTh
 have cOr:Cal P w K mg base CX0 3 "_law_order" ["_law_book_here"] lB:=A.dOrder.cal X G fun F=>yC F T cBe
 have cRe:Cal P w K mg base CX0 4 "_law_reach" ["_law_book_here"] oO:=A.dReach.cal X G fun F=>xZ F T (cBe.mono (by decide)) cOr
 have cLo:Cal P w K mg base CX0 1 "_law_lower" ["_law_recipes_here","_law_j","_law_turn"] oU:=A.dLower.cal X G fun F=>yG F T
 have cRc:Cal P w K mg base CX0 6 "_law_recipes" ["_law_script","_law_wares","_law_recipes_here","_law_turn"] (jO K):=A.dRecipes.cal X G fun F=>rQ F T (cL.mono (by decide)) (cN.mono (by decide)) (cLo.mono (by decide)) (cRa.mono (by decide)) cRw
 have cBk:Cal P w K mg base CX0 7 "_law_book" ["_law_script"] (tV K):=A.dBook.cal X G fun F=>aCn F T (cL.mono (by decide)) (cN.mono (by decide)) (cNm.mono (by decide)) cRc (cRe.mono (by decide))
 have cW:Cal P w K mg base CX0 1 "_law_whole" ["_law_found"] jM:=A.dWhole.cal X G fun F=>xU F T
 have cA:Cal P w K mg base CX0 2 "_law_is_amount" ["_law_found"] (tS K):=A.dIsAm.cal X G fun F=>aCj F T cW cD
 have cTi2:Cal P w K mg base CX0 1 "things_in" ["row"] gI:=A.dThin.cal X G fun F=>aCa F
 have cTo:Cal P w K mg base CX0 2 "things_of" ["book","name"] tK:=A.dThof.cal X G fun F=>aB9 F cRo cTi2
 have cRn:Cal P w K mg base CX0 1 "recipe_names" ["book"] aBc:=A.dRnm.cal X G fun F=>aEw F
 have cRy:Cal P w K mg base CX0 3 "first_ready" ["book","order"] oN:=A.dReady.cal X G fun F=>xY F T (cRn.mono (by decide)) cTo
 have cOo:Cal P w K mg base CX0 4 "order_of" ["book"] aBd:=A.dOof.cal X G fun F=>aEz F cRy
 have cSo:Cal P w K mg base CX0 7 "size_of" ["book","thing"] (iC K):=A.dSizeOf.cal X G fun F=>uP F T (cOo.mono (by decide)) (cRo.mono (by decide)) cPw
 have cGr : ∀ n:Nat,Cal P w K mg base CX0 (n+7) "grown" ["book","thing","asked"] (iK n):=fun n=>by
  induction n with
  | zero=>exact A.dGrown.cal X G fun _=>yO
  | succ n ih=>exact A.dGrown.cal X G fun F=>yH F T ih (cPu.mono (by omega))
 have cLv : ∀ n:Nat,Cal P w K mg base CX0 (n+1) "leaves" ["one"] (gJ n):=fun n=>by
  induction n with
  | zero=>exact A.dLeaves.cal X G fun _=>uW
  | succ n ih=>exact A.dLeaves.cal X G fun F=>uS F ih
 have cLp:Cal P w K mg base CX0 5 "_law_puts" ["_law_rows","_law_asked_here"] (oT K):=A.dLputs.cal X G fun F=>yF F cRa (cLl.mono (by decide))
 have cWk : ∀ n:Nat,Cal P w K mg base CX0 (n+5) "_law_walked" ["_law_book_here","_law_found","_law_thing","_law_asked_here"] (gH n):=fun n=>by
  induction n with
  | zero=>exact A.dWalked.cal X G fun _=>uV
  | succ n ih=>exact A.dWalked.cal X G fun F=>uN F T ih (cA.mono (by omega)) (cLp.mono (by omega))
 have cAs:Cal P w K mg base CX0 3 "_law_asked" ["_law_left_here"] oY:=A.dAsked.cal X G fun F=>yL F (cN.mono (by decide)) cLl
 have cSz:Cal P w K mg base CX0 5 "_law_sizes" ["_law_book_here"] (oK K):=A.dSizes.cal X G fun F=>xW F T (cOr.mono (by decide)) cRa
 obtain ⟨cP,c0,c1,c2,c3,c4,c5,c6,c7,c8,fI,EK⟩:=A.err
 have R:=EK.er X G
 obtain ⟨fdI,FI,bI⟩:=EK.fn
 have kI:FnOk P w K mg base CX0 1 fI fdI ["self","size"] (pW c8):=aCk FI R
 have cKd:Cal P w K mg base CX0 1 "_law_kind" ["_law_e"] (tR c8):=A.dKind.cal X G fun F=>aCi F T (PySem.W.mg_none_of X G A.vl) R
 obtain ⟨fa,dT,oc,oc2,kV,doc,pm,cdv,ct,od,od2,an,osl,sl2,tk,n2,q1,q2,q3,q4,q5⟩:=A.tr
 have FT:FnOk P w K mg base (CXg P w) 15 fa _ ["book","thing","asked","most"] (gQ c8):=aB8 q2 q3 R kI bI (cSo.mono (by decide)) ((cGr 7).mono (by decide))
 have cTr:Cal P w K mg base (CXg P w) 15 "tree" ["book","thing","asked","most"] (gQ c8):=⟨fa,_,PySem.W.mg_of X G q1,q4,fun s us hK hl=>aGw hK q5 hl,FT⟩
 have cT1:Cal1 P w K mg base (CXg P w) 15 "tree" ["book","thing","asked","most"] (gQ c8) (.int 300):=⟨fa,_,.int 300 tk,PySem.W.mg_of X G q1,q4,fun s us hK hl=>aGx hK q5 hl,⟨_,rfl⟩,FT⟩
 have cTK:CalK P w K mg base (CXg P w) 15 "tree" ["book","thing","asked","most"] ["most"] zD (gQ c8):=⟨fa,_,yZ,PySem.W.mg_of X G q1,q4,aGv q5,FT⟩
 have cRf:Cal P w K mg base CX0 16 "_law_refused" ["_law_book_here","_law_thing","_law_asked_here","_law_ceiling","_law_size"] iE:=A.dRefused.cal X G fun F=>rP F R (cKd.mono (by decide)) (cW.mono (by decide)) cTr cT1
 have cRt:Cal P w K mg base CX0 17 "_law_right" ["_law_book_here","_law_thing","_law_asked_here","_law_ceiling","_law_size"] oM:=A.dRight.cal X G fun F=>xX F T (cSo.mono (by decide)) (cW.mono (by decide)) cRf (cT1.mono (by decide)) (cTK.mono (by decide)) ((cWk 7).mono (by decide)) ((cLv 7).mono (by decide))
 have cGt:Cal P w K mg base CX0 1 "_law_great" ["_law_last"] oV:=A.dGreat.cal X G fun F=>yI F
 have cBd:Cal P w K mg base CX0 17 "_law_at_the_bound" [] oX:=A.dBound.cal X G fun F=>yJ F T (cGt.mono (by decide)) (cT1.mono (by decide)) ((cLv 7).mono (by decide)) (cSo.mono (by decide)) cRf
 exact aE1 F T (cBk.mono (by decide)) (cSz.mono (by decide)) (cL.mono (by decide)) (cN.mono (by decide)) (cAs.mono (by decide)) cRt cBd
theorem all_mk {l:PySem.W.OpenLaw}{w:World}{K:PySem.W.Frag}{h:Heap}{mg:Str->Option Value}{fa f4:Addr}(X:K.In h)(G:h.Ns mainGlobals mg)(hfa:mg "law" = some (.ref fa))(A:AllD K)
  {od4 an4:Option Addr} {sl4:Array (Option Value)} {oc4 kV4 dc4 pm4 cd4 ct4:Value}
  (a4:PySem.W.nsIn K mainGlobals "law" = some (some (.ref f4))) (l4:K.lookup f4=some ⟨oc4,od4,.func (PySem.W.fnOf "law" "law" (dJ sLaw) (dB sLaw) (aG sLaw) .none kV4 dc4 pm4 an4 cd4 ct4),sl4⟩) (c4:PySem.W.codeIn K cd4 "law" = true) (k4:PySem.W.keepIn K (.ref f4)=true) :
  ∃ fd:FuncData,(∀ (s:Shared) (v:Value),BindsTo s fd ⟨[v],[]⟩ [("_law_script",v)])/\∀ base:Heap,K.In base->base.Ns mainGlobals mg->FnOk l.prog w K mg base CX0 18 fa fd ["_law_script"] (tQ K):=by
 have e:=hfa.symm.trans (PySem.W.mg_of X G a4)
 cases e
 exact ⟨PySem.W.fnOf "law" "law" (dJ sLaw) (dB sLaw) (aG sLaw) .none kV4 dc4 pm4 an4 cd4 ct4,fun s v=>.of_eq rfl,fun base _ _=>aFa X G A (nQ (st:=sLaw) l4 c4 k4)⟩
theorem walk {l:PySem.W.OpenLaw}{q:Program}{loose:List Str}{XP:(Str->Option Value)->Heap->Prop}{YP:World->Heap->Prop}{d:DefRec}{K:Params->PySem.W.Frag}(hn:l.most=some 63)(hdf:d.params.defaults=[])
  (hY : ∀ (w:World) (h:Heap),YP w h->(K w.params).In h)
  (F : ∀ (w:World) (mg:Str->Option Value) (fa:Addr) (h:Heap),(K w.params).In h->h.Ns mainGlobals mg->mg d.name=some (.ref fa) ->
   ∃ fd:FuncData,(∀ (s:Shared) (u:Value),BindsTo s fd ⟨[u],[]⟩ [("_law_script",u)])/\∀ base:Heap,(K w.params).In base->base.Ns mainGlobals mg->FnOk l.prog w (K w.params) mg base CX0 18 fa fd ["_law_script"] (tQ (K w.params))) :
  PySem.W.WalkO q loose XP YP l.row.toRowW d [] (fun f vs=>PySem.call f vs) :=
 L2.walk_of (n:=63) (k:=18) (x := "_law_script") (CX:=fun _=>CX0) (sp:=fun w=>tQ (K w.params)) hn (by decide) hdf ⟨rfl,by decide,by decide⟩ hY F (fun _ _ a ns hl _ hS=>⟨a,ns,rfl,hS,hl,fun _=>rfl⟩) fun _ _ _ _ _ z=>z
end K25
def PySem.W.Fast.tw10808883724576876484:Unit:=()
def PySem.W.Fast.tw18345221710173976875:Unit:=()
def PySem.W.Fast.tw2984188041660881496:Unit:=()
def PySem.W.Fast.tw17025781406527300272:Unit:=()
def PySem.W.Fast.tw5725370594295894182:Unit:=()
def PySem.W.Fast.tw7617907402210372952:Unit:=()
def PySem.W.Fast.tw15700663669730125182:Unit:=()
def PySem.W.Fast.tw3238094190925470926:Unit:=()
def PySem.W.Fast.tw6960510749679060083:Unit:=()
def PySem.W.Fast.tw13713535684079138094:Unit:=()
def PySem.W.Fast.tw5766380969969281514:Unit:=()
def PySem.W.Fast.tw15765961711812631433:Unit:=()
def PySem.W.Fast.tw823428072771344008:Unit:=()
def PySem.W.Fast.tw94768077454471921:Unit:=()
def PySem.W.Fast.tw8872889427029406617:Unit:=()
def PySem.W.Fast.tw733782550109330557:Unit:=()
def PySem.W.Fast.tw2244012882397201356:Unit:=()
def PySem.W.Fast.tw9287849842256293342:Unit:=()
def PySem.W.Fast.tw16646720536970874656:Unit:=()
def PySem.W.Fast.tw433108308481081820:Unit:=()
def PySem.W.Fast.tw6537936599667237781:Unit:=()
def PySem.W.Fast.tw13781192986308897581:Unit:=()
def PySem.W.Fast.tw2016893354998003462:Unit:=()
def PySem.W.Fast.tw10077358440093498850:Unit:=()
def PySem.W.Fast.tw13400810582168718838:Unit:=()
def PySem.W.Fast.tw605008448951685105:Unit:=()
def PySem.W.Fast.tw7361252445276431536:Unit:=()
def PySem.W.Fast.tw9752454800075012923:Unit:=()
def PySem.W.Fast.tw10011545854935695936:Unit:=()
def PySem.W.Fast.tw7575903408611295340:Unit:=()
def PySem.W.Fast.tw18002084408427008948:Unit:=()
def PySem.W.Fast.tw7149476951300835728:Unit:=()
def PySem.W.Fast.tw5883263455398002457:Unit:=()
def PySem.W.Fast.tw166760781591528779:Unit:=()
def PySem.W.Fast.tw8569815168319745917:Unit:=()
def PySem.W.Fast.tw11588931035033636422:Unit:=()
def PySem.W.Fast.tw9216332275903536535:Unit:=()
def PySem.W.Fast.tw3780415721394390723:Unit:=()
def PySem.W.Fast.tw13818789247135325308:Unit:=()
def PySem.W.Fast.tw6366703455677882:Unit:=()
def PySem.W.Fast.tw2539498117988225742:Unit:=()
def PySem.W.Fast.tw12318002332989824327:Unit:=()
def PySem.W.Fast.tw242268765611104555:Unit:=()
def PySem.W.Fast.tw14317576263698616094:Unit:=()
def PySem.W.Fast.tw16856036069038093859:Unit:=()
def PySem.W.Fast.tw1308113527807964326:Unit:=()
def PySem.W.Fast.tw14952003605189206909:Unit:=()
def PySem.W.Fast.tw14907754051380743876:Unit:=()
def PySem.W.Fast.tw5297620131793242390:Unit:=()
def PySem.W.Fast.tw6237542527835501062:Unit:=()
def PySem.W.Fast.tw10907809835817220376:Unit:=()
def PySem.W.Fast.tw12360917606545868261:Unit:=()
def PySem.W.Fast.tw15574602128919543363:Unit:=()
def PySem.W.Fast.tw6619226827405308946:Unit:=()
def PySem.W.Fast.tw10799417203078968531:Unit:=()
def PySem.W.Fast.tw13832326607464229929:Unit:=()
def PySem.W.Fast.tw17014242249597073694:Unit:=()
def PySem.W.Fast.tw8364814795350397070:Unit:=()
def PySem.W.Fast.tw4458032693701256649:Unit:=()
def PySem.W.Fast.tw17146338391975916972:Unit:=()
def PySem.W.Fast.tw1233336617200256975:Unit:=()
def PySem.W.Fast.tw14353476906707775536:Unit:=()
def PySem.W.Fast.tw5732909832706029272:Unit:=()
def PySem.W.Fast.tw9798790241481397691:Unit:=()
def PySem.W.Fast.tw10029980836729476474:Unit:=()
def PySem.W.Fast.tw9301622114185469863:Unit:=()
def PySem.W.Fast.tw13651776595008932506:Unit:=()
def PySem.W.Fast.tw14264951542286235406:Unit:=()
def PySem.W.Fast.tw5080256066632747353:Unit:=()
def PySem.W.Fast.tw3610423145193075854:Unit:=()
def PySem.W.Fast.tw5203443095189056583:Unit:=()
def PySem.W.Fast.tw5995773040332830727:Unit:=()
def PySem.W.Fast.tw3985712879224619741:Unit:=()
def PySem.W.Fast.tw3197551090326432449:Unit:=()
def PySem.W.Fast.tw11223586562235876943:Unit:=()
def PySem.W.Fast.tw13571687547136726420:Unit:=()
def PySem.W.Fast.tw9117172522761481727:Unit:=()
def PySem.W.Fast.tw7363183930096416002:Unit:=()
def PySem.W.Fast.tw7562420486876721035:Unit:=()
def PySem.W.Fast.tw9904838340986911419:Unit:=()
def PySem.W.Fast.tw3898891424654350554:Unit:=()
def PySem.W.Fast.tw9929964193843129546:Unit:=()
def PySem.W.Fast.tw14405497830319207238:Unit:=()
def PySem.W.Fast.tw10123484560801059333:Unit:=()
def PySem.W.Fast.tw483908266770139038:Unit:=()
def PySem.W.Fast.tw2795125806456304388:Unit:=()
def PySem.W.Fast.tw18292501596770499443:Unit:=()
def PySem.W.Fast.tw4192167227572053349:Unit:=()
def PySem.W.Fast.tw9246110290760777205:Unit:=()
def PySem.W.Fast.tw8519420260902810678:Unit:=()
def PySem.W.Fast.tw4499582473116330050:Unit:=()
def PySem.W.Fast.tw16447704353577059183:Unit:=()
def PySem.W.Fast.tw15572605243138401266:Unit:=()
def PySem.W.Fast.tw536759948725977849:Unit:=()
def PySem.W.Fast.tw16182897171745963331:Unit:=()
def PySem.W.Fast.tw12120300406630778198:Unit:=()
def PySem.W.Fast.tw12080800939194827971:Unit:=()
def PySem.W.Fast.tw4800433805782703053:Unit:=()
def PySem.W.Fast.tw18353051907736141136:Unit:=()
def PySem.W.Fast.tw11358262769600941147:Unit:=()
def PySem.W.Fast.tw1700599521390602638:Unit:=()
def PySem.W.Fast.tw13425374045811873556:Unit:=()
def PySem.W.Fast.tw1813966002349407537:Unit:=()
def PySem.W.Fast.tw5178951478425799409:Unit:=()
def PySem.W.Fast.tw14278043208142048599:Unit:=()
def PySem.W.Fast.tw10626936415304647401:Unit:=()
def PySem.W.Fast.tw6950462642382917335:Unit:=()
def PySem.W.Fast.tw13286491983110486595:Unit:=()
def PySem.W.Fast.tw10583303419460390641:Unit:=()
def PySem.W.Fast.tw15486303853865307535:Unit:=()
def PySem.W.Fast.tw9776517389156465399:Unit:=()
def PySem.W.Fast.tw6205154087210316432:Unit:=()
def PySem.W.Fast.tw2565367225593096677:Unit:=()
def PySem.W.Fast.tw14887325889205906819:Unit:=()
def PySem.W.Fast.tw7069535194591135221:Unit:=()
def PySem.W.Fast.tw15567942243968724113:Unit:=()
def PySem.W.Fast.tw426637011355814826:Unit:=()
def PySem.W.Fast.tw7487544660369853764:Unit:=()
def PySem.W.Fast.tw10472452698256085682:Unit:=()
def PySem.W.Fast.tw11615703308876553924:Unit:=()
def PySem.W.Fast.tw13505940594149654241:Unit:=()
def PySem.W.Fast.tw6858518111258361054:Unit:=()
def PySem.W.Fast.tw2858225436880670747:Unit:=()
def PySem.W.Fast.tw6279648801716033031:Unit:=()
def PySem.W.Fast.tw7664388163644296802:Unit:=()
def PySem.W.Fast.tw12427364480098554392:Unit:=()
def PySem.W.Fast.tw2080853178198667003:Unit:=()
def PySem.W.Fast.tw14427744000340810658:Unit:=()
def PySem.W.Fast.tw7046735943958356315:Unit:=()
def PySem.W.Fast.tw8232599838824822374:Unit:=()
def PySem.W.Fast.tw165515302843629758:Unit:=()
def PySem.W.Fast.tw9687648399082585613:Unit:=()
def PySem.W.Fast.tw15715320334594492559:Unit:=()
def PySem.W.Fast.tw7545585250165508511:Unit:=()
def PySem.W.Fast.tw18302858383868651906:Unit:=()
def PySem.W.Fast.tw15520026799887342991:Unit:=()
def PySem.W.Fast.tw13770906474398229688:Unit:=()
def PySem.W.Fast.tw13361695820875712766:Unit:=()
def PySem.W.Fast.tw5811962195597899746:Unit:=()
def PySem.W.Fast.tw1001088437841777168:Unit:=()
def PySem.W.Fast.tw13400817390082605687:Unit:=()
def PySem.W.Fast.tw15837784886156568483:Unit:=()
def PySem.W.Fast.tw1265742320838425415:Unit:=()
def PySem.W.Fast.tw16161913500400955669:Unit:=()
def PySem.W.Fast.tw4739007397155505256:Unit:=()
def PySem.W.Fast.tw7050731909112562010:Unit:=()
def PySem.W.Fast.tw10189514253535461789:Unit:=()
def PySem.W.Fast.tw2809446649937203189:Unit:=()
def PySem.W.Fast.tw12069705635136553988:Unit:=()
def PySem.W.Fast.tw13574852327321726191:Unit:=()
def PySem.W.Fast.tw5703007430089113571:Unit:=()
def PySem.W.Fast.tw13124924669489460788:Unit:=()
def PySem.W.Fast.tw14913636788033025100:Unit:=()
def PySem.W.Fast.tw13870425078410894096:Unit:=()
def PySem.W.Fast.tw13119622944225860217:Unit:=()
def PySem.W.Fast.tw12201194297319995321:Unit:=()
def PySem.W.Fast.tw3679986365311208385:Unit:=()
def PySem.W.Fast.tw2719021353235900692:Unit:=()
def PySem.W.Fast.tw16380099841970832937:Unit:=()
def PySem.W.Fast.tw12740541264157351104:Unit:=()
open PySem PySem.W PyProof.Rows
set_option maxRecDepth 100000 in
set_option maxHeartbeats 0 in
theorem PySem.Challenge.cw_phialhouse_k25_trees_holds : PySem.Challenge.rw_phialhouse_k25_trees.Holds := by
 w_on; o_law; k_head; (case hw=>w_witness2)
 k_fill
 refine K25.walk (l:=PySem.Challenge.rw_phialhouse_k25_trees) rfl rfl (fun w h Y=>PySem.W.kIn_of Y) ?F
 case F =>
  intro w mg fa h KX G hmg
  have dGcd:K25.Dn (L2.KOf KX) "common_divisor" K25.sGcd ["one","other"]:=by
   dsimp only [L2.KOf]
   refine' K25.Dn.mk' ?a ?l ?c ?k ?b
   (case a=>k_is); (case l=>k_is); (case c=>k_is); (case k=>k_is)
   (case b=>exact fun _ _ _ _ _ _ us hl=>match us,hl with | [_,_],_=>rfl)
  have dLow:K25.Dn (L2.KOf KX) "lowest_terms" K25.sLow ["top","bottom"]:=by
   dsimp only [L2.KOf]
   refine' K25.Dn.mk' ?a ?l ?c ?k ?b
   (case a=>k_is); (case l=>k_is); (case c=>k_is); (case k=>k_is)
   (case b=>exact fun _ _ _ _ _ _ us hl=>match us,hl with | [_,_],_=>rfl)
  have dPlus:K25.Dn (L2.KOf KX) "plus" K25.sPlus ["one","other"]:=by
   dsimp only [L2.KOf]
   refine' K25.Dn.mk' ?a ?l ?c ?k ?b
   (case a=>k_is); (case l=>k_is); (case c=>k_is); (case k=>k_is)
   (case b=>exact fun _ _ _ _ _ _ us hl=>match us,hl with | [_,_],_=>rfl)
  have dMinus:K25.Dn (L2.KOf KX) "minus" K25.sMinus ["one","other"]:=by
   dsimp only [L2.KOf]
   refine' K25.Dn.mk' ?a ?l ?c ?k ?b
   (case a=>k_is); (case l=>k_is); (case c=>k_is); (case k=>k_is)
   (case b=>exact fun _ _ _ _ _ _ us hl=>match us,hl with | [_,_],_=>rfl)
  have dTimes:K25.Dn (L2.KOf KX) "times" K25.sTimes ["one","other"]:=by
   dsimp only [L2.KOf]
   refine' K25.Dn.mk' ?a ?l ?c ?k ?b
   (case a=>k_is); (case l=>k_is); (case c=>k_is); (case k=>k_is)
   (case b=>exact fun _ _ _ _ _ _ us hl=>match us,hl with | [_,_],_=>rfl)
  have dOver:K25.Dn (L2.KOf KX) "over" K25.sOver ["one","other"]:=by
   dsimp only [L2.KOf]
   refine' K25.Dn.mk' ?a ?l ?c ?k ?b
   (case a=>k_is); (case l=>k_is); (case c=>k_is); (case k=>k_is)
   (case b=>exact fun _ _ _ _ _ _ us hl=>match us,hl with | [_,_],_=>rfl)
  have dLess:K25.Dn (L2.KOf KX) "less" K25.sLess ["one","other"]:=by
   dsimp only [L2.KOf]
   refine' K25.Dn.mk' ?a ?l ?c ?k ?b
   (case a=>k_is); (case l=>k_is); (case c=>k_is); (case k=>k_is)
   (case b=>exact fun _ _ _ _ _ _ us hl=>match us,hl with | [_,_],_=>rfl)
  have dWholeL:K25.Dn (L2.KOf KX) "whole" K25.sWholeL ["one"]:=by
   dsimp only [L2.KOf]
   refine' K25.Dn.mk' ?a ?l ?c ?k ?b
   (case a=>k_is); (case l=>k_is); (case c=>k_is); (case k=>k_is)
   (case b=>exact fun _ _ _ _ _ _ us hl=>match us,hl with | [_],_=>rfl)
  have dRowsOf:K25.Dn (L2.KOf KX) "rows_of" K25.sRowsOf ["book","name"]:=by
   dsimp only [L2.KOf]
   refine' K25.Dn.mk' ?a ?l ?c ?k ?b
   (case a=>k_is); (case l=>k_is); (case c=>k_is); (case k=>k_is)
   (case b=>exact fun _ _ _ _ _ _ us hl=>match us,hl with | [_,_],_=>rfl)
  have dShares:K25.Dn (L2.KOf KX) "shares" K25.sShares ["all_of_it","pairs"]:=by
   dsimp only [L2.KOf]
   refine' K25.Dn.mk' ?a ?l ?c ?k ?b
   (case a=>k_is); (case l=>k_is); (case c=>k_is); (case k=>k_is)
   (case b=>exact fun _ _ _ _ _ _ us hl=>match us,hl with | [_,_],_=>rfl)
  have dPutBy:K25.Dn (L2.KOf KX) "put_by" K25.sPutBy ["row","lies"]:=by
   dsimp only [L2.KOf]
   refine' K25.Dn.mk' ?a ?l ?c ?k ?b
   (case a=>k_is); (case l=>k_is); (case c=>k_is); (case k=>k_is)
   (case b=>exact fun _ _ _ _ _ _ us hl=>match us,hl with | [_,_],_=>rfl)
  have dPaw:K25.Dn (L2.KOf KX) "puts_as_written" K25.sPaw ["rows"]:=by
   dsimp only [L2.KOf]
   refine' K25.Dn.mk' ?a ?l ?c ?k ?b
   (case a=>k_is); (case l=>k_is); (case c=>k_is); (case k=>k_is)
   (case b=>exact fun _ _ _ _ _ _ us hl=>match us,hl with | [_],_=>rfl)
  have dBowl:K25.Dn (L2.KOf KX) "whole_bowl" K25.sBowl ["written"]:=by
   dsimp only [L2.KOf]
   refine' K25.Dn.mk' ?a ?l ?c ?k ?b
   (case a=>k_is); (case l=>k_is); (case c=>k_is); (case k=>k_is)
   (case b=>exact fun _ _ _ _ _ _ us hl=>match us,hl with | [_],_=>rfl)
  have dPuts:K25.Dn (L2.KOf KX) "puts" K25.sPuts ["book","recipe","asked"]:=by
   dsimp only [L2.KOf]
   refine' K25.Dn.mk' ?a ?l ?c ?k ?b
   (case a=>k_is); (case l=>k_is); (case c=>k_is); (case k=>k_is)
   (case b=>exact fun _ _ _ _ _ _ us hl=>match us,hl with | [_,_,_],_=>rfl)
  have dCell:K25.Dn (L2.KOf KX) "_law_cell_at" K25.sCell ["_law_script","_law_k"]:=by
   dsimp only [L2.KOf]
   refine' K25.Dn.mk' ?a ?l ?c ?k ?b
   (case a=>k_is); (case l=>k_is); (case c=>k_is); (case k=>k_is)
   (case b=>exact fun _ _ _ _ _ _ us hl=>match us,hl with | [_,_],_=>rfl)
  have dLeft:K25.Dn (L2.KOf KX) "_law_left" K25.sLeft ["_law_script","_law_k"]:=by
   dsimp only [L2.KOf]
   refine' K25.Dn.mk' ?a ?l ?c ?k ?b
   (case a=>k_is); (case l=>k_is); (case c=>k_is); (case k=>k_is)
   (case b=>exact fun _ _ _ _ _ _ us hl=>match us,hl with | [_,_],_=>rfl)
  have dNext:K25.Dn (L2.KOf KX) "_law_next" K25.sNext ["_law_left_here","_law_many"]:=by
   dsimp only [L2.KOf]
   refine' K25.Dn.mk' ?a ?l ?c ?k ?b
   (case a=>k_is); (case l=>k_is); (case c=>k_is); (case k=>k_is)
   (case b=>exact fun _ _ _ _ _ _ us hl=>match us,hl with | [_,_],_=>rfl)
  have dDiv:K25.Dn (L2.KOf KX) "_law_divisor" K25.sDiv ["_law_one","_law_other"]:=by
   dsimp only [L2.KOf]
   refine' K25.Dn.mk' ?a ?l ?c ?k ?b
   (case a=>k_is); (case l=>k_is); (case c=>k_is); (case k=>k_is)
   (case b=>exact fun _ _ _ _ _ _ us hl=>match us,hl with | [_,_],_=>rfl)
  have dLlow:K25.Dn (L2.KOf KX) "_law_low" K25.sLlow ["_law_top","_law_bottom"]:=by
   dsimp only [L2.KOf]
   refine' K25.Dn.mk' ?a ?l ?c ?k ?b
   (case a=>k_is); (case l=>k_is); (case c=>k_is); (case k=>k_is)
   (case b=>exact fun _ _ _ _ _ _ us hl=>match us,hl with | [_,_],_=>rfl)
  have dNames:K25.Dn (L2.KOf KX) "_law_names" K25.sNames ["_law_left_here","_law_many"]:=by
   dsimp only [L2.KOf]
   refine' K25.Dn.mk' ?a ?l ?c ?k ?b
   (case a=>k_is); (case l=>k_is); (case c=>k_is); (case k=>k_is)
   (case b=>exact fun _ _ _ _ _ _ us hl=>match us,hl with | [_,_],_=>rfl)
  have dSum:K25.Dn (L2.KOf KX) "_law_sum" K25.sSum ["_law_one","_law_other"]:=by
   dsimp only [L2.KOf]
   refine' K25.Dn.mk' ?a ?l ?c ?k ?b
   (case a=>k_is); (case l=>k_is); (case c=>k_is); (case k=>k_is)
   (case b=>exact fun _ _ _ _ _ _ us hl=>match us,hl with | [_,_],_=>rfl)
  have dAmount:K25.Dn (L2.KOf KX) "_law_amount" K25.sAmount ["_law_left_here","_law_at"]:=by
   dsimp only [L2.KOf]
   refine' K25.Dn.mk' ?a ?l ?c ?k ?b
   (case a=>k_is); (case l=>k_is); (case c=>k_is); (case k=>k_is)
   (case b=>exact fun _ _ _ _ _ _ us hl=>match us,hl with | [_,_],_=>rfl)
  have dParts:K25.Dn (L2.KOf KX) "_law_parts" K25.sParts ["_law_left_here","_law_at","_law_allowed"]:=by
   dsimp only [L2.KOf]
   refine' K25.Dn.mk' ?a ?l ?c ?k ?b
   (case a=>k_is); (case l=>k_is); (case c=>k_is); (case k=>k_is)
   (case b=>exact fun _ _ _ _ _ _ us hl=>match us,hl with | [_,_,_],_=>rfl)
  have dRow:K25.Dn (L2.KOf KX) "_law_row" K25.sRow ["_law_left_here","_law_at","_law_allowed","_law_lies"]:=by
   dsimp only [L2.KOf]
   refine' K25.Dn.mk' ?a ?l ?c ?k ?b
   (case a=>k_is); (case l=>k_is); (case c=>k_is); (case k=>k_is)
   (case b=>exact fun _ _ _ _ _ _ us hl=>match us,hl with | [_,_,_,_],_=>rfl)
  have dRaw:K25.Dn (L2.KOf KX) "_law_raw" K25.sRaw ["_law_rows"]:=by
   dsimp only [L2.KOf]
   refine' K25.Dn.mk' ?a ?l ?c ?k ?b
   (case a=>k_is); (case l=>k_is); (case c=>k_is); (case k=>k_is)
   (case b=>exact fun _ _ _ _ _ _ us hl=>match us,hl with | [_],_=>rfl)
  have dThings:K25.Dn (L2.KOf KX) "_law_things" K25.sThings ["_law_row_here"]:=by
   dsimp only [L2.KOf]
   refine' K25.Dn.mk' ?a ?l ?c ?k ?b
   (case a=>k_is); (case l=>k_is); (case c=>k_is); (case k=>k_is)
   (case b=>exact fun _ _ _ _ _ _ us hl=>match us,hl with | [_],_=>rfl)
  have dBelow:K25.Dn (L2.KOf KX) "_law_below" K25.sBelow ["_law_book_here","_law_name"]:=by
   dsimp only [L2.KOf]
   refine' K25.Dn.mk' ?a ?l ?c ?k ?b
   (case a=>k_is); (case l=>k_is); (case c=>k_is); (case k=>k_is)
   (case b=>exact fun _ _ _ _ _ _ us hl=>match us,hl with | [_,_],_=>rfl)
  have dReach:K25.Dn (L2.KOf KX) "_law_reach" K25.sReach ["_law_book_here"]:=by
   dsimp only [L2.KOf]
   refine' K25.Dn.mk' ?a ?l ?c ?k ?b
   (case a=>k_is); (case l=>k_is); (case c=>k_is); (case k=>k_is)
   (case b=>exact fun _ _ _ _ _ _ us hl=>match us,hl with | [_],_=>rfl)
  have dOrder:K25.Dn (L2.KOf KX) "_law_order" K25.sOrder ["_law_book_here"]:=by
   dsimp only [L2.KOf]
   refine' K25.Dn.mk' ?a ?l ?c ?k ?b
   (case a=>k_is); (case l=>k_is); (case c=>k_is); (case k=>k_is)
   (case b=>exact fun _ _ _ _ _ _ us hl=>match us,hl with | [_],_=>rfl)
  have dLower:K25.Dn (L2.KOf KX) "_law_lower" K25.sLower ["_law_recipes_here","_law_j","_law_turn"]:=by
   dsimp only [L2.KOf]
   refine' K25.Dn.mk' ?a ?l ?c ?k ?b
   (case a=>k_is); (case l=>k_is); (case c=>k_is); (case k=>k_is)
   (case b=>exact fun _ _ _ _ _ _ us hl=>match us,hl with | [_,_,_],_=>rfl)
  have dRecipes:K25.Dn (L2.KOf KX) "_law_recipes" K25.sRecipes ["_law_script","_law_wares","_law_recipes_here","_law_turn"]:=by
   dsimp only [L2.KOf]
   refine' K25.Dn.mk' ?a ?l ?c ?k ?b
   (case a=>k_is); (case l=>k_is); (case c=>k_is); (case k=>k_is)
   (case b=>exact fun _ _ _ _ _ _ us hl=>match us,hl with | [_,_,_,_],_=>rfl)
  have dBook:K25.Dn (L2.KOf KX) "_law_book" K25.sBook ["_law_script"]:=by
   dsimp only [L2.KOf]
   refine' K25.Dn.mk' ?a ?l ?c ?k ?b
   (case a=>k_is); (case l=>k_is); (case c=>k_is); (case k=>k_is)
   (case b=>exact fun _ _ _ _ _ _ us hl=>match us,hl with | [_],_=>rfl)
  have dWhole:K25.Dn (L2.KOf KX) "_law_whole" K25.sWhole ["_law_found"]:=by
   dsimp only [L2.KOf]
   refine' K25.Dn.mk' ?a ?l ?c ?k ?b
   (case a=>k_is); (case l=>k_is); (case c=>k_is); (case k=>k_is)
   (case b=>exact fun _ _ _ _ _ _ us hl=>match us,hl with | [_],_=>rfl)
  have dIsAm:K25.Dn (L2.KOf KX) "_law_is_amount" K25.sIsAm ["_law_found"]:=by
   dsimp only [L2.KOf]
   refine' K25.Dn.mk' ?a ?l ?c ?k ?b
   (case a=>k_is); (case l=>k_is); (case c=>k_is); (case k=>k_is)
   (case b=>exact fun _ _ _ _ _ _ us hl=>match us,hl with | [_],_=>rfl)
  have dThin:K25.Dn (L2.KOf KX) "things_in" K25.sThin ["row"]:=by
   dsimp only [L2.KOf]
   refine' K25.Dn.mk' ?a ?l ?c ?k ?b
   (case a=>k_is); (case l=>k_is); (case c=>k_is); (case k=>k_is)
   (case b=>exact fun _ _ _ _ _ _ us hl=>match us,hl with | [_],_=>rfl)
  have dThof:K25.Dn (L2.KOf KX) "things_of" K25.sThof ["book","name"]:=by
   dsimp only [L2.KOf]
   refine' K25.Dn.mk' ?a ?l ?c ?k ?b
   (case a=>k_is); (case l=>k_is); (case c=>k_is); (case k=>k_is)
   (case b=>exact fun _ _ _ _ _ _ us hl=>match us,hl with | [_,_],_=>rfl)
  have dRnm:K25.Dn (L2.KOf KX) "recipe_names" K25.sRnm ["book"]:=by
   dsimp only [L2.KOf]
   refine' K25.Dn.mk' ?a ?l ?c ?k ?b
   (case a=>k_is); (case l=>k_is); (case c=>k_is); (case k=>k_is)
   (case b=>exact fun _ _ _ _ _ _ us hl=>match us,hl with | [_],_=>rfl)
  have dOof:K25.Dn (L2.KOf KX) "order_of" K25.sOof ["book"]:=by
   dsimp only [L2.KOf]
   refine' K25.Dn.mk' ?a ?l ?c ?k ?b
   (case a=>k_is); (case l=>k_is); (case c=>k_is); (case k=>k_is)
   (case b=>exact fun _ _ _ _ _ _ us hl=>match us,hl with | [_],_=>rfl)
  have dReady:K25.Dn (L2.KOf KX) "first_ready" K25.sReady ["book","order"]:=by
   dsimp only [L2.KOf]
   refine' K25.Dn.mk' ?a ?l ?c ?k ?b
   (case a=>k_is); (case l=>k_is); (case c=>k_is); (case k=>k_is)
   (case b=>exact fun _ _ _ _ _ _ us hl=>match us,hl with | [_,_],_=>rfl)
  have dSizeOf:K25.Dn (L2.KOf KX) "size_of" K25.sSizeOf ["book","thing"]:=by
   dsimp only [L2.KOf]
   refine' K25.Dn.mk' ?a ?l ?c ?k ?b
   (case a=>k_is); (case l=>k_is); (case c=>k_is); (case k=>k_is)
   (case b=>exact fun _ _ _ _ _ _ us hl=>match us,hl with | [_,_],_=>rfl)
  have dGrown:K25.Dn (L2.KOf KX) "grown" K25.sGrown ["book","thing","asked"]:=by
   dsimp only [L2.KOf]
   refine' K25.Dn.mk' ?a ?l ?c ?k ?b
   (case a=>k_is); (case l=>k_is); (case c=>k_is); (case k=>k_is)
   (case b=>exact fun _ _ _ _ _ _ us hl=>match us,hl with | [_,_,_],_=>rfl)
  have dLeaves:K25.Dn (L2.KOf KX) "leaves" K25.sLeaves ["one"]:=by
   dsimp only [L2.KOf]
   refine' K25.Dn.mk' ?a ?l ?c ?k ?b
   (case a=>k_is); (case l=>k_is); (case c=>k_is); (case k=>k_is)
   (case b=>exact fun _ _ _ _ _ _ us hl=>match us,hl with | [_],_=>rfl)
  have dLputs:K25.Dn (L2.KOf KX) "_law_puts" K25.sLputs ["_law_rows","_law_asked_here"]:=by
   dsimp only [L2.KOf]
   refine' K25.Dn.mk' ?a ?l ?c ?k ?b
   (case a=>k_is); (case l=>k_is); (case c=>k_is); (case k=>k_is)
   (case b=>exact fun _ _ _ _ _ _ us hl=>match us,hl with | [_,_],_=>rfl)
  have dKind:K25.Dn (L2.KOf KX) "_law_kind" K25.sKind ["_law_e"]:=by
   dsimp only [L2.KOf]
   refine' K25.Dn.mk' ?a ?l ?c ?k ?b
   (case a=>k_is); (case l=>k_is); (case c=>k_is); (case k=>k_is)
   (case b=>exact fun _ _ _ _ _ _ us hl=>match us,hl with | [_],_=>rfl)
  have dAsked:K25.Dn (L2.KOf KX) "_law_asked" K25.sAsked ["_law_left_here"]:=by
   dsimp only [L2.KOf]
   refine' K25.Dn.mk' ?a ?l ?c ?k ?b
   (case a=>k_is); (case l=>k_is); (case c=>k_is); (case k=>k_is)
   (case b=>exact fun _ _ _ _ _ _ us hl=>match us,hl with | [_],_=>rfl)
  have dSizes:K25.Dn (L2.KOf KX) "_law_sizes" K25.sSizes ["_law_book_here"]:=by
   dsimp only [L2.KOf]
   refine' K25.Dn.mk' ?a ?l ?c ?k ?b
   (case a=>k_is); (case l=>k_is); (case c=>k_is); (case k=>k_is)
   (case b=>exact fun _ _ _ _ _ _ us hl=>match us,hl with | [_],_=>rfl)
  have dWalked:K25.Dn (L2.KOf KX) "_law_walked" K25.sWalked ["_law_book_here","_law_found","_law_thing","_law_asked_here"]:=by
   dsimp only [L2.KOf]
   refine' K25.Dn.mk' ?a ?l ?c ?k ?b
   (case a=>k_is); (case l=>k_is); (case c=>k_is); (case k=>k_is)
   (case b=>exact fun _ _ _ _ _ _ us hl=>match us,hl with | [_,_,_,_],_=>rfl)
  have dRefused:K25.Dn (L2.KOf KX) "_law_refused" K25.sRefused ["_law_book_here","_law_thing","_law_asked_here","_law_ceiling","_law_size"]:=by
   dsimp only [L2.KOf]
   refine' K25.Dn.mk' ?a ?l ?c ?k ?b
   (case a=>k_is); (case l=>k_is); (case c=>k_is); (case k=>k_is)
   (case b=>exact fun _ _ _ _ _ _ us hl=>match us,hl with | [_,_,_,_,_],_=>rfl)
  have dRight:K25.Dn (L2.KOf KX) "_law_right" K25.sRight ["_law_book_here","_law_thing","_law_asked_here","_law_ceiling","_law_size"]:=by
   dsimp only [L2.KOf]
   refine' K25.Dn.mk' ?a ?l ?c ?k ?b
   (case a=>k_is); (case l=>k_is); (case c=>k_is); (case k=>k_is)
   (case b=>exact fun _ _ _ _ _ _ us hl=>match us,hl with | [_,_,_,_,_],_=>rfl)
  have dGreat:K25.Dn (L2.KOf KX) "_law_great" K25.sGreat ["_law_last"]:=by
   dsimp only [L2.KOf]
   refine' K25.Dn.mk' ?a ?l ?c ?k ?b
   (case a=>k_is); (case l=>k_is); (case c=>k_is); (case k=>k_is)
   (case b=>exact fun _ _ _ _ _ _ us hl=>match us,hl with | [_],_=>rfl)
  have dBound:K25.Dn (L2.KOf KX) "_law_at_the_bound" K25.sBound []:=by
   dsimp only [L2.KOf]
   refine' K25.Dn.mk' ?a ?l ?c ?k ?b
   (case a=>k_is); (case l=>k_is); (case c=>k_is); (case k=>k_is)
   (case b=>exact fun _ _ _ _ _ _ us hl=>match us,hl with | [],_=>rfl)
  have z0:PySem.W.nsIn (L2.KOf KX) mainGlobals "isinstance" = some none:=by
   dsimp only [L2.KOf]
   k_is
  have z1:PySem.W.nsIn (L2.KOf KX) mainGlobals "int" = some none:=by
   dsimp only [L2.KOf]
   k_is
  have z2:PySem.W.nsIn (L2.KOf KX) mainGlobals "bool" = some none:=by
   dsimp only [L2.KOf]
   k_is
  have z3:PySem.W.nsIn (L2.KOf KX) mainGlobals "tuple" = some none:=by
   dsimp only [L2.KOf]
   k_is
  have z4:PySem.W.nsIn (L2.KOf KX) mainGlobals "len" = some none:=by
   dsimp only [L2.KOf]
   k_is
  have z5:PySem.W.nsIn (L2.KOf KX) mainGlobals "range" = some none:=by
   dsimp only [L2.KOf]
   k_is
  have z6:PySem.W.nsIn (L2.KOf KX) mainGlobals "min" = some none:=by
   dsimp only [L2.KOf]
   k_is
  have z7:PySem.W.nsIn (L2.KOf KX) mainGlobals "str" = some none:=by
   dsimp only [L2.KOf]
   k_is
  have z8:PySem.W.nsIn (L2.KOf KX) mainGlobals "abs" = some none:=by
   dsimp only [L2.KOf]
   k_is
  have z9:PySem.W.nsIn (L2.KOf KX) mainGlobals "list" = some none:=by
   dsimp only [L2.KOf]
   k_is
  have z10:PySem.W.nsIn (L2.KOf KX) mainGlobals "sum" = some none:=by
   dsimp only [L2.KOf]
   k_is
  have z11:PySem.W.nsIn (L2.KOf KX) mainGlobals "zip" = some none:=by
   dsimp only [L2.KOf]
   k_is
  have z12:PySem.W.nsIn (L2.KOf KX) mainGlobals "enumerate" = some none:=by
   dsimp only [L2.KOf]
   k_is
  have z13:PySem.W.nsIn (L2.KOf KX) mainGlobals "all" = some none:=by
   dsimp only [L2.KOf]
   k_is
  have z14:PySem.W.nsIn (L2.KOf KX) mainGlobals "sorted" = some none:=by
   dsimp only [L2.KOf]
   k_is
  have z15:PySem.W.nsIn (L2.KOf KX) mainGlobals "reversed" = some none:=by
   dsimp only [L2.KOf]
   k_is
  have z16:PySem.W.nsIn (L2.KOf KX) mainGlobals "dict" = some none:=by
   dsimp only [L2.KOf]
   k_is
  have nou : ∃ aN:Addr,K25.NouK (L2.KOf KX) aN:=by
   dsimp only [L2.KOf]
   refine' K25.NouK.mk' ?a ?l
   (case a=>k_is); (case l=>k_is)
  have tr:K25.TrK (L2.KOf KX):=by
   dsimp only [L2.KOf]
   refine' K25.TrK.mk' ?a ?l ?c ?k ?d
   (case a=>k_is); (case l=>k_is); (case c=>k_is); (case k=>k_is); (case d=>k_is)
  have err : ∃ cP c0 c1 c2 c3 c4 c5 c6 c7 c8 fI:Addr,K25.ErNK (L2.KOf KX) cP c0 c1 c2 c3 c4 c5 c6 c7 c8 fI:=by
   dsimp only [L2.KOf]
   refine' K25.err_mk ?mP ?m0 ?m1 ?m2 ?m3 ?m4 ?m5 ?m6 ?m7 ?m8 ?lk ?ni ⟨⟨?xi,?xf,?xk,⟨?x1,?x2,?x3,?x4,?x5,?x6⟩⟩,?sa,?nn⟩ ⟨?y1,?y2,?y3⟩ ?s ⟨?b1,?b2,?b3⟩ ?iP ?iV ?i0 ?i1 ?i2 ?i3 ?i4 ?i5 ?i6 ?i7 ?i8 (K25.fnI_mk ?l ?c ?k)
   (case mP=>k_is); (case m0=>k_is); (case m1=>k_is); (case m2=>k_is); (case m3=>k_is); (case m4=>k_is); (case m5=>k_is); (case m6=>k_is); (case m7=>k_is); (case m8=>k_is)
   (case lk=>k_is); (case ni=>k_is); (case xi=>first | kernel_rfl | rfl); (case xf=>k_is); (case xk=>k_is)
   (case x1=>k_is); (case x2=>k_is); (case x3=>k_is); (case x4=>k_is); (case x5=>k_is); (case x6=>(show PySem.W.isClsIn _ _=true; k_is)); (case sa=>k_is); (case nn=>k_is)
   (case y1=>k_is); (case y2=>(show PySem.W.isClsIn _ _=true; k_is)); (case y3=>k_is); (case s=>k_is); (case b1=>k_is); (case b2=>k_is); (case b3=>k_is); (case iP=>kit_is); (case iV=>kit_is)
   (case i0=>kit_is); (case i1=>kit_is); (case i2=>kit_is); (case i3=>kit_is); (case i4=>kit_is); (case i5=>kit_is); (case i6=>kit_is); (case i7=>kit_is); (case i8=>kit_is)
   (case l=>k_is); (case c=>k_is); (case k=>k_is)
  have vl:PySem.W.nsIn (L2.KOf KX) mainGlobals "ValueError" = some none:=by
   dsimp only [L2.KOf]
   k_is
  refine' K25.all_mk KX G hmg ⟨dGcd,dLow,dPlus,dMinus,dTimes,dOver,dLess,dWholeL,dRowsOf,dShares,dPutBy,dPaw,dBowl,dPuts,dCell,dLeft,dNext,dDiv,dLlow,dNames,dSum,dAmount,dParts,dRow,dRaw,dThings,dBelow,dReach,dOrder,dLower,dRecipes,dBook,dWhole,dIsAm,dThin,dThof,dRnm,dOof,dReady,dSizeOf,dGrown,dLeaves,dLputs,dKind,dAsked,dSizes,dWalked,dRefused,dRight,dGreat,dBound,z0,z1,z2,z3,z4,z5,z6,z7,z8,z9,z10,z11,z12,z13,z14,z15,z16,nou,tr,err,vl⟩ ?a4 ?l4 ?c4 ?k4
  (case a4=>k_is); (case l4=>k_is); (case c4=>k_is); (case k4=>k_is)
