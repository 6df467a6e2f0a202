import PyProof.Rows.All
import Wide.All
import OpenK.AllK
import Wide.FinOn
import Lean
import PyProof.EqAt
import PyProof.EqKinds
import PyProof.TupleCall
import PySem.Challenge.RW_phialhouse_k17_wares_and_meetings
set_option Elab.async false
set_option linter.all false
set_option maxRecDepth 100000
set_option maxHeartbeats 4000000
namespace L2
open PySem PySem.Spec PyProof.Rows
abbrev Key:=Sum Int Str
def keyIs:Key->Value->Bool
 | .inl k,v=>Value.isInt k v
 | .inr x,v=>Value.isStrOf x v
def keyH (w:World):Key->Int
 | .inl k=>hashInt k
 | .inr x=>hashStr w x
theorem keyIs_shape : ∀ {k:Key} {v:Value},keyIs k v=true->(∃ i t,k=Sum.inl i/\v=Value.int i t)\/(∃ x t,k=Sum.inr x/\v=Value.str x t)
 | .inl i,v,h=>by
  obtain ⟨t,e⟩:=Value.isInt_shape (k:=i) (v:=v) h
  exact .inl ⟨i,t,rfl,e⟩
 | .inr x,v,h=>by
  obtain ⟨t,e⟩:=Value.isStrOf_shape (x:=x) (v:=v) h
  exact .inr ⟨x,t,rfl,e⟩
theorem keyIs_int (i:Int)(t:Tok):keyIs (.inl i) (.int i t)=true:=by simp [keyIs,Value.isInt]
theorem keyIs_str (x:Str)(t:Tok):keyIs (.inr x) (.str x t)=true:=by simp [keyIs,Value.isStrOf]
theorem key_ll (a b:Int):decide ((Sum.inl a:Key)=Sum.inl b)=(a == b):=by
 by_cases e:a=b
 ·subst e; simp
 ·have h : ¬ (Sum.inl a:Key)=Sum.inl b:=fun q=>e (Sum.inl.inj q)
  rw [decide_eq_false h]
  exact (beq_eq_false_iff_ne.mpr e).symm
theorem key_rr (a b:Str):decide ((Sum.inr a:Key)=Sum.inr b)=decide (a=b):=by
 by_cases e:a=b
 ·subst e; simp
 ·have h : ¬ (Sum.inr a:Key)=Sum.inr b:=fun q=>e (Sum.inr.inj q)
  rw [decide_eq_false h,decide_eq_false e]
theorem key_lr (a:Int)(b:Str):decide ((Sum.inl a:Key)=Sum.inr b)=false:=decide_eq_false (fun q=>nomatch q)
theorem key_rl (a:Str)(b:Int):decide ((Sum.inr a:Key)=Sum.inl b)=false:=decide_eq_false (fun q=>nomatch q)
def mixKind (prog:Program)(w:World):PySem.KeyKind prog w Key where
 is:=keyIs
 hash:=keyH w
 inj:=fun v a b ha hb=>by
  rcases keyIs_shape ha with ⟨i,t,rfl,rfl⟩ | ⟨x,t,rfl,rfl⟩
  ·rcases keyIs_shape hb with ⟨j,u,rfl,e⟩ | ⟨y,u,rfl,e⟩
   ·injection e with e1 _; rw [e1]
   ·exact nomatch e
  ·rcases keyIs_shape hb with ⟨j,u,rfl,e⟩ | ⟨y,u,rfl,e⟩
   ·exact nomatch e
   ·injection e with e1 _; rw [e1]
 byValue:=fun k v h=>by
  rcases keyIs_shape h with ⟨i,t,rfl,rfl⟩ | ⟨x,t,rfl,rfl⟩ <;> rfl
 pyHash:=fun hv h=>by
  rcases keyIs_shape hv with ⟨i,t,rfl,rfl⟩ | ⟨x,t,rfl,rfl⟩
  ·exact wpAny_pyHash_int h
  ·exact wpAny_pyHash_str h
 eqBool:=fun hu hv h=>by
  rcases keyIs_shape hu with ⟨i,t,rfl,rfl⟩ | ⟨x,t,rfl,rfl⟩
  ·rcases keyIs_shape hv with ⟨j,u,rfl,rfl⟩ | ⟨y,u,rfl,rfl⟩
   ·rw [key_ll] at h; exact wpAny_eqBool_int h
   ·rw [key_lr] at h; exact SeqAt.EqAt.int_str i t y u _ _ _ _ h
  ·rcases keyIs_shape hv with ⟨j,u,rfl,rfl⟩ | ⟨y,u,rfl,rfl⟩
   ·rw [key_rl] at h; exact SeqAt.EqAt.str_int x t j u _ _ _ _ h
   ·rw [key_rr] at h; exact wpAny_eqBool_str h
 «strs» := fun k x t v h=>by
  rcases keyIs_shape h with ⟨i,u,rfl,e⟩ | ⟨y,u,rfl,e⟩
  ·exact nomatch e
  ·injection e with e1 _
   subst e1
   cases v <;> rfl
theorem mixKind_int (prog:Program)(w:World)(i:Int)(t:Tok):(mixKind prog w).is (.inl i) (.int i t)=true:=keyIs_int i t
theorem mixKind_str (prog:Program)(w:World)(x:Str)(t:Tok):(mixKind prog w).is (.inr x) (.str x t)=true:=keyIs_str x t
end L2
namespace L2
open PySem PySem.Spec PyProof.Rows
inductive V where
 | non | bl (b:Bool) | int (i:Int) | str (x:Str) | byt (b:Array UInt8) | flt (b:UInt64) | ref (a:Addr) | ty (n:String)
 deriving DecidableEq
def RelV:V->Value->Prop
 | .non,u=>u=Value.none
 | .bl b,u=>u=Value.bool b
 | .int i,u=>∃ t,u=Value.int i t
 | .str x,u=>∃ t,u=Value.str x t
 | .byt b,u=>∃ t,u=Value.bytes b t
 | .flt b,u=>∃ t,u=Value.float b t
 | .ref a,u=>u=Value.ref a
 | .ty n,u=>u=Value.type n
abbrev Vals:List V->List Value->Prop:=Paired RelV
theorem Vals.length {xs:List V}{us:List Value}(r:Vals xs us):xs.length=us.length:=Paired.length r
theorem Vals.get : ∀ {xs:List V} {us:List Value} {i:Nat} {x:V},Vals xs us->xs[i]?=some x->∃ u,us[i]?=some u/\RelV x u
 | _,_,_,_,.nil,e=>by simp at e
 | _,_,0,_,.cons r _,e=>by simp at e; subst e; exact ⟨_,rfl,r⟩
 | _,_,i+1,x,.cons _ t,e=>by
  obtain ⟨u,h1,h2⟩:=Vals.get (i:=i) (x:=x) t (by simpa using e)
  exact ⟨u,by simpa using h1,h2⟩
theorem Vals.set {x:V}{u:Value}(r:RelV x u) : ∀ {xs:List V} {us:List Value} (i:Nat),Vals xs us->Vals (xs.set i x) (us.set i u)
 | _,_,_,.nil=>.nil
 | _,_,0,.cons _ t=>.cons r t
 | _,_,i+1,.cons q t=>.cons q (Vals.set r i t)
theorem Vals.append : ∀ {xs ys:List V} {us ws:List Value},Vals xs us->Vals ys ws->Vals (xs ++ ys) (us ++ ws)
 | _,_,_,_,.nil,s=>s
 | _,_,_,_,.cons r t,s=>.cons r (Vals.append t s)
theorem Vals.take : ∀ {xs:List V} {us:List Value} (n:Nat),Vals xs us->Vals (xs.take n) (us.take n)
 | _,_,0,_=>.nil
 | _,_,_+1,.nil=>.nil
 | _,_,n+1,.cons r t=>.cons r (Vals.take n t)
theorem Vals.drop : ∀ {xs:List V} {us:List Value} (n:Nat),Vals xs us->Vals (xs.drop n) (us.drop n)
 | _,_,0,r=>r
 | _,_,_+1,.nil=>.nil
 | _,_,n+1,.cons _ t=>Vals.drop n t
def RelO:Option V->Option Value->Prop
 | some v,some u=>RelV v u
 | none,none=>True
 | _,_=>False
def KV {κ:Type}:List (κ × V)->List (κ × Value)->Prop:=Paired fun (p:κ × V) (q:κ × Value)=>p.1=q.1/\RelV p.2 q.2
def kV:Key->V
 | .inl i=>.int i
 | .inr x=>.str x
inductive HO where
 | lst (xs:List V)
 | tup (xs:List V)
 | dK (kvs:List (Key × V)) | dT (kvs:List (List Key × V))
 | set (S:Int->Bool) (n:Nat)
 | ins (C dx:Addr) (fs:List (Str × V))
 | own (x:Addr)
 | xd (fs:List (Str × V))
 | met (f x:Addr)
 | rng (lo hi:Int)
 | frz (o:Obj) (u:HO)
 | tbl (ps:Array Value)
 | ext (φ:Heap->Prop)
abbrev Hp:=Addr->Option HO
def upd (H:Hp)(a:Addr)(o:HO):Hp:=fun b=>if b=a then some o else H b
theorem upd_same {H:Hp}{a:Addr}{o:HO}:upd H a o a=some o:=by unfold upd; rw [if_pos rfl]
theorem upd_ne {H:Hp}{a b:Addr}{o:HO}(h:b ≠ a):upd H a o b=H b:=by unfold upd; rw [if_neg h]
theorem ne_of {H:Hp}{a b:Addr}{o u:HO}(h:H a=some o)(h':H b=some u)(d:o ≠ u):a ≠ b:=by
 intro e; subst e; rw [h] at h'; exact d (Option.some.inj h')
theorem ne_of_none {H:Hp}{a b:Addr}{o:HO}(h:H a=some o)(h':H b=none):a ≠ b:=by
 intro e; subst e; rw [h] at h'; cases h'
section
variable (P:Program)(w:World)
def ObjOk (H:Hp)(h:Heap)(a:Addr):HO->Prop
 | .lst xs=>xs.length<=sizeLine/\∃ (its:List Value) (n:Nat),Vals xs its/\h.get? a=some { cls:=.type "list",data:=.seq its.toArray n }
 | .tup xs=>xs.length<=sizeLine/\∃ its:List Value,Vals xs its/\IsTup h a its.toArray
 | .dK kvs=>kvs.length<=sizeLine/\(a == sysModules)=false/\∃ vs,KV kvs vs/\h.DictOf (mixKind P w) a vs
 | .dT kvs=>kvs.length<=sizeLine/\(a == sysModules)=false/\∃ xs:List (List Key × Addr × Value),
   Paired (fun (p:List Key × V) (q:List Key × Addr × Value)=>p.1=q.1/\H q.2.1=some (.tup (p.1.map kV))/\RelV p.2 q.2.2) kvs xs /\
   ∃ o es ep,h.get? a=some o/\o.ExactDict/\o.data = .dict es ep/\es.toList=xs.map (entryOfKey (tupleKind (mixKind P w)))/\(xs.map (·.1)).Nodup
 | .set S n=>h.SetOf (intKind P w) a S n
 | .ins C dx fs=>H dx=some (.own a)/\fs.length<=1000/\dx ≠ a/\h.get? a=some (PySem.W.instObj C dx) /\
   ∃ mA,h.Ns1 dx mA/\(∀ f,RelO (fs.lookup f) (mA f))/\PySem.Within mA (fs.map (·.1))
 | .own _=>∃ o,h.get? a=some o
 | .xd fs=>∃ mA,h.Ns1 a mA/\∀ f,RelO (fs.lookup f) (mA f)
 | .rng lo hi=>∃ t u v,h.get? a=some { cls:=.type "range",data:=.fields #[.int lo t,.int hi u,.int 1 v] }
 | .frz o u=>h.get? a=some o/\ObjOk H h a u
 | .tbl ps=>h.get? a=some { cls:=.none,data:=.fields ps }
 | .met f x=>h.get? a=some (PySem.W.methodObj (.ref f) (.ref x))
 | .ext φ=>φ h/\(∃ o,h.get? a=some o)/\∀ h1 h2:Heap,φ h1->(∀ o,h1.get? a=some o->h2.get? a=some o)->φ h2
def HOk (H:Hp)(h:Heap):Prop:=∀ a o,H a=some o->ObjOk P w H h a o
end
section
variable {P:Program}{w:World}{H H':Hp}{h h':Heap}{a:Addr}{o:HO}
theorem ObjOk.lt (x:ObjOk P w H h a o):a < h.objs.size:=by
 cases o with
 | lst xs=>obtain ⟨_,_,_,_,e⟩:=x; exact Heap.lt_size e
 | tup xs=>obtain ⟨_,_,_,p⟩:=x; exact p.lt
 | dK kvs=>obtain ⟨_,_,_,_,o,_,_,e,_⟩:=x; exact Heap.lt_size e
 | dT kvs=>obtain ⟨_,_,_,_,o,_,_,e,_⟩:=x; exact Heap.lt_size e
 | set S n=>obtain ⟨o,_,_,_,e,_⟩:=x; exact Heap.lt_size e
 | ins C dx fs=>obtain ⟨_,_,_,e,_⟩:=x; exact Heap.lt_size e
 | own y=>obtain ⟨_,e⟩:=x; exact Heap.lt_size e
 | xd fs=>obtain ⟨_,⟨_,_,_,e,_⟩,_⟩:=x; exact Heap.lt_size e
 | rng lo hi=>obtain ⟨_,_,_,e⟩:=x; exact Heap.lt_size e
 | frz ob u=>obtain ⟨e,_⟩:=x; exact Heap.lt_size e
 | tbl ps=>exact Heap.lt_size (show h.get? a=some _ from x)
 | met f y=>exact Heap.lt_size (show h.get? a=some _ from x)
 | ext φ=>obtain ⟨_,⟨_,e⟩,_⟩:=x; exact Heap.lt_size e
theorem Paired.mapP {α β:Type}{F G:α->β->Prop} : ∀ {l₁:List α} {l₂:List β},Paired F l₁ l₂->(∀ a b,F a b->G a b)->Paired G l₁ l₂
 | _,_,.nil,_=>.nil
 | _,_,.cons r t,f=>.cons (f _ _ r) (Paired.mapP t f)
theorem ObjOk.stay (x:ObjOk P w H h a o)(k : ∀ b u,(b=a\/H b=some (.own a))->h.get? b=some u->h'.get? b=some u)
  (ho : ∀ b,H b=some (.own a)->H' b=some (.own a)) (ht : ∀ b xs,H b=some (.tup xs)->H' b=some (.tup xs)):ObjOk P w H' h' a o:=by
 induction o with
 | lst xs=>obtain ⟨z,its,n,r,e⟩:=x; exact ⟨z,its,n,r,k _ _ (.inl rfl) e⟩
 | tup xs=>obtain ⟨z,its,r,ob,e,c⟩:=x; exact ⟨z,its,r,ob,k _ _ (.inl rfl) e,c⟩
 | dK kvs=>obtain ⟨z,y,vs,r,ob,es,ep,e,c⟩:=x; exact ⟨z,y,vs,r,ob,es,ep,k _ _ (.inl rfl) e,c⟩
 | dT kvs =>
  obtain ⟨z,y,xs,r,ob,es,ep,e,c⟩:=x
  exact ⟨z,y,xs,Paired.mapP r fun p q z=>⟨z.1,ht _ _ z.2.1,z.2.2⟩,ob,es,ep,k _ _ (.inl rfl) e,c⟩
 | set S n=>obtain ⟨ob,es,ep,t,e,c⟩:=x; exact ⟨ob,es,ep,t,k _ _ (.inl rfl) e,c⟩
 | ins C dx fs =>
  obtain ⟨d,z,ne,e,mA,⟨od,es,ep,e2,c⟩,r⟩:=x
  exact ⟨ho _ d,z,ne,k _ _ (.inl rfl) e,mA,⟨od,es,ep,k _ _ (.inr d) e2,c⟩,r⟩
 | own y=>obtain ⟨ob,e⟩:=x; exact ⟨ob,k _ _ (.inl rfl) e⟩
 | xd fs=>obtain ⟨mA,⟨od,es,ep,e,c⟩,r⟩:=x; exact ⟨mA,⟨od,es,ep,k _ _ (.inl rfl) e,c⟩,r⟩
 | rng lo hi=>obtain ⟨t,u,v,e⟩:=x; exact ⟨t,u,v,k _ _ (.inl rfl) e⟩
 | frz ob u ih=>obtain ⟨e,q⟩:=x; exact ⟨k _ _ (.inl rfl) e,ih q⟩
 | tbl ps =>
  have e:h.get? a=some { cls:=.none,data:=.fields ps }:=x
  show h'.get? a=some { cls:=.none,data:=.fields ps }
  exact k a _ (.inl rfl) e
 | met f y =>
  have e:h.get? a=some (PySem.W.methodObj (.ref f) (.ref y)):=x
  show h'.get? a=some (PySem.W.methodObj (.ref f) (.ref y))
  exact k a _ (.inl rfl) e
 | ext φ=>obtain ⟨p,⟨o,e⟩,st⟩:=x; exact ⟨st _ _ p fun o q=>k _ _ (.inl rfl) q,⟨o,k _ _ (.inl rfl) e⟩,st⟩
theorem HOk.lt (x:HOk P w H h)(e:H a=some o):a < h.objs.size:=(x a o e).lt
theorem HOk.fresh (x:HOk P w H h)(e:h.objs.size<=a):H a=none:=by
 cases q:H a with
 | none=>rfl
 | some u=>exact absurd (Nat.lt_of_lt_of_le (x.lt q) e) (Nat.lt_irrefl _)
theorem HOk.kept (x:HOk P w H h)(k : ∀ b u,h.get? b=some u->h'.get? b=some u):HOk P w H h':=fun a o e =>
 (x a o e).stay (fun b u _ q=>k b u q) (fun _ q=>q) fun _ _ q=>q
theorem HOk.laid (x:HOk P w H h)(k : ∀ b u,h.get? b=some u->h'.get? b=some u)(hp:h.objs.size<=a)(new:ObjOk P w (upd H a o) h' a o):HOk P w (upd H a o) h':=fun b u e=>by
 have hn:=x.fresh hp
 by_cases hb:b=a
 ·subst hb; rw [upd_same] at e; cases e; exact new
 ·rw [upd_ne hb] at e
  exact (x b u e).stay (fun c v _ q=>k c v q) (fun c q=>by rw [upd_ne (ne_of_none q hn)]; exact q) fun c xs q=>by rw [upd_ne (ne_of_none q hn)]; exact q
end
def Rd (H:Hp)(a:Addr)(u:HO):Prop:=H a=some u\/∃ o,H a=some (.frz o u)
theorem Rd.ok {P:Program}{w:World}{H:Hp}{h:Heap}{a:Addr}{u:HO}(r:Rd H a u)(x:HOk P w H h):ObjOk P w H h a u:=by
 rcases r with r | ⟨o,r⟩
 ·exact x a u r
 ·obtain ⟨_,q⟩:=x a _ r
  exact q
def Mut:Option HO->Prop
 | some (.lst _)=>True
 | some (.dK _)=>True
 | some (.dT _)=>True
 | some (.set _ _)=>True
 | some (.ins _ _ _)=>True
 | some (.ext _)=>True
 | _=>False
section
variable {P:Program}{w:World}{H:Hp}{h h':Heap}{x e:Addr}{o':HO}
theorem HOk.write (ok:HOk P w H h)(mu:Mut (H x))(he:e=x\/H e=some (.own x))(k : ∀ b u,b ≠ e->h.get? b=some u->h'.get? b=some u)(heo : ∃ u,h'.get? e=some u)
  (new:ObjOk P w (upd H x o') h' x o'):HOk P w (upd H x o') h':=fun b u q=>by
 have nown : ∀ c y,H c=some (.own y)->c ≠ x:=fun c y r z=>by subst z; rw [r] at mu; exact mu
 have ntup : ∀ c xs,H c=some (.tup xs)->c ≠ x:=fun c xs r z=>by subst z; rw [r] at mu; exact mu
 by_cases hb:b=x
 ·subst hb; rw [upd_same] at q; cases q; exact new
 ·rw [upd_ne hb] at q
  by_cases hbe:b=e
  ·have q':H b=some (.own x):=by
    rcases he with z | z
    ·exact absurd (hbe.trans z) hb
    ·rw [hbe]; exact z
   rw [q] at q'; cases q'
   obtain ⟨v,hv⟩:=heo
   exact ⟨v,by rw [hbe]; exact hv⟩
  ·refine (ok b u q).stay (fun c v hc r=>k c v ?_ r) (fun c r=>by rw [upd_ne (nown c b r)]; exact r) fun c xs r=>by rw [upd_ne (ntup c xs r)]; exact r
   rcases hc with rfl | hc
   ·exact hbe
   ·rintro rfl
    rcases he with z | z
    ·exact nown c b hc z
    ·rw [hc] at z; cases z; exact hb rfl
end
structure Un (fs ex:List Addr)(H H':Hp)(h h':Heap):Prop where
 keep : ∀ b o,h.get? b=some o->H b=none->b ∉ fs->b ∉ ex->h'.get? b=some o
 slot : ∀ b o,h.get? b=some o->H b=none->b ∈ fs->b ∉ ex->∃ sl,h'.get? b=some { o with slots:=sl }
 free : ∀ b o,h.get? b=some o->H b=none->b ∉ ex->H' b=none
 there : ∀ b o,h.get? b=some o->b ∉ ex->∃ o',h'.get? b=some o'
 tups : ∀ b xs,H b=some (.tup xs)->H' b=some (.tup xs)
 frzs : ∀ b o u,H b=some (.frz o u)->H' b=some (.frz o u)
 tbls : ∀ b ps,H b=some (.tbl ps)->∃ more,H' b=some (.tbl (ps ++ more))
section
variable {fs fs' ex ex':List Addr}{H H1 H2:Hp}{h h1 h2 h':Heap}{a x e:Addr}{o:HO}
theorem Un.any (u:Un fs ex H H1 h h1){b:Addr}{ob:Obj}(q:h.get? b=some ob)(n:H b=none)(hx:b ∉ ex) : ∃ sl,h1.get? b=some { ob with slots:=sl }:=by
 by_cases hb:b ∈ fs
 ·exact u.slot b ob q n hb hx
 ·exact ⟨ob.slots,u.keep b ob q n hb hx⟩
theorem Un.kept (k : ∀ b u,h.get? b=some u->h'.get? b=some u):Un fs ex H H h h' :=
 ⟨fun b ob q _ _ _=>k b ob q,fun b ob q _ _ _=>⟨ob.slots,k b ob q⟩,fun _ _ _ n _=>n,fun b ob q _=>⟨ob,k b ob q⟩,fun _ _ q=>q,fun _ _ _ q=>q,fun _ ps q=>⟨#[],by rw [q]; simp⟩⟩
theorem Un.refl:Un fs ex H H h h:=Un.kept fun _ _ q=>q
theorem Un.laid (k : ∀ b u,h.get? b=some u->h'.get? b=some u)(hp:h.objs.size<=a)(hn:H a=none):Un fs ex H (upd H a o) h h' where
 keep:=fun b u q _ _ _=>k b u q
 slot:=fun b u q _ _ _=>⟨u.slots,k b u q⟩
 free:=fun b u q n _=>by rw [upd_ne (Nat.ne_of_lt (Nat.lt_of_lt_of_le (Heap.lt_size q) hp))]; exact n
 there:=fun b u q _=>⟨u,k b u q⟩
 tups:=fun b xs q=>by rw [upd_ne (ne_of_none q hn)]; exact q
 frzs:=fun b u xs q=>by rw [upd_ne (ne_of_none q hn)]; exact q
 tbls:=fun b ps q=>⟨#[],by rw [upd_ne (ne_of_none q hn),q]; simp⟩
theorem Un.write (mu:Mut (H x))(he:e=x\/H e=some (.own x))(k : ∀ b u,b ≠ e->h.get? b=some u->h'.get? b=some u)(heo : ∃ u,h'.get? e=some u):Un fs ex H (upd H x o) h h':=by
 have hx : ∀ b,H b=none->b ≠ x:=fun b n z=>by subst z; rw [n] at mu; exact mu
 have hb : ∀ b,H b=none->b ≠ e:=fun b n z=>by
  subst z
  rcases he with r | r
  ·exact hx b n r
  ·rw [n] at r; cases r
 have hm : ∀ b u,H b=some u->¬ Mut (some u)->b ≠ x:=fun b u q nm z=>by subst z; rw [q] at mu; exact nm mu
 refine ⟨fun b u q n _ _=>k b u (hb b n) q,fun b u q n _ _=>⟨u.slots,k b u (hb b n) q⟩,fun b u q n _=>by rw [upd_ne (hx b n)]; exact n,fun b u q _ => ?_,
  fun b xs q=>by rw [upd_ne (hm b _ q fun z=>z)]; exact q,fun b u xs q=>by rw [upd_ne (hm b _ q fun z=>z)]; exact q,fun b ps q=>⟨#[],by rw [upd_ne (hm b _ q fun z=>z),q]; simp⟩⟩
 by_cases hbe:b=e
 ·subst hbe; exact heo
 ·exact ⟨u,k b u hbe q⟩
end
def trk (h:Heap)(H:Hp):List Addr:=(List.range h.objs.size).filter fun a=>(H a).isSome
def hidT (h:Heap)(H:Hp):Heap:=PySem.W.hideAll h (trk h H)
theorem hidT_size (h:Heap)(H:Hp):(hidT h H).objs.size=h.objs.size:=PySem.W.hideAll_size _ _
theorem hidT_get {h:Heap}{H:Hp}{b:Addr}{o:Obj}(e:h.get? b=some o)(n:H b=none):(hidT h H).get? b=some o :=
 PySem.W.hideAll_get _ e fun hm=>by
  have q:(H b).isSome=true:=(List.mem_filter.mp hm).2
  rw [n] at q; simp at q
theorem of_hidT {h:Heap}{H:Hp}{b:Addr}{o:Obj}(e:(hidT h H).get? b=some o):h.get? b=some o/\H b=none:=by
 have e':h.get? b=some o:=PySem.W.of_hideAll (trk h H) e
 refine ⟨e',?_⟩
 cases q:H b with
 | none=>rfl
 | some x =>
  have hm:b ∈ trk h H:=List.mem_filter.mpr ⟨List.mem_range.mpr (Heap.lt_size e'),by simp [q]⟩
  have z:(hidT h H).get? b=none:=PySem.W.hideAll_none (trk h H) hm
  rw [z] at e; cases e
def allNews (g h:Heap)(L:Addr):List (Addr × Obj):=(List.range h.objs.size).filterMap fun a=>if a=L\/(g.get? a).isSome=true then none else (h.get? a).map fun o=>(a,o)
def rest (g h:Heap)(L d:Addr):List (Addr × Obj):=(allNews g h L).filter fun p=>decide (p.1 ≠ d)
end L2
namespace L2
open PySem PySem.Spec PyProof.Rows
structure Mod (K:PySem.W.Frag)(mg:Str->Option Value)(base:Heap):Prop where
 kin:K.In base
 glob:base.Ns mainGlobals mg
 blt : ∃ mb,base.Ns builtinsNs mb/\∀ x:Str,x ≠ "__name__" -> mb x=bootBuiltins x
 nolimit:base.NoLimit
structure Cx where
 prog:Program
 w:World
 K:PySem.W.Frag
 mg:Str->Option Value
 base:Heap
 A:Around
 N:List Str
 s₀:Shared
 H₀:Hp
 env:Env
 outer:List Env
 stack:List Env
 ex:List Addr
 fn:Str->Bool
 calm:Bool
 pn:List (Addr × Obj)
 xe:Value->Shared->Prop
def frs (l:List Env):List Addr:=l.filterMap (·.frame)
abbrev Cx.fs (X:Cx):List Addr:=frs X.outer
def Vis (sc:Scope)(x:Str):Prop:=sc.names.lookup x=some .local\/sc.names.lookup x=some .cell\/sc.names.lookup x=some .free
def Loc (sc:Scope)(x:Str):Prop:=sc.names.lookup x=some .local\/sc.names.lookup x=some .cell
def Look (env:Env)(h:Heap)(m:Str->Option Value)(x:Str)(u:Value):Prop :=
 (env.kindOf x=some .local/\m x=some u)\/((env.kindOf x=some .cell\/env.kindOf x=some .free)/\∃ c,env.cells.lookup x=some c/\h.IsCell c (some u))
structure Cx.Ok (X:Cx):Prop where
 mod:Mod X.K X.mg X.base
 kind:X.env.scope.kind = .function
 glob:X.env.globals=mainGlobals
 blt:X.env.builtins=builtinsNs
 above:X.s₀.heap.objs.size<=X.env.locals
 inj : ∀ x y c,X.env.cells.lookup x=some c->X.env.cells.lookup y=some c->x=y
 has : ∀ x,(X.env.kindOf x=some .cell\/X.env.kindOf x=some .free)->∃ c,X.env.cells.lookup x=some c
 cab : ∀ x c,X.fn x=true->X.env.cells.lookup x=some c->X.s₀.heap.objs.size<=c
 hd:X.calm=true->X.A.handled=none
 frames:X.A.frames=some X.stack
 stk:X.stack=X.outer\/(X.stack=X.env :: X.outer/\X.env.frame=some X.env.locals)
 exf : ∀ b ∈ X.ex,b ≠ X.env.locals/\∀ x c,X.env.cells.lookup x=some c->c ≠ b
 bs : ∀ b o,X.base.get? b=some o->X.s₀.heap.get? b=some o/\X.H₀ b=none
 bsz:X.base.objs.size<=X.s₀.heap.objs.size
 noex : ∀ b o,X.base.get? b=some o->b ∉ X.ex
 exfs : ∀ b ∈ X.ex,b ∉ X.fs
 funs:X.s₀.heap.FunFrames X.base X.outer
 frf : ∀ b ∈ X.fs,X.H₀ b=none
structure Inv (X:Cx)(pins:List (Addr × Obj))(σ:List (Option V))(H:Hp)(s:Shared):Prop where
 ok:X.Ok
 os:s.os=X.s₀.os
 bare:AllBare s.gens
 base:Un X.fs X.ex X.H₀ H X.s₀.heap s.heap
 loc : ∃ m,s.heap.Ns X.env.locals m/\∀ (i:Nat) (x:Str) (v:V),X.N[i]?=some x->σ[i]?=some (some v)->Vis X.env.scope x->∃ u,RelV v u/\Look X.env s.heap m x u
 cell : ∀ x c,X.env.cells.lookup x=some c->∃ v,s.heap.IsCell c v
 free:H X.env.locals=none
 freeC : ∀ x c,X.env.cells.lookup x=some c->H c=none
 pin : ∀ p ∈ X.pn ++ pins,s.heap.get? p.1=some p.2/\H p.1=none/\p.1 ≠ X.env.locals/\p.1 ∉ X.fs/\∀ v,p.2.data ≠ .cell v
 hok:HOk X.prog X.w H s.heap
 len:σ.length=X.N.length
section
variable {X:Cx}{pins:List (Addr × Obj)}{σ:List (Option V)}{H H':Hp}{s:Shared}{h':Heap}
theorem Cx.Ok.nofr (ok:X.Ok){b:Addr}{o:Obj}(e:X.base.get? b=some o):b ∉ X.fs:=fun hb=>by
 have:=(ok.funs.mem hb).1
 rw [e] at this; cases this
theorem Inv.bs (I:Inv X pins σ H s) : ∀ b o,X.base.get? b=some o->s.heap.get? b=some o/\H b=none:=fun b o e =>
 ⟨I.base.keep b o (I.ok.bs b o e).1 (I.ok.bs b o e).2 (I.ok.nofr e) (I.ok.noex b o e),I.base.free b o (I.ok.bs b o e).1 (I.ok.bs b o e).2 (I.ok.noex b o e)⟩
theorem Inv.bk (I:Inv X pins σ H s) : ∀ b o,X.base.get? b=some o->s.heap.get? b=some o:=fun b o e=>(I.bs b o e).1
theorem Inv.mod (I:Inv X pins σ H s):Mod X.K X.mg X.base:=I.ok.mod
theorem Inv.kIn (I:Inv X pins σ H s):X.K.In s.heap:=I.ok.mod.kin.keeps I.bk
theorem Inv.fr (I:Inv X pins σ H s) : ∃ m,Fr X.base X.env.locals s.heap m :=
 let ⟨m,hn,_⟩:=I.loc
 ⟨m,hn,I.bk,Nat.le_trans I.ok.bsz I.ok.above⟩
theorem Inv.lt (I:Inv X pins σ H s):X.env.locals < s.heap.objs.size:=let ⟨_,hn,_⟩:=I.loc; hn.lt
theorem Inv.sz (I:Inv X pins σ H s):X.s₀.heap.objs.size<=s.heap.objs.size:=Nat.le_trans I.ok.above (Nat.le_of_lt I.lt)
theorem Inv.nofs (I:Inv X pins σ H s){a:Addr}(h:s.heap.objs.size<=a):a ∉ X.fs:=fun hb=>by
 obtain ⟨_,o,ho,_⟩:=I.ok.funs.mem hb
 exact absurd (Nat.lt_of_lt_of_le (Heap.lt_size ho) (Nat.le_trans I.sz h)) (Nat.lt_irrefl _)
theorem Inv.cne (I:Inv X pins σ H s) : ∀ x c,X.env.cells.lookup x=some c->c ≠ X.env.locals:=fun x c e z=>by
 obtain ⟨v,o,ho,hd⟩:=I.cell x c e
 obtain ⟨m,⟨o',es,ep,ho',hd',_⟩,_⟩:=I.loc
 rw [z,ho'] at ho; cases ho; rw [hd'] at hd; cases hd
theorem Inv.funs (I:Inv X pins σ H s):s.heap.FunFrames X.base X.outer:=by
 have all : ∀ (l:List Env),(∀ b ∈ frs l,b ∈ X.fs)->X.s₀.heap.FunFrames X.base l->s.heap.FunFrames X.base l:=by
  intro l
  induction l with
  | nil=>intro _ _; trivial
  | cons env r ih =>
   intro hs hl
   obtain ⟨hk,⟨L,o,hf,hn,ho,hd⟩,hr⟩:=hl
   have hL:L ∈ X.fs:=hs L (by unfold frs; rw [List.filterMap_cons,hf]; exact List.mem_cons_self)
   obtain ⟨sl,e⟩:=I.base.slot L o ho (I.ok.frf L hL) hL fun z=>I.ok.exfs L z hL
   exact ⟨hk,⟨L,_,hf,hn,e,hd⟩,ih (fun b hb=>hs b (by unfold frs; rw [List.filterMap_cons,hf]; exact List.mem_cons_of_mem _ hb)) hr⟩
 exact all X.outer (fun _ hb=>hb) I.ok.funs
theorem Inv.stack (I:Inv X pins σ H s):s.heap.FunFrames X.base X.stack:=by
 rcases I.ok.stk with e | ⟨e,hf⟩
 ·rw [e]; exact I.funs
 ·rw [e]
  obtain ⟨m,hn,_⟩:=I.loc
  refine .cons (by rw [I.ok.kind]; decide) hf hn ?_ I.funs
  exact Heap.get?_none_of_le (Nat.le_trans I.ok.bsz I.ok.above)
theorem Inv.stkSub (I:Inv X pins σ H s) : ∀ b ∈ frs X.stack,b ∈ X.env.locals :: X.fs:=fun b hb=>by
 rcases I.ok.stk with e | ⟨e,hf⟩
 ·rw [e] at hb; exact List.mem_cons_of_mem _ hb
 ·rw [e] at hb
  unfold frs at hb
  rw [List.filterMap_cons,hf] at hb
  exact hb
theorem Inv.stkFree (I:Inv X pins σ H s) : ∀ b ∈ frs X.stack,H b=none:=fun b hb=>by
 rcases List.mem_cons.mp (I.stkSub b hb) with e | hb
 ·rw [e]; exact I.free
 ·obtain ⟨_,o,ho,_⟩:=I.ok.funs.mem hb
  exact I.base.free b o ho (I.ok.frf b hb) fun z=>I.ok.exfs b z hb
theorem Inv.step {g':Array GenState}{t':Nat}{d':Drawn}{ch:List Addr}(I:Inv X pins σ H s)
  (hch : ∀ b ∈ ch,(b ∈ X.ex\/X.s₀.heap.objs.size<=b)/\b ≠ X.env.locals/\(∀ x c,X.env.cells.lookup x=some c->c ≠ b)/\∀ p ∈ X.pn ++ pins,p.1 ≠ b)
  (keep : ∀ b o,b ≠ X.env.locals->b ∉ X.fs->b ∉ ch->s.heap.get? b=some o->H b=none->h'.get? b=some o)
  (slot : ∀ b o,b ≠ X.env.locals->b ∈ X.fs->b ∉ ch->s.heap.get? b=some o->H b=none->∃ sl,h'.get? b=some { o with slots:=sl }) (free : ∀ b o,b ∉ ch->s.heap.get? b=some o->H b=none->H' b=none)
  (there : ∀ b o,b ∉ ch->s.heap.get? b=some o->∃ o',h'.get? b=some o')
  (tups : ∀ b xs,H b=some (.tup xs)->H' b=some (.tup xs)) (frzs : ∀ b o u,H b=some (.frz o u)->H' b=some (.frz o u)) (tbls : ∀ b ps,H b=some (.tbl ps)->∃ more,H' b=some (.tbl (ps ++ more)))
  (ns : ∀ m,s.heap.Ns X.env.locals m->h'.Ns X.env.locals m) (hok:HOk X.prog X.w H' h') (hg:AllBare g') :
  Inv X pins σ H' { s with heap:=h',gens:=g',drawn:=d',toks:=t' }:=by
 have neL : ∀ b o,X.s₀.heap.get? b=some o->b ≠ X.env.locals:=fun b o e=>Nat.ne_of_lt (Nat.lt_of_lt_of_le (Heap.lt_size e) I.ok.above)
 have neC : ∀ b o,X.s₀.heap.get? b=some o->b ∉ X.ex->b ∉ ch:=fun b o e hx hb=>by
  rcases (hch b hb).1 with z | z
  ·exact hx z
  ·exact absurd (Nat.lt_of_lt_of_le (Heap.lt_size e) z) (Nat.lt_irrefl _)
 have cellK : ∀ x c,X.env.cells.lookup x=some c->∀ v,s.heap.IsCell c v->h'.IsCell c v:=fun x c e v ⟨o,ho,hd⟩=>by
  have nch:c ∉ ch:=fun z=>(hch c z).2.2.1 x c e rfl
  by_cases hc:c ∈ X.fs
  ·obtain ⟨sl,q⟩:=slot c o (I.cne x c e) hc nch ho (I.freeC x c e)
   exact ⟨_,q,hd⟩
  ·exact ⟨o,keep c o (I.cne x c e) hc nch ho (I.freeC x c e),hd⟩
 refine ⟨I.ok,I.os,hg,⟨fun b o e n hb hx => ?_,fun b o e n hb hx => ?_,fun b o e n hx => ?_,fun b o e hx => ?_,fun b xs e=>tups b xs (I.base.tups b xs e),fun b o xs e=>frzs b o xs (I.base.frzs b o xs e),fun b ps e => ?_⟩,?_,fun x c e => ?_,?_,fun x c e => ?_,fun p hp => ?_,hok,I.len⟩
 ·exact keep b o (neL b o e) hb (neC b o e hx) (I.base.keep b o e n hb hx) (I.base.free b o e n hx)
 ·obtain ⟨sl,e1⟩:=I.base.slot b o e n hb hx
  obtain ⟨sl',e2⟩:=slot b _ (neL b o e) hb (neC b o e hx) e1 (I.base.free b o e n hx)
  exact ⟨sl',e2⟩
 ·obtain ⟨o',e1⟩:=I.base.there b o e hx
  exact free b o' (neC b o e hx) e1 (I.base.free b o e n hx)
 ·obtain ⟨o',e1⟩:=I.base.there b o e hx
  exact there b o' (neC b o e hx) e1
 ·obtain ⟨m1,e1⟩:=I.base.tbls b ps e
  obtain ⟨m2,e2⟩:=tbls b _ e1
  exact ⟨m1 ++ m2,by rw [e2,Array.append_assoc]⟩
 ·obtain ⟨m,hn,hl⟩:=I.loc
  refine ⟨m,ns m hn,fun i x v e1 e2 e3 => ?_⟩
  obtain ⟨u,r,l⟩:=hl i x v e1 e2 e3
  refine ⟨u,r,?_⟩
  rcases l with l | ⟨k,c,e,z⟩
  ·exact .inl l
  ·exact .inr ⟨k,c,e,cellK x c e _ z⟩
 ·obtain ⟨v,z⟩:=I.cell x c e
  exact ⟨v,cellK x c e v z⟩
 ·obtain ⟨m,⟨o,_,_,ho,_⟩,_⟩:=I.loc
  exact free _ o (fun z=>(hch _ z).2.1 rfl) ho I.free
 ·obtain ⟨v,o,ho,hd⟩:=I.cell x c e
  exact free c o (fun z=>(hch c z).2.2.1 x c e rfl) ho (I.freeC x c e)
 ·obtain ⟨e,n,ne,nf,d⟩:=I.pin p hp
  have nch:p.1 ∉ ch:=fun z=>(hch p.1 z).2.2.2 p hp rfl
  exact ⟨keep p.1 p.2 ne nf nch e n,free p.1 p.2 nch e n,ne,nf,d⟩
theorem Inv.un {t':Nat}(I:Inv X pins σ H s)(u:Un X.fs [] H H' s.heap h')(hok:HOk X.prog X.w H' h'):Inv X pins σ H' { s with heap:=h',toks:=t' }:=by
 obtain ⟨m,⟨o,es,ep,ho,r⟩,_⟩:=id I.loc
 obtain ⟨sl,hL⟩:=u.any ho I.free (by simp)
 exact I.step (g':=s.gens) (d':=s.drawn) (ch:=[]) (fun _ z=>nomatch z) (fun b o _ hb _ e n=>u.keep b o e n hb (by simp)) (fun b o _ hb _ e n=>u.slot b o e n hb (by simp)) (fun b o _ e n=>u.free b o e n (by simp)) (fun b o _ e=>u.there b o e (by simp)) u.tups u.frzs u.tbls (fun m' hm=>by
  obtain ⟨o',es',ep',ho',r'⟩:=hm
  rw [ho] at ho'; cases ho'
  exact ⟨_,es',ep',hL,r'⟩) hok I.bare
theorem Inv.call {g':Array GenState}{t':Nat}{d':Drawn}{ch:List Addr}(I:Inv X pins σ H s)(u:Un (frs X.stack) ch H H' s.heap h')(hok:HOk X.prog X.w H' h')(hg:AllBare g')
  (hch : ∀ b ∈ ch,(b ∈ X.ex\/X.s₀.heap.objs.size<=b)/\b ≠ X.env.locals/\(∀ x c,X.env.cells.lookup x=some c->c ≠ b)/\∀ p ∈ X.pn ++ pins,p.1 ≠ b) :
  Inv X pins σ H' { s with heap:=h',gens:=g',drawn:=d',toks:=t' }:=by
 obtain ⟨m,⟨o,es,ep,ho,r⟩,_⟩:=id I.loc
 obtain ⟨sl,hL⟩:=u.any ho I.free fun z=>(hch _ z).2.1 rfl
 exact I.step (ch:=ch) hch (fun b o hL hb hc e n=>u.keep b o e n (fun z=>(List.mem_cons.mp (I.stkSub b z)).elim hL hb) hc) (fun b o _ _ hc e n=>u.any e n hc) (fun b o hc e n=>u.free b o e n hc) (fun b o hc e=>u.there b o e hc) u.tups u.frzs u.tbls (fun m' hm=>by
  obtain ⟨o',es',ep',ho',r'⟩:=hm
  rw [ho] at ho'; cases ho'
  exact ⟨_,es',ep',hL,r'⟩) hok hg
theorem Inv.turned {t':Nat}{it:Addr}(I:Inv X pins σ H s)(k : ∀ b o,b ≠ it->s.heap.get? b=some o->h'.get? b=some o)(hn:H it=none)(hL:it ≠ X.env.locals)
  (h1:it ∈ X.ex\/X.s₀.heap.objs.size<=it) (h2 : ∀ x c,X.env.cells.lookup x=some c->c ≠ it) (h3 : ∀ p ∈ X.pn ++ pins,p.1 ≠ it):Inv X pins σ H { s with heap:=h',toks:=t' }:=by
 have nit : ∀ b u,H b=some u->b ≠ it:=fun b u e z=>by rw [z,hn] at e; cases e
 refine I.step (g':=s.gens) (d':=s.drawn) (ch:=[it]) (fun b hb => ?_) (fun b o _ _ hc e _=>k b o (fun z=>hc (by simp [z])) e) (fun b o _ _ hc e _=>⟨o.slots,k b o (fun z=>hc (by simp [z])) e⟩) (fun _ _ _ _ n=>n)
  (fun b o hc e=>⟨o,k b o (fun z=>hc (by simp [z])) e⟩) (fun _ _ e=>e) (fun _ _ _ e=>e) (fun b ps e=>⟨#[],by rw [e]; simp⟩) (fun m hm => ?_) (fun b u e => ?_) I.bare
 ·have e:b=it:=by simpa using hb
  subst e
  exact ⟨h1,hL,h2,h3⟩
 ·obtain ⟨o,es,ep,ho,r⟩:=hm
  exact ⟨o,es,ep,k _ o (Ne.symm hL) ho,r⟩
 ·refine (I.hok b u e).stay (fun c v hc q=>k c v ?_ q) (fun _ q=>q) fun _ _ q=>q
  rcases hc with z | z
  ·rw [z]; exact nit b u e
  ·exact nit c _ z
theorem Inv.tok (I:Inv X pins σ H s)(t:Nat):Inv X pins σ H { s with toks:=t }:=I.un (h':=s.heap) (t':=t) Un.refl I.hok
theorem Inv.kept {t':Nat}(I:Inv X pins σ H s)(k : ∀ b u,s.heap.get? b=some u->h'.get? b=some u):Inv X pins σ H { s with heap:=h',toks:=t' }:=I.un (Un.kept k) (I.hok.kept k)
theorem Inv.laid {a:Addr}{o:HO}{t':Nat}(I:Inv X pins σ H s)(k : ∀ b u,s.heap.get? b=some u->h'.get? b=some u)(hp:s.heap.objs.size<=a)(new:ObjOk X.prog X.w (upd H a o) h' a o) :
  Inv X pins σ (upd H a o) { s with heap:=h',toks:=t' }:=I.un (Un.laid k hp (I.hok.fresh hp)) (I.hok.laid k hp new)
theorem Inv.write {x e:Addr}{o:HO}{t':Nat}(I:Inv X pins σ H s)(mu:Mut (H x))(he:e=x\/H e=some (.own x))(k : ∀ b u,b ≠ e->s.heap.get? b=some u->h'.get? b=some u)(heo : ∃ u,h'.get? e=some u)
  (new:ObjOk X.prog X.w (upd H x o) h' x o):Inv X pins σ (upd H x o) { s with heap:=h',toks:=t' }:=I.un (Un.write mu he k heo) (I.hok.write mu he k heo new)
theorem Inv.weak {σ':List (Option V)}(I:Inv X pins σ H s)(hl:σ'.length=σ.length)(w : ∀ (i:Nat) v,σ'[i]?=some (some v)->σ[i]?=some (some v)):Inv X pins σ' H s :=
 ⟨I.ok,I.os,I.bare,I.base,let ⟨m,hn,hl'⟩:=I.loc; ⟨m,hn,fun i x v e1 e2 e3=>hl' i x v e1 (w i v e2) e3⟩,I.cell,I.free,I.freeC,I.pin,I.hok,hl.trans I.len⟩
theorem Inv.pins_of {pins':List (Addr × Obj)}(I:Inv X pins σ H s)(h : ∀ p ∈ pins',s.heap.get? p.1=some p.2/\H p.1=none/\p.1 ≠ X.env.locals/\p.1 ∉ X.fs/\∀ v,p.2.data ≠ .cell v):Inv X pins' σ H s :=
 ⟨I.ok,I.os,I.bare,I.base,I.loc,I.cell,I.free,I.freeC,fun p hp=>(List.mem_append.mp hp).elim (fun z=>I.pin p (List.mem_append_left _ z)) (h p),I.hok,I.len⟩
theorem nodup_ix {N:List Str}(hN:N.Nodup){i j:Nat}{x:Str}(a:N[i]?=some x)(b:N[j]?=some x):i=j:=by
 obtain ⟨h1,e1⟩:=List.getElem?_eq_some_iff.mp a
 obtain ⟨h2,e2⟩:=List.getElem?_eq_some_iff.mp b
 exact (List.getElem_inj hN).mp (e1.trans e2.symm)
theorem store_ok2 {M:Model}{A:Around}{E:Value->Shared->Prop}{i:Nat}{x:Str}{v:V}{u:Value}{Q:Unit->Shared->Prop}(I:Inv X pins σ H s)(hN:X.N.Nodup)(hi:X.N[i]?=some x)(hx:Loc X.env.scope x)(r:RelV v u)
  (h : ∀ s',Inv X pins (σ.set i (some v)) H s'->(∃ a,Heap.SameBut a s.heap s'.heap/\(a=X.env.locals\/X.env.cells.lookup x=some a))->Q () s') (hf:X.fn x=true\/X.env.scope.names.lookup x=some .local:=by first | exact .inl rfl | exact .inr rfl | assumption):wpAny M A (storeName X.env x u) Q E s:=by
 obtain ⟨m,hn,hl⟩:=id I.loc
 have hcls:(X.env.scope.kind == .class || (X.env.scope.kind == .module && X.env.locals != X.env.globals))=false:=by rw [I.ok.kind]; rfl
 have hiσ:i < σ.length:=by rw [I.len]; exact (List.getElem?_eq_some_iff.mp hi).1
 have cne:=I.cne
 have tracked : ∀ {a:Addr} {h':Heap},(∃ o,s.heap.get? a=some o/\H a=none)->Heap.SameBut a s.heap h'->HOk X.prog X.w H h':=fun {a h'} ha hs b ob e=>by
  obtain ⟨_,_,hfree⟩:=ha
  refine (I.hok b ob e).stay (fun c w' hc q=>(hs.2 c ?_).trans q) (fun _ q=>q) fun _ _ q=>q
  rintro rfl
  rcases hc with rfl | hc
  ·rw [hfree] at e; cases e
  ·rw [hfree] at hc; cases hc
 rcases hx with hk | hk
 ·refine wpAny_storeName_local hk hn (fun h' hn' hs => ?_) hcls
  obtain ⟨oL,_,_,hoL,_⟩:=id hn
  refine h _ ⟨I.ok,I.os,I.bare,⟨fun b o e n hb hx => ?_,fun b o e n hb hx => ?_,I.base.free,fun b o e hx => ?_,I.base.tups,I.base.frzs,I.base.tbls⟩,⟨_,hn',fun j y v' e1 e2 e3 => ?_⟩,fun y c e => ?_,I.free,I.freeC,fun p hp => ?_,tracked ⟨oL,hoL,I.free⟩ hs,by simpa using I.len⟩ ⟨_,hs,.inl rfl⟩
  ·exact (hs.2 b (Nat.ne_of_lt (Nat.lt_of_lt_of_le (Heap.lt_size e) I.ok.above))).trans (I.base.keep b o e n hb hx)
  ·obtain ⟨sl,e1⟩:=I.base.slot b o e n hb hx
   exact ⟨sl,(hs.2 b (Nat.ne_of_lt (Nat.lt_of_lt_of_le (Heap.lt_size e) I.ok.above))).trans e1⟩
  ·obtain ⟨o',e1⟩:=I.base.there b o e hx
   exact ⟨o',(hs.2 b (Nat.ne_of_lt (Nat.lt_of_lt_of_le (Heap.lt_size e) I.ok.above))).trans e1⟩
  ·by_cases hj:j=i
   ·subst hj
    rw [hi] at e1; cases e1
    rw [List.getElem?_set_self hiσ] at e2
    cases e2
    exact ⟨u,r,.inl ⟨hk,by simp⟩⟩
   ·rw [List.getElem?_set_ne (Ne.symm hj)] at e2
    obtain ⟨u',r',q⟩:=hl j y v' e1 e2 e3
    refine ⟨u',r',?_⟩
    rcases q with ⟨k,e⟩ | ⟨k,c,e,z⟩
    ·refine .inl ⟨k,?_⟩
     have:y ≠ x:=fun e=>hj (nodup_ix hN e1 (e ▸ hi))
     simp [this,e]
    ·exact .inr ⟨k,c,e,z.sameBut hs (cne y c e)⟩
  ·obtain ⟨w',z⟩:=I.cell y c e
   exact ⟨w',z.sameBut hs (cne y c e)⟩
  ·obtain ⟨e,n,ne,nf,d⟩:=I.pin p hp
   exact ⟨(hs.2 p.1 ne).trans e,n,ne,nf,d⟩
 ·have hfn:X.fn x=true:=by
   rcases hf with z | z
   ·exact z
   ·rw [z] at hk; cases hk
  obtain ⟨c,hc⟩:=I.ok.has x (.inl hk)
  obtain ⟨w',z⟩:=I.cell x c hc
  refine wpAny_storeName_cell I.ok.kind hk hc z (fun h' hc' hs => ?_)
  obtain ⟨oc,hoc,hocd⟩:=id z
  refine h { s with heap:=h' } ⟨I.ok,I.os,I.bare,⟨fun b o e n hb hx => ?_,fun b o e n hb hx => ?_,I.base.free,fun b o e hx => ?_,I.base.tups,I.base.frzs,I.base.tbls⟩,⟨m,hn.sameBut hs (Ne.symm (cne x c hc)),fun j y v' e1 e2 e3 => ?_⟩,fun y c' e => ?_,I.free,I.freeC,fun p hp => ?_,tracked ⟨oc,hoc,I.freeC x c hc⟩ hs,by simpa using I.len⟩ ⟨c,hs,.inr hc⟩
  ·exact (hs.2 b (Nat.ne_of_lt (Nat.lt_of_lt_of_le (Heap.lt_size e) (I.ok.cab x c hfn hc)))).trans (I.base.keep b o e n hb hx)
  ·obtain ⟨sl,e1⟩:=I.base.slot b o e n hb hx
   exact ⟨sl,(hs.2 b (Nat.ne_of_lt (Nat.lt_of_lt_of_le (Heap.lt_size e) (I.ok.cab x c hfn hc)))).trans e1⟩
  ·obtain ⟨o',e1⟩:=I.base.there b o e hx
   exact ⟨o',(hs.2 b (Nat.ne_of_lt (Nat.lt_of_lt_of_le (Heap.lt_size e) (I.ok.cab x c hfn hc)))).trans e1⟩
  ·by_cases hj:j=i
   ·subst hj
    rw [hi] at e1; cases e1
    rw [List.getElem?_set_self hiσ] at e2
    cases e2
    exact ⟨u,r,.inr ⟨.inl hk,c,hc,hc'⟩⟩
   ·rw [List.getElem?_set_ne (Ne.symm hj)] at e2
    obtain ⟨u',r',q⟩:=hl j y v' e1 e2 e3
    refine ⟨u',r',?_⟩
    rcases q with q | ⟨k,c',e,z'⟩
    ·exact .inl q
    ·refine .inr ⟨k,c',e,z'.sameBut hs ?_⟩
     rintro rfl
     exact hj (nodup_ix hN e1 (I.ok.inj _ _ _ e hc ▸ hi))
  ·by_cases hcc:c'=c
   ·subst hcc; exact ⟨_,hc'⟩
   ·obtain ⟨w2,z2⟩:=I.cell y c' e
    exact ⟨w2,z2.sameBut hs hcc⟩
  ·obtain ⟨e,n,ne,nf,d⟩:=I.pin p hp
   refine ⟨(hs.2 p.1 ?_).trans e,n,ne,nf,d⟩
   intro q
   rw [q,hoc] at e
   have q':oc=p.2:=Option.some.inj e
   exact d w' (by rw [<- q']; exact hocd)
theorem store_ok {M:Model}{A:Around}{E:Value->Shared->Prop}{i:Nat}{x:Str}{v:V}{u:Value}{Q:Unit->Shared->Prop}(I:Inv X pins σ H s)(hN:X.N.Nodup)(hi:X.N[i]?=some x)(hx:Loc X.env.scope x)(r:RelV v u)
  (h : ∀ s',Inv X pins (σ.set i (some v)) H s'->Q () s') (hf:X.fn x=true\/X.env.scope.names.lookup x=some .local:=by first | exact .inl rfl | exact .inr rfl | assumption):wpAny M A (storeName X.env x u) Q E s :=
 store_ok2 I hN hi hx r (fun s' I' _=>h s' I') hf
theorem Inv.call' {s':Shared}{ch:List Addr}(I:Inv X pins σ H s)(ho:s'.os=s.os)(u:Un (frs X.stack) ch H H' s.heap s'.heap)(hok:HOk X.prog X.w H' s'.heap)(hg:AllBare s'.gens)
  (hch : ∀ b ∈ ch,(b ∈ X.ex\/X.s₀.heap.objs.size<=b)/\b ≠ X.env.locals/\(∀ x c,X.env.cells.lookup x=some c->c ≠ b)/\∀ p ∈ X.pn ++ pins,p.1 ≠ b):Inv X pins σ H' s':=by
 obtain ⟨h',g',d',t',o'⟩:=s'
 have e:o'=s.os:=ho
 subst e
 exact I.call (g':=g') (t':=t') (d':=d') u hok hg hch
end
abbrev XK:=Value->Option Addr->Hp->Prop
abbrev St:=List (Option V)
abbrev VK:=V->Hp->Prop
abbrev TE:=St->Hp->VK->Prop
abbrev TT:=St->Hp->(Bool->Hp->Prop)->Prop
abbrev TA:=St->Hp->(List V->Hp->Prop)->Prop
structure Ends where
 nx:St->Hp->Prop
 rt:VK
 bk:St->Hp->Prop:=fun _ _=>False
 ct:St->Hp->Prop:=fun _ _=>False
abbrev TS:=Ends->St->Hp->Prop
def EP (X:Cx)(pins:List (Addr × Obj))(σ:St)(Q:VK)(u:Value)(s':Shared):Prop:=∃ v H',Inv X pins σ H' s'/\RelV v u/\Q v H'
def TP (X:Cx)(pins:List (Addr × Obj))(σ:St)(Q:Bool->Hp->Prop)(b:Bool)(s':Shared):Prop:=∃ H',Inv X pins σ H' s'/\Q b H'
def AP (X:Cx)(pins:List (Addr × Obj))(σ:St)(Q:List V->Hp->Prop)(us:List Value)(s':Shared):Prop:=∃ vs H',Inv X pins σ H' s'/\Vals vs us/\Q vs H'
def SP (X:Cx)(pins:List (Addr × Obj))(D:Ends)(f:Flow)(s':Shared):Prop :=
 match f with
 | .next=>∃ σ' H',Inv X pins σ' H' s'/\D.nx σ' H'
 | .brk=>∃ σ' H',Inv X pins σ' H' s'/\D.bk σ' H'
 | .cont=>∃ σ' H',Inv X pins σ' H' s'/\D.ct σ' H'
 | .ret u=>∃ v σ' H',Inv X pins σ' H' s'/\RelV v u/\D.rt v H'
def PE (X:Cx)(e:Expr)(t:TE):Prop :=
 ∀ (pins:List (Addr × Obj)) (s:Shared) (σ:St) (H:Hp) (Q:VK),Inv X pins σ H s->t σ H Q->wpAny (model X.prog X.w) X.A (eval e X.env) (EP X pins σ Q) X.xe s
def PT (X:Cx)(e:Expr)(t:TT):Prop :=
 ∀ (pins:List (Addr × Obj)) (s:Shared) (σ:St) (H:Hp) (Q:Bool->Hp->Prop),Inv X pins σ H s->t σ H Q->wpAny (model X.prog X.w) X.A (isTrue e X.env (eval e X.env)) (TP X pins σ Q) X.xe s
def PW (X:Cx)(e:Expr)(t:TT):Prop :=
 ∀ (whole:Sem Value) (pins:List (Addr × Obj)) (s:Shared) (σ:St) (H:Hp) (Q:Bool->Hp->Prop),Inv X pins σ H s->t σ H Q->wpAny (model X.prog X.w) X.A (isTrue e X.env whole) (TP X pins σ Q) X.xe s
theorem PW.pt {X:Cx}{e:Expr}{t:TT}(h:PW X e t):PT X e t:=h _
def PA (X:Cx)(es:List Expr)(t:TA):Prop :=
 ∀ (pos:Pos) (pins:List (Addr × Obj)) (s:Shared) (σ:St) (H:Hp) (Q:List V->Hp->Prop),Inv X pins σ H s->t σ H Q->wpAny (model X.prog X.w) X.A (spliced (backTo pos (starEach es X.env))) (AP X pins σ Q) X.xe s
def PS (X:Cx)(st:Stmt)(t:TS):Prop :=
 ∀ (pins:List (Addr × Obj)) (s:Shared) (σ:St) (H:Hp) (D:Ends),Inv X pins σ H s->t D σ H->wpAny (model X.prog X.w) X.A (exec st X.env) (SP X pins D) X.xe s
def PSs (X:Cx)(st:List Stmt)(t:TS):Prop :=
 ∀ (pins:List (Addr × Obj)) (s:Shared) (σ:St) (H:Hp) (D:Ends),Inv X pins σ H s->t D σ H->wpAny (model X.prog X.w) X.A (execs st X.env) (SP X pins D) X.xe s
theorem thn {α:Type}{t:Sem α}{Q Q':α->Shared->Prop}{M:Model}{A:Around}{E:Value->Shared->Prop}{s:Shared}(h:wpAny M A t Q E s)(hQ : ∀ a s,Q a s->Q' a s):wpAny M A t Q' E s:=wpAny_mono h hQ fun _ _ x=>x
end L2
namespace L2
open PySem PySem.Spec PyProof.Rows
section
variable {X:Cx}
theorem bin {a b:Expr}{ta tb:TE}(ha:PE X a ta)(hb:PE X b tb){pins:List (Addr × Obj)}{s:Shared}{σ:St}{H:Hp}{R:V->V->Hp->Prop}(I:Inv X pins σ H s)(h:ta σ H fun x H1=>tb σ H1 fun y H2=>R x y H2)
  {α:Type} {Q:α->Shared->Prop} {f:Value->Value->Sem α}
  (hf : ∀ v u s2 x y H2,Inv X pins σ H2 s2->RelV x v->RelV y u->R x y H2->wpAny (model X.prog X.w) X.A (f v u) Q X.xe s2) :
  wpAny (model X.prog X.w) X.A (eval a X.env) (fun v s₁=>wpAny (model X.prog X.w) X.A (eval b X.env) (fun u s₂=>wpAny (model X.prog X.w) X.A (f v u) Q X.xe s₂) X.xe s₁) X.xe s:=by
 refine thn (ha pins s σ H _ I h) fun v s1 ⟨x,H1,I1,r1,q1⟩ => ?_
 refine thn (hb pins s1 σ H1 _ I1 q1) fun u s2 ⟨y,H2,I2,r2,q2⟩ => ?_
 exact hf v u s2 x y H2 I2 r1 r2 q2
def tVar (i:Nat):TE:=fun σ H Q=>∃ v,σ[i]?=some (some v)/\Q v H
def tC (v:V):TE:=fun _ H Q=>Q v H
theorem pe_var {i:Nat}{x:Str}{pos:Pos}(hN:X.N[i]?=some x)(hv:Vis X.env.scope x)(hd:(x == ("__debug__" : Str))=false:=by decide)(hcd:(x == ("__classdict__" : Str))=false:=by decide):PE X (.Name x pos) (tVar i):=by
 intro pins s σ H Q I h
 obtain ⟨v,e,h⟩:=h
 obtain ⟨m,hn,hl⟩:=I.loc
 obtain ⟨u,r,l⟩:=hl i x v hN e hv
 have fin:EP X pins σ Q u s:=⟨v,H,I,r,h⟩
 rcases l with ⟨hk,hm⟩ | ⟨hk,c,hc,hcell⟩
 ·exact wpAny_Name (wpAny_loadName_local I.ok.kind hk hn hm fin) hd
 ·rcases hk with hk | hk
  ·exact wpAny_Name (wpAny_loadName_cell I.ok.kind hk hc hcell fin) hd
  ·exact wpAny_Name (wpAny_loadName_free I.ok.kind hk hc hcell fin hcd) hd
theorem pe_int {i j pos}:PE X (.Constant (.int i) j pos) (tC (.int i)):=fun _ _ _ H _ I h=>wpAny_Constant_int ⟨.int i,H,I.tok _,⟨_,rfl⟩,h⟩
theorem pe_bl {b j pos}:PE X (.Constant (.bool b) j pos) (tC (.bl b)):=fun _ _ _ H _ I h=>Constant_bool ⟨.bl b,H,I,rfl,h⟩
theorem pe_non {j pos}:PE X (.Constant .none j pos) (tC .non):=fun _ _ _ H _ I h=>Constant_none ⟨.non,H,I,rfl,h⟩
theorem pe_str {x j pos}:PE X (.Constant (.str x) j pos) (tC (.str x)):=fun _ _ _ H _ I h=>Calls.Constant_str ⟨.str x,H,I.tok _,⟨_,rfl⟩,h⟩
def Gl (X:Cx)(x:Str):Prop:=X.env.kindOf x=some .globalImplicit
theorem ld_glob {E:Value->Shared->Prop}{pins:List (Addr × Obj)}{s:Shared}{σ:St}{H:Hp}{x:Str}{u:Value}{pos:Pos}{Q:Value->Shared->Prop}(I:Inv X pins σ H s)(hg:Gl X x)(hm:X.mg x=some u)(h:Q u s)
  (hd:(x == ("__debug__" : Str))=false:=by decide):wpAny (model X.prog X.w) X.A (eval (.Name x pos) X.env) Q E s :=
 Calls.Name_function_global I.ok.kind hg (Calls.loadGlobal_global (by rw [I.ok.glob]; exact I.mod.glob.keeps I.bk) hm h) hd
theorem ld_blt {E:Value->Shared->Prop}{pins:List (Addr × Obj)}{s:Shared}{σ:St}{H:Hp}{x:Str}{u:Value}{pos:Pos}{Q:Value->Shared->Prop}(I:Inv X pins σ H s)(hg:Gl X x)(hm:X.mg x=none)(hv:bootBuiltins x=some u)(h:Q u s)
  (hn:x ≠ "__name__" := by decide) (hd:(x == ("__debug__" : Str))=false:=by decide):wpAny (model X.prog X.w) X.A (eval (.Name x pos) X.env) Q E s:=by
 obtain ⟨mb,h1,h2⟩:=I.mod.blt
 exact Calls.Name_function_global I.ok.kind hg (Calls.loadGlobal_builtin (by rw [I.ok.glob]; exact I.mod.glob.keeps I.bk) hm (by rw [I.ok.blt]; exact h1.keeps I.bk) ((h2 x hn).trans hv) h) hd
theorem pe_glob {x:Str}{v:V}{u:Value}{pos:Pos}(hg:Gl X x)(hm:X.mg x=some u)(r:RelV v u)(hd:(x == ("__debug__" : Str))=false:=by decide):PE X (.Name x pos) (tC v) :=
 fun _ _ _ H _ I h=>ld_glob I hg hm ⟨v,H,I,r,h⟩ hd
theorem pe_bltn {x:Str}{v:V}{u:Value}{pos:Pos}(hg:Gl X x)(hm:X.mg x=none)(hv:bootBuiltins x=some u)(r:RelV v u)(hn:x ≠ "__name__" := by decide)(hd:(x == ("__debug__" : Str))=false:=by decide):PE X (.Name x pos) (tC v) :=
 fun _ _ _ H _ I h=>ld_blt I hg hm hv ⟨v,H,I,r,h⟩ hn hd
def t2I (ta tb:TE)(k:Int->Int->Hp->Prop):St->Hp->Prop:=fun σ H=>ta σ H fun x H1=>tb σ H1 fun y H2=>∃ i j,x = .int i/\y = .int j/\k i j H2
def tAdd (ta tb:TE):TE:=fun σ H Q=>t2I ta tb (fun i j H2=>Q (.int (i+j)) H2) σ H
def tSub (ta tb:TE):TE:=fun σ H Q=>t2I ta tb (fun i j H2=>Q (.int (i - j)) H2) σ H
def tMul (ta tb:TE):TE:=fun σ H Q=>t2I ta tb (fun i j H2=>(-(2 ^ 64) < i/\i < 2 ^ 64)/\Q (.int (i*j)) H2) σ H
variable {a b:Expr}{ta tb:TE}{pos:Pos}
def PC (X:Cx)(op:CmpOp)(a b:Expr)(t:TE):Prop :=
 ∀ (pins:List (Addr × Obj)) (s:Shared) (σ:St) (H:Hp) (Q:VK),Inv X pins σ H s->t σ H Q ->
  wpAny (model X.prog X.w) X.A (eval a X.env) (fun v s₁=>wpAny (model X.prog X.w) X.A (eval b X.env) (fun u s₂=>wpAny (model X.prog X.w) X.A (compareOp op v u) (EP X pins σ Q) X.xe s₂) X.xe s₁) X.xe s
def tCmp (p:Int->Int->Bool)(ta tb:TE):TE:=fun σ H Q=>t2I ta tb (fun i j H2=>Q (.bl (p i j)) H2) σ H
abbrev tLt:TE->TE->TE:=tCmp fun i j=>decide (i < j)
abbrev tLe:TE->TE->TE:=tCmp fun i j=>decide (i<=j)
abbrev tGt:TE->TE->TE:=tCmp fun i j=>decide (j < i)
abbrev tGe:TE->TE->TE:=tCmp fun i j=>decide (j<=i)
abbrev tEqI:TE->TE->TE:=tCmp fun i j=>decide (i=j)
abbrev tNeI:TE->TE->TE:=tCmp fun i j => !decide (i=j)
def tIsN (ta:TE):TE:=fun σ H Q=>ta σ H fun x H1=>Q (.bl (decide (x = .non))) H1
def tNotN (ta:TE):TE:=fun σ H Q=>ta σ H fun x H1=>Q (.bl (!decide (x = .non))) H1
def tB (t:TE):TT:=fun σ H Q=>t σ H fun x H1=>∃ c,x = .bl c/\Q c H1
theorem pt_cmp {op:CmpOp}{t:TE}(h:PC X op a b t)(h1:behindInMarks op b=false:=by first | exact nobehind _ (by decide) (by decide) | rfl):PT X (.Compare a [op] [b] pos) (tB t):=by
 intro pins s σ H Q I hw
 refine wpAny_isTrue_Compare1 (thn (h pins s σ H _ I hw) fun v s1 h1=>thn h1 fun u s2 h2=>thn h2 fun c s3 ⟨x,H1,I1,r1,q1⟩ => ?_) h1
 obtain ⟨d,rfl,q⟩:=q1
 cases r1
 exact wpAny_truthy_bool ⟨H1,I1,q⟩
theorem pt_val {e:Expr}{t:TE}(h:PE X e t)(he : ∀ whole,isTrue e X.env whole=(do let v <- whole; standAt e.pos; holding [v] (truthy v)):=by intro _; rfl):PT X e (tB t):=by
 intro pins s σ H Q I hw
 refine isTrue_plain (thn (h pins s σ H _ I hw) fun v s1 ⟨x,H1,I1,r1,q1⟩ => ?_) (he _)
 obtain ⟨d,rfl,q⟩:=q1
 cases r1
 exact wpAny_truthy_bool ⟨H1,I1,q⟩
variable {tA tB':TT}{rest:List Expr}
def tAnd (t u:TT):TT:=fun σ H Q=>t σ H fun c H1=>if c=true then u σ H1 Q else Q false H1
def tOr (t u:TT):TT:=fun σ H Q=>t σ H fun c H1=>if c=true then Q true H1 else u σ H1 Q
def tNot (t:TT):TT:=fun σ H Q=>t σ H fun c H1=>Q (!c) H1
theorem pw_and1 (ha:PT X a tA):PW X (.BoolOp .And [a] pos) tA:=by
 intro wh pins s σ H Q I h
 refine isTrue_and (thn (ha pins s σ H Q I h) fun c s1 e => ?_)
 cases c with
 | true=>exact isTrue_and_nil e
 | false=>exact e
theorem pw_or1 (ha:PT X a tA):PW X (.BoolOp .Or [a] pos) tA:=by
 intro wh pins s σ H Q I h
 refine isTrue_or (thn (ha pins s σ H Q I h) fun c s1 e => ?_)
 cases c with
 | false=>exact isTrue_or_nil e
 | true=>exact e
theorem pw_and (ha:PT X a tA)(hb:PW X (.BoolOp .And (b :: rest) pos) tB'):PW X (.BoolOp .And (a :: b :: rest) pos) (tAnd tA tB'):=by
 intro wh pins s σ H Q I h
 refine isTrue_and (thn (ha pins s σ H _ I h) fun c s1 ⟨H1,I1,q1⟩ => ?_)
 cases c with
 | true=>exact hb wh pins s1 σ H1 Q I1 q1
 | false=>exact ⟨H1,I1,q1⟩
theorem pw_or (ha:PT X a tA)(hb:PW X (.BoolOp .Or (b :: rest) pos) tB'):PW X (.BoolOp .Or (a :: b :: rest) pos) (tOr tA tB'):=by
 intro wh pins s σ H Q I h
 refine isTrue_or (thn (ha pins s σ H _ I h) fun c s1 ⟨H1,I1,q1⟩ => ?_)
 cases c with
 | true=>exact ⟨H1,I1,q1⟩
 | false=>exact hb wh pins s1 σ H1 Q I1 q1
theorem pt_not (ha:PT X a tA):PT X (.UnaryOp .Not a pos) (tNot tA):=by
 intro pins s σ H Q I h
 exact isTrue_not (ha pins s σ H (fun c H1=>Q (!c) H1) I h)
def tAndV (ta tb:TE):TE:=fun σ H Q=>ta σ H fun x H1=>∃ c,x = .bl c/\if c=true then tb σ H1 Q else Q (.bl false) H1
def tOrV (ta tb:TE):TE:=fun σ H Q=>ta σ H fun x H1=>∃ c,x = .bl c/\if c=true then Q (.bl true) H1 else tb σ H1 Q
def tNotV (ta:TE):TE:=fun σ H Q=>ta σ H fun x H1=>∃ c,x = .bl c/\Q (.bl (!c)) H1
theorem pe_one {op}{t:TE}(h:PE X a t):PE X (.BoolOp op [a] pos) t:=fun pins s σ H Q I hw=>BoolOp_one (h pins s σ H Q I hw)
def tIf (t:TT)(ta tb:TE):TE:=fun σ H Q=>t σ H fun c H1=>if c=true then ta σ H1 Q else tb σ H1 Q
theorem pe_ifExp {c:Expr}(hc:PT X c tA)(ha:PE X a ta)(hb:PE X b tb):PE X (.IfExp c a b pos) (tIf tA ta tb):=by
 intro pins s σ H Q I h
 refine wpAny_IfExp (thn (hc pins s σ H _ I h) fun d s1 ⟨H1,I1,q1⟩ => ?_)
 cases d with
 | true=>exact ha pins s1 σ H1 Q I1 q1
 | false=>exact hb pins s1 σ H1 Q I1 q1
end
end L2
namespace L2
open PySem PySem.Spec PyProof.Rows
def SqL (K:PySem.W.Frag)(H:Hp)(a:Addr)(xs:List V):Prop :=
 Rd H a (.lst xs) \/
  ∃ (o:Obj) (its:Array Value) (n:Nat),K.lookup a=some o/\o.cls = .type "list" /\ o.dict=none/\o.data = .seq its n/\its.size<=sizeLine/\Vals xs its.toList
def SqT (K:PySem.W.Frag)(H:Hp)(a:Addr)(xs:List V):Prop :=
 Rd H a (.tup xs) \/
  ∃ (o:Obj) (its:Array Value) (n:Nat),K.lookup a=some o/\o.cls = .type "tuple" /\ o.data = .seq its n/\its.size<=sizeLine/\Vals xs its.toList
def absV:Value->Option V
 | .none=>some .non
 | .bool b=>some (.bl b)
 | .int i _=>some (.int i)
 | .str x _=>some (.str x)
 | .bytes b _=>some (.byt b)
 | .float b _=>some (.flt b)
 | .ref a=>some (.ref a)
 | .type n=>some (.ty n)
 | _=>none
theorem RelV.abs {x:V}{u:Value}(r:RelV x u):absV u=some x:=by
 cases x with
 | non=>cases r; rfl
 | bl _=>cases r; rfl
 | int _=>obtain ⟨t,rfl⟩:=r; rfl
 | str _=>obtain ⟨t,rfl⟩:=r; rfl
 | byt _=>obtain ⟨t,rfl⟩:=r; rfl
 | flt _=>obtain ⟨t,rfl⟩:=r; rfl
 | ref _=>cases r; rfl
 | ty _=>cases r; rfl
theorem RelV.inj {x y:V}{u:Value}(r:RelV x u)(q:RelV y u):x=y:=Option.some.inj (r.abs.symm.trans q.abs)
theorem Vals.inj : ∀ {xs ys:List V} {us:List Value},Vals xs us->Vals ys us->xs=ys
 | _,_,_,.nil,.nil=>rfl
 | _,_,_,.cons r t,.cons r' t'=>by rw [r.inj r',Vals.inj t t']
section
variable {X:Cx}{pins:List (Addr × Obj)}{σ:St}{H:Hp}{s:Shared}{a:Addr}{xs ys:List V}
theorem SqL.of {K:PySem.W.Frag}(h:H a=some (.lst xs)):SqL K H a xs:=.inl (.inl h)
theorem SqT.of {K:PySem.W.Frag}(h:H a=some (.tup xs)):SqT K H a xs:=.inl (.inl h)
theorem Inv.list (I:Inv X pins σ H s)(h:SqL X.K H a xs) : ∃ its:List Value,Vals xs its/\PlainL s.heap a its.toArray/\xs.length<=sizeLine:=by
 rcases h with h | ⟨o,its,n,hk,hc,hd,hs,hz,r⟩
 ·obtain ⟨z,its,n,r,e⟩:=h.ok I.hok
  exact ⟨its,r,⟨_,n,e,rfl,rfl,rfl⟩,z⟩
 ·refine ⟨its.toList,r,⟨o,n,I.kIn a o hk,hc,hd,by simpa using hs⟩,?_⟩
  have e:=r.length
  simp only [Array.length_toList] at e
  omega
theorem Inv.tuple (I:Inv X pins σ H s)(h:SqT X.K H a xs) : ∃ its:List Value,Vals xs its/\IsTup s.heap a its.toArray/\xs.length<=sizeLine:=by
 rcases h with h | ⟨o,its,n,hk,hc,hs,hz,r⟩
 ·obtain ⟨z,its,r,p⟩:=h.ok I.hok
  exact ⟨its,r,p,z⟩
 ·refine ⟨its.toList,r,⟨o,I.kIn a o hk,hc,n,by simpa using hs⟩,?_⟩
  have e:=r.length
  simp only [Array.length_toList] at e
  omega
theorem Inv.list_inj (I:Inv X pins σ H s)(h:SqL X.K H a xs)(h':SqL X.K H a ys):xs=ys:=by
 obtain ⟨its,r,⟨o,n,e,_,_,d⟩,_⟩:=I.list h
 obtain ⟨its',r',⟨o',n',e',_,_,d'⟩,_⟩:=I.list h'
 rw [e] at e'; cases e'
 rw [d] at d'
 injection d' with d1 _
 have:its=its':=by simpa using congrArg Array.toList d1
 subst this
 exact r.inj r'
theorem Inv.tuple_inj (I:Inv X pins σ H s)(h:SqT X.K H a xs)(h':SqT X.K H a ys):xs=ys:=by
 obtain ⟨its,r,⟨o,e,_,n,d⟩,_⟩:=I.tuple h
 obtain ⟨its',r',⟨o',e',_,n',d'⟩,_⟩:=I.tuple h'
 rw [e] at e'; cases e'
 rw [d] at d'
 injection d' with d1 _
 have:its=its':=by simpa using congrArg Array.toList d1
 subst this
 exact r.inj r'
end
abbrev Cx.wish (X:Cx)(E:Value->Shared->Prop):Cx:={ X with xe:=E }
abbrev Cx.nox (X:Cx):Cx:=X.wish fun _ _=>False
theorem Cx.Ok.wish {X:Cx}(ok:X.Ok)(E:Value->Shared->Prop):(X.wish E).Ok :=
 ⟨ok.mod,ok.kind,ok.glob,ok.blt,ok.above,ok.inj,ok.has,ok.cab,ok.hd,ok.frames,ok.stk,ok.exf,ok.bs,ok.bsz,ok.noex,ok.exfs,ok.funs,ok.frf⟩
theorem Cx.Ok.unwish {X:Cx}{E:Value->Shared->Prop}(ok:(X.wish E).Ok):X.Ok :=
 ⟨ok.mod,ok.kind,ok.glob,ok.blt,ok.above,ok.inj,ok.has,ok.cab,ok.hd,ok.frames,ok.stk,ok.exf,ok.bs,ok.bsz,ok.noex,ok.exfs,ok.funs,ok.frf⟩
section
variable {X:Cx}{pins:List (Addr × Obj)}{σ:St}{H:Hp}{s:Shared}{E:Value->Shared->Prop}
theorem Inv.wish (I:Inv X pins σ H s)(E:Value->Shared->Prop):Inv (X.wish E) pins σ H s:=⟨I.ok.wish E,I.os,I.bare,I.base,I.loc,I.cell,I.free,I.freeC,I.pin,I.hok,I.len⟩
theorem Inv.unwish (I:Inv (X.wish E) pins σ H s):Inv X pins σ H s:=⟨I.ok.unwish,I.os,I.bare,I.base,I.loc,I.cell,I.free,I.freeC,I.pin,I.hok,I.len⟩
theorem SP.unwish {D:Ends}{f:Flow}{s':Shared}(h:SP (X.wish E) pins D f s'):SP X pins D f s':=by
 cases f with
 | next=>obtain ⟨σ',H',I,q⟩:=h; exact ⟨σ',H',I.unwish,q⟩
 | brk=>obtain ⟨σ',H',I,q⟩:=h; exact ⟨σ',H',I.unwish,q⟩
 | cont=>obtain ⟨σ',H',I,q⟩:=h; exact ⟨σ',H',I.unwish,q⟩
 | ret u=>obtain ⟨v,σ',H',I,r,q⟩:=h; exact ⟨v,σ',H',I.unwish,r,q⟩
theorem PSs.nox {st:List Stmt}{t:TS}(h:PSs X.nox st t):PSs X st t:=fun pins s σ H D I hw =>
 wpAny_mono (h pins s σ H D (I.wish _) hw) (fun _ _ q=>q.unwish) fun _ _ z=>False.elim z
end
section
variable {X:Cx}{st:Stmt}{rest:List Stmt}{t u:TS}{e:Expr}{te:TE}{pos:Pos}
def tNext:TS:=fun D σ H=>D.nx σ H
def tSeq (t u:TS):TS:=fun D σ H=>t { D with nx:=u D } σ H
theorem pss_nil:PSs X [] tNext:=fun _ _ σ H _ I h=>wpAny_execs_nil ⟨σ,H,I,h⟩
theorem pss_cons (h1:PS X st t)(h2:PSs X rest u):PSs X (st :: rest) (tSeq t u):=by
 intro pins s σ H D I h
 refine wpAny_execs_cons (thn (h1 pins s σ H { D with nx:=u D } I h) fun f s1 q => ?_)
 cases f with
 | next =>
  obtain ⟨σ',H',I',q⟩:=q
  exact h2 pins s1 σ' H' D I' q
 | ret v=>exact q
 | brk=>exact q
 | cont=>exact q
theorem pss_one (h1:PS X st t):PSs X [st] t:=by
 intro pins s σ H D I h
 refine wpAny_execs_cons (thn (h1 pins s σ H D I h) fun f s1 q => ?_)
 cases f with
 | next=>exact wpAny_execs_nil q
 | ret v=>exact q
 | brk=>exact q
 | cont=>exact q
def tBreak:TS:=fun D σ H=>D.bk σ H
def tCont:TS:=fun D σ H=>D.ct σ H
theorem ps_break:PS X (.Break pos) tBreak:=fun _ _ σ H _ I h=>wpAny_Break ⟨σ,H,I,h⟩
theorem Inv.quiet {pins:List (Addr × Obj)}{σ:St}{H:Hp}{s:Shared}(I:Inv X pins σ H s):interactive X.env=false:=by simp [interactive,I.ok.kind]
def tDrop (te:TE):TS:=fun D σ H=>te σ H fun _ H1=>D.nx σ H1
theorem ps_expr (he:PE X e te)(hs:swapsWith e none pos.line X.env=pure false:=by rfl):PS X (.Expr e pos) (tDrop te):=by
 intro pins s σ H D I h
 exact wpAny_Expr_any (thn (he pins s σ H _ I h) fun v s1 ⟨x,H1,I1,r1,q1⟩=>⟨σ,H1,I1,q1⟩) I.quiet hs
def tRet (te:TE):TS:=fun D σ H=>te σ H D.rt
theorem ps_ret (he:PE X e te):PS X (.Return (some e) pos) (tRet te):=by
 intro pins s σ H D I h
 exact wpAny_Return_some (thn (he pins s σ H _ I h) fun v s1 ⟨x,H1,I1,r1,q1⟩=>⟨x,σ,H1,I1,r1,q1⟩)
def tRetN:TS:=fun D _ H=>D.rt .non H
def tIfS (c:TT)(t u:TS):TS:=fun D σ H=>c σ H fun b H1=>if b=true then t D σ H1 else u D σ H1
theorem ps_if {c:Expr}{a b:List Stmt}{tc:TT}(hc:PT X c tc)(ha:PSs X a t)(hb:PSs X b u):PS X (.If c a b pos) (tIfS tc t u):=by
 intro pins s σ H D I h
 refine wpAny_If (thn (hc pins s σ H _ I h) fun d s1 ⟨H1,I1,q1⟩ => ?_)
 cases d with
 | true=>exact ha pins s1 σ H1 D I1 q1
 | false=>exact hb pins s1 σ H1 D I1 q1
def tNever:TS:=fun _ _ _=>False
theorem ps_never:PS X st tNever:=fun _ _ _ _ _ _ h=>h.elim
end
abbrev TG:=V->St->Hp->(St->Hp->Prop)->Prop
abbrev TGs:=List V->St->Hp->(St->Hp->Prop)->Prop
def PG (X:Cx)(target:Expr)(t:TG):Prop :=
 ∀ (pins:List (Addr × Obj)) (s:Shared) (σ:St) (H:Hp) (v:V) (u:Value) (Q:St->Hp->Prop),Inv X pins σ H s->RelV v u->t v σ H Q ->
  wpAny (model X.prog X.w) X.A (assign target X.env u) (fun _ s'=>∃ σ' H',Inv X pins σ' H' s'/\Q σ' H') X.xe s
def PGs (X:Cx)(ts:List Expr)(t:TGs):Prop :=
 ∀ (pins:List (Addr × Obj)) (s:Shared) (σ:St) (H:Hp) (vs:List V) (us:List Value) (Q:St->Hp->Prop),Inv X pins σ H s->Vals vs us->t vs σ H Q ->
  wpAny (model X.prog X.w) X.A (assignInOrder ((assignEach ts X.env).map (·.2)) us) (fun _ s'=>∃ σ' H',Inv X pins σ' H' s'/\Q σ' H') X.xe s
abbrev TSet:=V->V->V->Hp->(Hp->Prop)->Prop
def PSet (X:Cx)(t:TSet):Prop :=
 ∀ (pins:List (Addr × Obj)) (s:Shared) (σ:St) (H:Hp) (o i v:V) (ov iv u:Value) (Q:Hp->Prop),Inv X pins σ H s->RelV o ov->RelV i iv->RelV v u->t o i v H Q ->
  wpAny (model X.prog X.w) X.A (setItem ov iv u) (fun _ s'=>∃ H',Inv X pins σ H' s'/\Q H') X.xe s
abbrev TIp:=V->V->Hp->VK->Prop
def PIp (X:Cx)(op:Operator)(t:TIp):Prop :=
 ∀ (pins:List (Addr × Obj)) (s:Shared) (σ:St) (H:Hp) (x y:V) (v u:Value) (Q:VK),Inv X pins σ H s->RelV x v->RelV y u->t x y H Q ->
  wpAny (model X.prog X.w) X.A (inplaceOp op v u) (EP X pins σ Q) X.xe s
section
variable {X:Cx}{pos:Pos}
def gName (i:Nat):TG:=fun v σ H Q=>Q (σ.set i (some v)) H
theorem pg_name {i:Nat}{x:Str}(hN:X.N.Nodup)(hi:X.N[i]?=some x)(hx:Loc X.env.scope x)(hf:X.fn x=true\/X.env.scope.names.lookup x=some .local:=by first | exact .inl rfl | exact .inr rfl | assumption):PG X (.Name x pos) (gName i):=by
 intro pins s σ H v u Q I r h
 exact wpAny_assign_Name (store_ok I hN hi hx r (fun s' I'=>⟨_,H,I',h⟩) hf)
def gNil:TGs:=fun vs σ H Q=>vs=[]/\Q σ H
def gCons (t:TG)(u:TGs):TGs:=fun vs σ H Q=>∃ v r,vs=v :: r/\t v σ H fun σ' H'=>u r σ' H' Q
theorem pgs_nil:PGs X [] gNil:=by
 intro pins s σ H vs us Q I r h
 obtain ⟨e,h⟩:=h
 subst e
 cases r
 exact assignInOrder_nil ⟨σ,H,I,h⟩
theorem pgs_cons {e:Expr}{es:List Expr}{t:TG}{u:TGs}(h1:PG X e t)(h2:PGs X es u)
  (hs:(assignEach (e :: es) X.env).map (·.2)=assign e X.env :: (assignEach es X.env).map (·.2):=by rfl):PGs X (e :: es) (gCons t u):=by
 intro pins s σ H vs us Q I r h
 obtain ⟨v,vr,e1,h⟩:=h
 subst e1
 cases r with
 | cons r rr =>
  rw [hs]
  refine assignInOrder_cons (thn (h1 pins s σ H _ _ _ I r h) fun _ s1 ⟨σ1,H1,I1,q1⟩ => ?_)
  exact h2 pins s1 σ1 H1 _ _ Q I1 rr q1
def gTup (K:PySem.W.Frag)(n:Nat)(t:TGs):TG:=fun v σ H Q=>∃ a xs,v = .ref a/\SqT K H a xs/\xs.length=n/\t xs σ H Q
theorem pg_tup {es:List Expr}{k:Nat}{t:TGs}{n:Nat}(hc:X.calm=true)(h:PGs X es t)
  (hn:(assignEach es X.env).length=n:=by rfl) (hst:(assignEach es X.env).findIdx? (·.1)=none:=by rfl):PG X (.Tuple es k pos) (gTup X.K n t):=by
 intro pins s σ H v u Q I r hw
 obtain ⟨a,xs,e1,hq,hl,hw⟩:=hw
 subst e1
 cases r
 obtain ⟨its,rv,ht,hz⟩:=I.tuple hq
 refine assign_Tuple_tuple (I.ok.hd hc) ht (by simp [hn,<- hl,rv.length]) hst fun h' hx => ?_
 have I1:Inv X pins σ H { s with heap:=h' }:=I.kept (t':=s.toks) fun b o e=>hx b o (Nat.ne_of_lt (Heap.lt_size e)) e
 exact h pins _ σ H xs _ Q I1 (by simpa using rv) hw
def gSub (to ti:TE)(t:TSet):TG:=fun v σ H Q=>to σ H fun o H1=>ti σ H1 fun i H2=>t o i v H2 fun H3=>Q σ H3
theorem pg_sub {o i:Expr}{to ti:TE}{t:TSet}(ho:PE X o to)(hi:PE X i ti)(hs:PSet X t)
  (ha : ∀ v,assign (.Subscript o i pos) X.env v=(do
   let ov <- holding [v] (eval o X.env)
   let iv <- holding [v,ov] (eval i X.env)
   standAt pos
   holding [v,ov,iv] (setItem ov iv v)
   release [v,ov,iv] []):=by intro _; rfl):PG X (.Subscript o i pos) (gSub to ti t):=by
 intro pins s σ H v u Q I r h
 rw [ha]
 refine wpAny_bind (wpAny_holding (thn (ho pins s σ H _ I h) fun ov s1 ⟨x,H1,I1,r1,q1⟩ => ?_))
 refine wpAny_bind (wpAny_holding (thn (hi pins s1 σ H1 _ I1 q1) fun iv s2 ⟨y,H2,I2,r2,q2⟩ => ?_))
 refine wpAny_bind (wpAny_standAt (wpAny_bind (wpAny_holding (thn (hs pins s2 σ H2 x y v ov iv u _ I2 r1 r2 r q2) fun _ s3 ⟨H3,I3,q3⟩ => ?_))))
 exact wpAny_release ⟨σ,H3,I3,q3⟩
def tAsg (te:TE)(g:TG):TS:=fun D σ H=>te σ H fun x H1=>g x σ H1 D.nx
theorem ps_asg {tg e:Expr}{te:TE}{g:TG}(he:PE X e te)(hg:PG X tg g)(hs:swapsWithSole [tg] e pos.line X.env=pure false:=by rfl)(hw:swappedStores [tg] e X.env=pure none:=by rfl)
  (h1:(assignEach [tg] X.env).map (·.2)=[assign tg X.env]:=by rfl):PS X (.Assign [tg] e pos) (tAsg te g):=by
 intro pins s σ H D I h
 refine wpAny_Assign_stores (thn (he pins s σ H _ I h) fun v s1 ⟨x,H1,I1,r1,q1⟩ => ?_) hs hw
 rw [h1]
 exact thn (hg pins s1 σ H1 x v _ I1 r1 q1) fun _ s2 q=>q
theorem ps_set {i:Nat}{x:Str}{e:Expr}{te:TE}{pos':Pos}(hN:X.N.Nodup)(hi:X.N[i]?=some x)(hx:Loc X.env.scope x)(he:PE X e te)(hs:swapsWith e (some (.Name x pos')) pos.line X.env=pure false:=by rfl)(hf:X.fn x=true\/X.env.scope.names.lookup x=some .local:=by first | exact .inl rfl | exact .inr rfl | assumption) :
  PS X (.Assign [.Name x pos'] e pos) (tAsg te (gName i)):=by
 intro pins s σ H D I h
 refine wpAny_Assign_Name (thn (he pins s σ H _ I h) fun v s1 ⟨y,H1,I1,r1,q1⟩ => ?_) hs
 exact store_ok I1 hN hi hx r1 (fun s2 I2=>⟨_,H1,I2,q1⟩) hf
def tPar (i j:Nat)(ta:TA):TS:=fun D σ H=>ta σ H fun vs H1=>∃ v w,vs=[v,w]/\D.nx ((σ.set i (some v)).set j (some w)) H1
theorem ps_par {i j:Nat}{x y:Str}{a b:Expr}{ta:TA}{px py pt:Pos}{kt k2 pt2}(hc:X.calm=true)(hN:X.N.Nodup)(hi:X.N[i]?=some x)(hj:X.N[j]?=some y)(hij:i ≠ j)
  (hx:X.env.scope.names.lookup x=some .local) (hy:X.env.scope.names.lookup y=some .local) (ha:PA X [a,b] ta)
  (hw:swappedStores [.Tuple [.Name x px,.Name y py] kt pt] (.Tuple [a,b] k2 pt2) X.env=pure (some [x,y]))
  (hs:swapsWithSole [.Tuple [.Name x px,.Name y py] kt pt] (.Tuple [a,b] k2 pt2) pos.line X.env=pure false:=by rfl) :
  PS X (.Assign [.Tuple [.Name x px,.Name y py] kt pt] (.Tuple [a,b] k2 pt2) pos) (tPar i j ta):=by
 intro pins s σ H D I h
 rw [exec_Assign_arm]
 refine wpAny_bind (wpAny_standAt ?_)
 rw [hs]
 refine wpAny_bind (wpAny_pure ?_)
 rw [if_neg (by decide)]
 refine wpAny_bind (Tuple_ (thn (ha _ pins s σ H _ I h) fun us s1 ⟨vs,H1,I1,r1,q1⟩ => ?_))
 obtain ⟨v,w,e1,q1⟩:=q1
 subst e1
 obtain ⟨u1,u2,rfl,rv,rw'⟩ : ∃ u1 u2,us=[u1,u2]/\RelV v u1/\RelV w u2:=by
  cases r1 with
  | cons p q =>
   cases q with
   | cons p' q' =>
    cases q'
    exact ⟨_,_,rfl,p,p'⟩
 refine wpAny_newObj_type ?_ (by show 2<=sizeLine; decide)
 have I2:Inv X pins σ H1 { s1 with heap:=s1.heap.push { cls:=.type "tuple",data:=.seq [u1,u2].toArray } }:=I1.kept (t':=s1.toks) fun b o e=>Heap.get?_push_of_some _ e
 rw [hw]
 refine wpAny_bind (wpAny_pure ?_)
 show wpAny (model X.prog X.w) X.A (do rule "assign.swapped-stores"; let items <- unpackItems (.ref s1.heap.objs.size) 2 none; assignInOrder [fun v=>bindName X.env y v,fun v=>bindName X.env x v] items.reverse; pure Flow.next) _ _ _
 refine wpAny_bind (wpAny_rule (wpAny_bind (unpackItems_tuple (items := #[u1,u2]) (I.ok.hd hc) (IsTup.new s1.heap _) fun h' hx' => ?_)))
 have I3:=I2.kept (h':=h') (t':=s1.toks) fun b o e=>hx' b o (Nat.ne_of_lt (Heap.lt_size e)) e
 show wpAny _ _ (assignInOrder [fun v=>bindName X.env y v,fun v=>bindName X.env x v] [u2,u1] >>= fun _=>pure Flow.next) _ _ _
 refine wpAny_bind (assignInOrder_cons (wpAny_bindName (store_ok I3 hN hj (.inl hy) rw' (fun s2 I4 => ?_) (.inr hy))))
 refine assignInOrder_cons (wpAny_bindName (store_ok I4 hN hi (.inl hx) rv (fun s3 I5=>assignInOrder_nil (wpAny_pure ?_)) (.inr hx)))
 rw [List.set_comm _ _ (Ne.symm hij)] at I5
 exact ⟨_,H1,I5,q1⟩
def tAug (i:Nat)(te:TE)(ti:TIp):TS:=fun D σ H=>∃ x,σ[i]?=some (some x)/\te σ H fun y H1=>ti x y H1 fun z H2=>D.nx (σ.set i (some z)) H2
def tAugS (to ti te:TE)(tget:V->V->Hp->VK->Prop)(tip:TIp)(tset:TSet):TS:=fun D σ H=>to σ H fun o H1=>ti σ H1 fun i H2=>tget o i H2 fun x H3=>te σ H3 fun y H4=>tip x y H4 fun z H5=>tset o i z H5 fun H6=>D.nx σ H6
def PGet (X:Cx)(t:V->V->Hp->VK->Prop):Prop :=
 ∀ (pins:List (Addr × Obj)) (s:Shared) (σ:St) (H:Hp) (o i:V) (ov iv:Value) (Q:VK),Inv X pins σ H s->RelV o ov->RelV i iv->t o i H Q ->
  wpAny (model X.prog X.w) X.A (getItem ov iv) (EP X pins σ Q) X.xe s
def ipI (f:Int->Int->Int):TIp:=fun x y H Q=>∃ i j,x = .int i/\y = .int j/\Q (.int (f i j)) H
end
section
variable {X:Cx}{pos:Pos}
def tWhile (c:TT)(tb:TS):TS:=fun D σ H=>∃ W:Nat->St->Hp->Prop,(∃ m,W m σ H)/\∀ m σ H,W m σ H ->
 c σ H fun b H1=>if b=true then ∃ N:St->Hp->Prop,(∀ σ' H',N σ' H'->∃ m',m' < m/\W m' σ' H')/\tb { D with nx:=N,ct:=N,bk:=D.nx } σ H1 else D.nx σ H1
theorem ps_while {c:Expr}{body:List Stmt}{tc:TT}{tb:TS}(hp:PassesOwn (model X.prog X.w) X.A X.env X.xe)(hc:PT X c tc)(hb:PSs X body tb):PS X (.While c body [] pos) (tWhile tc tb):=by
 intro pins s σ H D I h
 obtain ⟨W,⟨m0,w0⟩,turn⟩:=h
 refine wpAny_While (codeAny_whileLoop (fun n s'=>∃ σ' H',Inv X pins σ' H' s'/\W n σ' H') ?_ m0 ⟨σ,H,I,w0⟩)
 rintro n s1 ⟨σ1,H1,I1,w1⟩
 refine wpAny_passesOwn hp (thn (hc pins s1 σ1 H1 _ I1 (turn n σ1 H1 w1)) fun b s2 ⟨H2,I2,q2⟩ => ?_)
 cases b with
 | true =>
  obtain ⟨N,hN,q2⟩:=q2
  rw [if_pos rfl]
  refine wpAny_passesOwn hp (thn (hb pins s2 σ1 H2 _ I2 q2) fun f s3 q3 => ?_)
  cases f with
  | next =>
   obtain ⟨σ3,H3,I3,n3⟩:=q3
   obtain ⟨m',hm,w3⟩:=hN σ3 H3 n3
   exact ⟨m',hm,σ3,H3,I3,w3⟩
  | cont =>
   obtain ⟨σ3,H3,I3,n3⟩:=q3
   obtain ⟨m',hm,w3⟩:=hN σ3 H3 n3
   exact ⟨m',hm,σ3,H3,I3,w3⟩
  | brk=>exact q3
  | ret v=>exact q3
 | false =>
  rw [if_neg Bool.false_ne_true]
  exact wpAny_execs_nil ⟨σ1,H2,I2,q2⟩
end
structure It where
 go:Nat->Hp->Prop
 yld:Nat->Hp->V->Hp->Prop
 stop:Nat->Hp->Prop
def FpOk (X:Cx)(pins:List (Addr × Obj))(H:Hp)(b:Addr):Prop :=
 H b=none/\b ≠ X.env.locals/\b ∉ X.fs/\(b ∈ X.ex\/X.s₀.heap.objs.size<=b)/\(∀ x c,X.env.cells.lookup x=some c->c ≠ b)/\∀ p ∈ X.pn ++ pins,p.1 ≠ b
theorem Inv.fpOk {X:Cx}{pins:List (Addr × Obj)}{σ:St}{H H':Hp}{s:Shared}{b:Addr}(I:Inv X pins σ H s)(hb:s.heap.objs.size<=b)(hn:H' b=none):FpOk X pins H' b:=by
 refine ⟨hn,Nat.ne_of_gt (Nat.lt_of_lt_of_le I.lt hb),I.nofs hb,.inr (Nat.le_trans I.sz hb),fun x c e z => ?_,fun p hp z => ?_⟩
 ·obtain ⟨v,q⟩:=I.cell x c e
  exact absurd (Nat.lt_of_lt_of_le q.lt (by rw [z]; exact hb)) (Nat.lt_irrefl _)
 ·exact absurd (Nat.lt_of_lt_of_le (Heap.lt_size (I.pin p hp).1) (by rw [z]; exact hb)) (Nat.lt_irrefl _)
structure Turn (P:Program)(w:World)(K:PySem.W.Frag)(tg:Expr)(J:It)(fp:List Addr)(it:Addr)(tn:Nat->Heap->Prop):Prop where
 mem:it ∈ fp
 obj : ∀ i h,tn i h->∀ b ∈ fp,∃ o,h.get? b=some o/\∀ v,o.data ≠ .cell v
 keep : ∀ i h h',tn i h->(∀ b ∈ fp,∀ o,h.get? b=some o->h'.get? b=some o)->tn i h'
 item : ∀ (X:Cx),X.prog=P->X.w=w->X.K=K->X.calm=true->∀ (i:Nat) (pins:List (Addr × Obj)) (s:Shared) (σ:St) (H:Hp) (E:Value->Shared->Prop),Inv X pins σ H s->(∀ b ∈ fp,FpOk X pins H b)->tn i s.heap->J.go i H ->
  wpAny (model P w) X.A (pyNext (.ref it)) (fun r s1=>∃ u,r=some u /\
   wpAny (model P w) X.A (letOwnedTupleGo tg (.ref it) u) (fun _ s2=>∃ x H',Inv X pins σ H' s2/\RelV x u/\J.yld i H x H'/\tn (i+1) s2.heap/\∀ b ∈ fp,H' b=none) E s1) E s
 done : ∀ (X:Cx),X.prog=P->X.w=w->X.K=K->X.calm=true->∀ (i:Nat) (pins:List (Addr × Obj)) (s:Shared) (σ:St) (H:Hp) (E:Value->Shared->Prop),Inv X pins σ H s->(∀ b ∈ fp,FpOk X pins H b)->tn i s.heap->J.stop i H ->
  wpAny (model P w) X.A (pyNext (.ref it)) (fun r s1=>r=none/\Inv X pins σ H s1) E s
 self : ∀ (A:Around) (i:Nat) (s:Shared) (Q:Value->Shared->Prop) (E:Value->Shared->Prop),tn i s.heap->Q (.ref it) s->wpAny (model P w) A (pyIter (.ref it)) Q E s
abbrev TI:=St->Hp->(It->Hp->Prop)->Prop
def PIE (X:Cx)(pins:List (Addr × Obj))(σ:St)(tg:Expr)(R:It->Hp->Prop)(itv:Value)(s2:Shared):Prop :=
 ∃ (it:Addr) (fp:List Addr) (tn:Nat->Heap->Prop) (J:It) (H':Hp),itv = .ref it/\Inv X pins σ H' s2/\Turn X.prog X.w X.K tg J fp it tn/\tn 0 s2.heap/\(∀ b ∈ fp,FpOk X pins H' b)/\R J H'
def PI (X:Cx)(tg iter:Expr)(wi:TI):Prop :=
 ∀ (pins:List (Addr × Obj)) (s:Shared) (σ:St) (H:Hp) (R:It->Hp->Prop),Inv X pins σ H s->wi σ H R ->
  wpAny (model X.prog X.w) X.A (eval iter X.env) (fun v s1=>wpAny (model X.prog X.w) X.A (pyIter v) (PIE X pins σ tg R) X.xe s1) X.xe s
theorem go_of {M:Model}{A:Around}{E:Value->Shared->Prop}{s:Shared}{tg:Expr}{it:Addr}{u:Value}{o:Obj}{n:String}{vs:Array Value}{Q:Unit->Shared->Prop}(ho:s.heap.get? it=some o)(hc:o.cls = .type n)(hd:o.data = .fields vs)
    (hn:["enumerate","zip","dict_itemiterator","dict_reverseitemiterator","odict_iterator","itertools.zip_longest","itertools.pairwise"].contains n=false) (hQ:Q () s):wpAny M A (letOwnedTupleGo tg (.ref it) u) Q E s:=by
  unfold letOwnedTupleGo
  cases tg <;> first
    | exact wpAny_pure hQ
    | (cases u <;> first
        | exact wpAny_pure hQ
        | (refine wpAny_bind (wpAny_load ho ?_)
           rw [hc,hd]
           show wpAny M A (if (["enumerate","zip","dict_itemiterator","dict_reverseitemiterator","odict_iterator","itertools.zip_longest","itertools.pairwise"].contains n && vs[0]? == some (rawInt _))=true then _ else _) Q E s
           rw [if_neg (by intro h; rw [hn,Bool.false_and] at h; cases h)]
           exact wpAny_pure hQ))
def Itl (K:PySem.W.Frag)(a:Addr):It :=
 ⟨fun i H=>∃ xs x,SqL K H a xs/\xs[i]?=some x,fun i H x H'=>H'=H/\∀ xs,SqL K H a xs->xs[i]?=some x,fun i H=>∃ xs,SqL K H a xs/\xs.length<=i⟩
def Itt (K:PySem.W.Frag)(a:Addr):It :=
 ⟨fun i H=>∃ xs x,SqT K H a xs/\xs[i]?=some x,fun i H x H'=>H'=H/\∀ xs,SqT K H a xs->xs[i]?=some x,fun i H=>∃ xs,SqT K H a xs/\xs.length<=i⟩
def Itr (lo:Int)(n:Nat):It:=⟨fun i _=>i < n,fun i H x H'=>H'=H/\x = .int (lo+i),fun i _=>n<=i⟩
theorem turn_list {P:Program}{w:World}{K:PySem.W.Frag}{tg:Expr}(a it:Addr):Turn P w K tg (Itl K a) [it] it (fun i h=>h.IsListIter it a i) where
 mem:=by simp
 obj:=fun i h st b hb=>by
  have e:b=it:=by simpa using hb
  subst e
  obtain ⟨o,e,c,d⟩:=st
  exact ⟨o,e,fun v z=>by rw [d] at z; cases z⟩
 keep:=fun i h h' st k=>st.at fun o e=>k it (by simp) o e
 item:=by
  intro X hP hw hK hc i pins s σ H E I hf st hg
  subst hP hw hK
  obtain ⟨xs,x,hq,hx⟩:=hg
  obtain ⟨its,rv,p,hz⟩:=I.list hq
  obtain ⟨u,hu,ru⟩:=rv.get hx
  obtain ⟨f0,f1,f2,f3,f4,f5⟩:=hf it (by simp)
  refine wpAny_pyNext_list_item st p.isList (x:=u) (by simpa using hu) fun h' st' sb => ?_
  have I1:Inv X pins σ H { s with heap:=h' }:=I.turned (t':=s.toks) (fun b o hb e=>(sb.2 b hb).trans e) f0 f1 f3 f4 f5
  obtain ⟨o,e,c,d⟩:=id st'
  exact ⟨u,rfl,go_of (s:={ s with heap:=h' }) e c d (by decide) ⟨x,H,I1,ru,⟨rfl,fun ys hy=>by rw [I.list_inj hy hq]; exact hx⟩,st',fun b hb=>(hf b hb).1⟩⟩
 done:=by
  intro X hP hw hK hc i pins s σ H E I hf st hg
  subst hP hw hK
  obtain ⟨xs,hq,hx⟩:=hg
  obtain ⟨its,rv,p,hz⟩:=I.list hq
  obtain ⟨f0,f1,f2,f3,f4,f5⟩:=hf it (by simp)
  have hl:=rv.length
  exact wpAny_pyNext_list_end (I.ok.hd hc) st p.isList (by simp; omega) fun h' eb=>⟨rfl,I.turned (t':=s.toks) (fun b o hb e=>eb b o hb e) f0 f1 f3 f4 f5⟩
 self:=fun _ _ _ _ _ st h=>wpAny_pyIter_listiter st h
theorem turn_tuple {P:Program}{w:World}{K:PySem.W.Frag}{tg:Expr}(a it:Addr):Turn P w K tg (Itt K a) [it] it (fun i h=>h.IsTupleIter it a i) where
 mem:=by simp
 obj:=fun i h st b hb=>by
  have e:b=it:=by simpa using hb
  subst e
  obtain ⟨o,e,c,d⟩:=st
  exact ⟨o,e,fun v z=>by rw [d] at z; cases z⟩
 keep:=fun i h h' st k=>st.at fun o e=>k it (by simp) o e
 item:=by
  intro X hP hw hK hc i pins s σ H E I hf st hg
  subst hP hw hK
  obtain ⟨xs,x,hq,hx⟩:=hg
  obtain ⟨its,rv,p,hz⟩:=I.tuple hq
  obtain ⟨u,hu,ru⟩:=rv.get hx
  obtain ⟨f0,f1,f2,f3,f4,f5⟩:=hf it (by simp)
  refine wpAny_pyNext_tuple_item st (show s.heap.IsTuple a its.toArray from p) (x:=u) (by simpa using hu) fun h' st' sb => ?_
  have I1:Inv X pins σ H { s with heap:=h' }:=I.turned (t':=s.toks) (fun b o hb e=>(sb.2 b hb).trans e) f0 f1 f3 f4 f5
  obtain ⟨o,e,c,d⟩:=id st'
  exact ⟨u,rfl,go_of (s:={ s with heap:=h' }) e c d (by decide) ⟨x,H,I1,ru,⟨rfl,fun ys hy=>by rw [I.tuple_inj hy hq]; exact hx⟩,st',fun b hb=>(hf b hb).1⟩⟩
 done:=by
  intro X hP hw hK hc i pins s σ H E I hf st hg
  subst hP hw hK
  obtain ⟨xs,hq,hx⟩:=hg
  obtain ⟨its,rv,p,hz⟩:=I.tuple hq
  obtain ⟨f0,f1,f2,f3,f4,f5⟩:=hf it (by simp)
  have hl:=rv.length
  exact wpAny_pyNext_tuple_end (I.ok.hd hc) st (show s.heap.IsTuple a its.toArray from p) (by simp; omega) fun h' eb=>⟨rfl,I.turned (t':=s.toks) (fun b o hb e=>eb b o hb e) f0 f1 f3 f4 f5⟩
 self:=fun _ _ _ _ _ st h=>wpAny_pyIter_tupleiter st h
theorem turn_range {P:Program}{w:World}{K:PySem.W.Frag}{tg:Expr}(it:Addr)(lo:Int)(n:Nat):Turn P w K tg (Itr lo n) [it] it (fun i h=>IsRangeIter h it (lo+(i:Nat)*1) ((n:Int) - (i:Nat)) 1) where
 mem:=by simp
 obj:=fun i h st b hb=>by
  have e:b=it:=by simpa using hb
  subst e
  exact ⟨_,st,fun v z=>by
   have z':Data.fields _=Data.cell v:=z
   cases z'⟩
 keep:=fun i h h' st k=>k it (by simp) _ st
 item:=by
  intro X hP hw hK hc i pins s σ H E I hf st hg
  subst hP hw hK
  obtain ⟨f0,f1,f2,f3,f4,f5⟩:=hf it (by simp)
  have W:=Walks.range (prog:=X.prog) (w:=X.w) (I.ok.hd hc) it lo 1 n
  refine W.item i s _ _ hg st fun v h' tk hv st' kk => ?_
  obtain ⟨t,rfl⟩:=hv
  have I1:Inv X pins σ H { s with heap:=h',toks:=tk }:=I.turned (fun b o hb e=>kk b o (by simpa using hb) e) f0 f1 f3 f4 f5
  refine ⟨_,rfl,go_of (s:={ s with heap:=h',toks:=tk }) (n := "range_iterator") st' rfl rfl (by decide) ⟨.int (lo+i),H,I1,⟨t,?_⟩,⟨rfl,rfl⟩,st',fun b hb=>(hf b hb).1⟩⟩
  rw [Int.mul_one]
 done:=by
  intro X hP hw hK hc i pins s σ H E I hf st hg
  subst hP hw hK
  obtain ⟨f0,f1,f2,f3,f4,f5⟩:=hf it (by simp)
  exact wpAny_pyNext_range_end (I.ok.hd hc) st (by have:n<=i:=hg; omega) fun h' eb=>⟨rfl,I.turned (t':=s.toks) (fun b o hb e=>eb b o hb e) f0 f1 f3 f4 f5⟩
 self:=fun _ _ _ _ _ st h=>wpAny_pyIter_rangeiter st h
end L2
namespace L2
open PySem PySem.Spec PyProof.Rows
section
variable {X:Cx}{tg:Expr}
def iList (K:PySem.W.Frag)(tl:TE):TI:=fun σ H R=>tl σ H fun x H1=>∃ a,x = .ref a/\(∃ xs,SqL K H1 a xs)/\R (Itl K a) H1
def iTup (K:PySem.W.Frag)(tl:TE):TI:=fun σ H R=>tl σ H fun x H1=>∃ a,x = .ref a/\(∃ xs,SqT K H1 a xs)/\R (Itt K a) H1
theorem pi_list {l:Expr}{tl:TE}(hl:PE X l tl):PI X tg l (iList X.K tl):=by
 intro pins s σ H R I h
 refine thn (hl pins s σ H _ I h) fun v s1 ⟨x,H1,I1,r1,q1⟩ => ?_
 obtain ⟨a,e,⟨xs,hq⟩,q⟩:=q1
 subst e
 cases r1
 obtain ⟨its,rv,p,hz⟩:=I1.list hq
 refine wpAny_pyIter_list p.isList ?_
 refine ⟨s1.heap.objs.size,[s1.heap.objs.size],_,_,H1,rfl,I1.kept (t':=s1.toks) fun b o e=>Heap.get?_push_of_some _ e,turn_list a _,⟨_,Heap.get?_push_size _ rfl,rfl,rfl⟩,fun b hb => ?_,q⟩
 have e:b=s1.heap.objs.size:=by simpa using hb
 subst e
 exact I1.fpOk (Nat.le_refl _) (I1.hok.fresh (Nat.le_refl _))
theorem pi_tup {l:Expr}{tl:TE}(hl:PE X l tl):PI X tg l (iTup X.K tl):=by
 intro pins s σ H R I h
 refine thn (hl pins s σ H _ I h) fun v s1 ⟨x,H1,I1,r1,q1⟩ => ?_
 obtain ⟨a,e,⟨xs,hq⟩,q⟩:=q1
 subst e
 cases r1
 obtain ⟨its,rv,p,hz⟩:=I1.tuple hq
 refine wpAny_pyIter_tuple (show s1.heap.IsTuple a its.toArray from p) ?_
 refine ⟨s1.heap.objs.size,[s1.heap.objs.size],_,_,H1,rfl,I1.kept (t':=s1.toks) fun b o e=>Heap.get?_push_of_some _ e,turn_tuple a _,⟨_,Heap.get?_push_size _ rfl,rfl,rfl⟩,fun b hb => ?_,q⟩
 have e:b=s1.heap.objs.size:=by simpa using hb
 subst e
 exact I1.fpOk (Nat.le_refl _) (I1.hok.fresh (Nat.le_refl _))
theorem range_it {pins:List (Addr × Obj)}{σ:St}{H:Hp}{s:Shared}{R:It->Hp->Prop}{E:Value->Shared->Prop}{lo hi:Int}{t u v:Tok}{tk:Nat}(I:Inv X pins σ H s)(h1 : -(2 ^ 62)<=lo)(h2:lo < 2 ^ 62)(h3 : -(2 ^ 62)<=hi)(h4:hi < 2 ^ 62)
  (q:R (Itr lo (hi - lo).toNat) H):wpAny (model X.prog X.w) X.A (pyIter (.ref s.heap.objs.size)) (PIE X pins σ tg R) E { s with heap:=s.heap.push { cls:=.type "range",data:=.fields #[.int lo t,.int hi u,.int 1 v] },toks:=tk }:=by
 refine wpAny_pyIter_range (IsRange.new ..) (small_one h1 h2 h3 h4) ?_
 have I1:Inv X pins σ H { s with heap:=s.heap.push { cls:=.type "range",data:=.fields #[.int lo t,.int hi u,.int 1 v] },toks:=tk }:=I.kept fun b o e=>Heap.get?_push_of_some _ e
 refine ⟨(s.heap.push { cls:=.type "range",data:=.fields #[.int lo t,.int hi u,.int 1 v] }).objs.size,[(s.heap.push { cls:=.type "range",data:=.fields #[.int lo t,.int hi u,.int 1 v] }).objs.size],_,_,H,rfl,
  I1.kept (t':=tk) fun b o e=>Heap.get?_push_of_some _ e,turn_range _ lo (hi - lo).toNat,?_,fun b hb => ?_,q⟩
 ·have e1:lo+((0:Nat):Int)*1=lo:=by simp
  have e2:(((hi - lo).toNat:Nat):Int) - ((0:Nat):Int)=Builtin.Range.rangeSize lo hi 1:=by rw [rangeSize_one]; split <;> omega
  show IsRangeIter _ _ (lo+((0:Nat):Int)*1) ((((hi - lo).toNat:Nat):Int) - ((0:Nat):Int)) 1
  rw [e1,e2]
  exact Heap.get?_push_size _ rfl
 ·have e:b=(s.heap.push { cls:=.type "range",data:=.fields #[.int lo t,.int hi u,.int 1 v] }).objs.size:=by simpa using hb
  subst e
  exact I1.fpOk (Nat.le_refl _) (I1.hok.fresh (Nat.le_refl _))
def iRng1 (ta:TA):TI:=fun σ H R=>ta σ H fun vs H1=>∃ j:Int,vs=[.int j] /\ -(2 ^ 62)<=j/\j < 2 ^ 62/\R (Itr 0 j.toNat) H1
def iRng2 (ta:TA):TI:=fun σ H R=>ta σ H fun vs H1=>∃ i j:Int,vs=[.int i,.int j]/\(-(2 ^ 62)<=i/\i < 2 ^ 62 /\ -(2 ^ 62)<=j/\j < 2 ^ 62)/\R (Itr i (j - i).toNat) H1
theorem pi_range1 {a:Expr}{ta:TA}{p pos:Pos}(hg:Gl X "range")(hm:X.mg "range" = none)(ha:PA X [a] ta)(hs:starEach [a] X.env=[(false,eval a X.env)]:=by rfl):PI X tg (.Call (.Name "range" p) [a] [] pos) (iRng1 ta):=by
 intro pins s σ H R I h
 refine Call_ (ld_blt I hg hm boot_range (PyProof.Rows.callWith_type1 (thn (ha pos pins s σ H _ I h) fun us s1 ⟨vs,H1,I1,r1,q1⟩ => ?_) hs rfl))
 obtain ⟨j,e,q1,q2,q⟩:=q1
 subst e
 cases r1 with
 | cons r rr =>
  cases rr
  obtain ⟨t,rfl⟩:=r
  exact call_range_1 (range_it I1 (by omega) (by omega) q1 q2 (by simpa using q))
theorem pi_range2 {a b:Expr}{ta:TA}{p pos:Pos}(hg:Gl X "range")(hm:X.mg "range" = none)(ha:PA X [a,b] ta)(hs:starEach [a,b] X.env=[(false,eval a X.env),(false,eval b X.env)]:=by rfl)(hs2:starEach [b] X.env=[(false,eval b X.env)]:=by rfl) :
  PI X tg (.Call (.Name "range" p) [a,b] [] pos) (iRng2 ta):=by
 intro pins s σ H R I h
 refine Call_ (ld_blt I hg hm boot_range (PyProof.Rows.callWith_type1 (thn (ha pos pins s σ H _ I h) fun us s1 ⟨vs,H1,I1,r1,q1⟩ => ?_) (by rw [hs,hs2]) (by rw [hs2]; rfl)))
 obtain ⟨i,j,e,⟨q1,q2,q3,q4⟩,q⟩:=q1
 subst e
 cases r1 with
 | cons r rr =>
  cases rr with
  | cons r' rr =>
   cases rr
   obtain ⟨t,rfl⟩:=r
   obtain ⟨t',rfl⟩:=r'
   exact call_range_2 (range_it I1 q1 q2 q3 q4 q)
def tFor (wi:TI)(g:TG)(tb:TS):TS:=fun D σ H=>wi σ H fun J H1=>∃ W:Nat->Nat->St->Hp->Prop,(∃ m,W 0 m σ H1)/\∀ i m σ H,W i m σ H ->
 (J.stop i H/\D.nx σ H)\/(J.go i H/\∃ N:St->Hp->Prop,(∀ σ' H',N σ' H'->∃ m',m' < m/\W (i+1) m' σ' H')/\∀ x H',J.yld i H x H'->g x σ H' fun σ2 H2=>tb { D with nx:=N,ct:=N,bk:=D.nx } σ2 H2)
def pinsAt (fp:List Addr)(h:Heap):List (Addr × Obj):=fp.filterMap fun b=>(h.get? b).map fun o=>(b,o)
theorem mem_pinsAt {fp:List Addr}{h:Heap}{b:Addr}{o:Obj}(hb:b ∈ fp)(e:h.get? b=some o):(b,o) ∈ pinsAt fp h:=List.mem_filterMap.mpr ⟨b,hb,by rw [e]; rfl⟩
theorem of_pinsAt {fp:List Addr}{h:Heap}{p:Addr × Obj}(hp:p ∈ pinsAt fp h):p.1 ∈ fp/\h.get? p.1=some p.2:=by
 obtain ⟨b,hb,e⟩:=List.mem_filterMap.mp hp
 cases q:h.get? b with
 | none=>rw [q] at e; cases e
 | some o =>
  rw [q] at e
  have e':(b,o)=p:=Option.some.inj e
  subst e'
  exact ⟨hb,q⟩
theorem Inv.pinned {pins:List (Addr × Obj)}{σ:St}{H:Hp}{s:Shared}{fp:List Addr}(I:Inv X pins σ H s)(hf : ∀ b ∈ fp,FpOk X pins H b)(ho : ∀ b ∈ fp,∃ o,s.heap.get? b=some o/\∀ v,o.data ≠ .cell v):Inv X (pins ++ pinsAt fp s.heap) σ H s :=
 I.pins_of fun p hp=>(List.mem_append.mp hp).elim (fun z=>I.pin p (List.mem_append_right _ z)) fun z=>by
  obtain ⟨hb,e⟩:=of_pinsAt z
  obtain ⟨f0,f1,f2,_⟩:=hf p.1 hb
  obtain ⟨o,e',d⟩:=ho p.1 hb
  rw [e] at e'; cases e'
  exact ⟨e,f0,f1,f2,d⟩
theorem Inv.unpinned {pins pl:List (Addr × Obj)}{σ:St}{H:Hp}{s:Shared}(I:Inv X (pins ++ pl) σ H s):Inv X pins σ H s:=I.pins_of fun p hp=>I.pin p (List.mem_append_right _ (List.mem_append_left _ hp))
theorem ps_for {iter:Expr}{body:List Stmt}{wi:TI}{g:TG}{tb:TS}{pos:Pos}(hp:PassesOwn (model X.prog X.w) X.A X.env X.xe)(hc:X.calm=true)(hi:PI X tg iter wi)(hg:PG X tg g)(hb:PSs X body tb)
  (hs : ∀ x,foldedSetIterable iter X.env x=pure x:=by intro _; rfl):PS X (.For tg iter body [] pos) (tFor wi g tb):=by
 intro pins s σ H D I h
 refine wpAny_For (thn (hi pins s σ H _ I h) fun v s1 h1=>thn h1 fun itv s2 h2 => ?_) hs
 obtain ⟨it,fp,tn,J,H2,e,I2,T,st2,f2,W,⟨m0,w0⟩,turn⟩:=h2
 subst e
 have stat : ∀ {H':Hp},(∀ b ∈ fp,H' b=none)->∀ b ∈ fp,FpOk X pins H' b:=fun hn b hb=>⟨hn b hb,(f2 b hb).2⟩
 refine codeAny_forLoop_any (fun n s'=>∃ i σ' H',Inv X pins σ' H' s'/\tn i s'.heap/\(∀ b ∈ fp,H' b=none)/\W i n σ' H') ?_ m0 ⟨0,σ,H2,I2,st2,fun b hb=>(f2 b hb).1,w0⟩
 rintro n s3 ⟨i,σ3,H3,I3,st3,fr3,w3⟩
 rcases turn i n σ3 H3 w3 with ⟨stop,qn⟩ | ⟨go,N,hN,step⟩
 ·refine wpAny_passesOwn hp (thn (T.done X rfl rfl rfl hc i pins s3 σ3 H3 X.xe I3 (stat fr3) st3 stop) fun r s4 ⟨hr,I4⟩ => ?_)
  subst hr
  exact wpAny_execs_nil ⟨σ3,H3,I4,qn⟩
 ·refine wpAny_passesOwn hp (thn (T.item X rfl rfl rfl hc i pins s3 σ3 H3 X.xe I3 (stat fr3) st3 go) fun r s4 ⟨u,hr,h4⟩ => ?_)
  subst hr
  refine wpAny_passesOwn hp (thn h4 fun _ s5 ⟨x,H5,I5,r5,y5,st5,fr5⟩ => ?_)
  have I5':=I5.pinned (stat fr5) (T.obj _ _ st5)
  refine wpAny_passesOwn hp (thn (hg _ s5 σ3 H5 x u _ I5' r5 (step x H5 y5)) fun _ s6 ⟨σ6,H6,I6,q6⟩ => ?_)
  refine wpAny_passesOwn hp (thn (hb _ s6 σ6 H6 _ I6 q6) fun f s7 q7 => ?_)
  have again : ∀ {σ7:St} {H7:Hp},Inv X (pins ++ pinsAt fp s5.heap) σ7 H7 s7->N σ7 H7->∃ m,m < n/\∃ i σ' H',Inv X pins σ' H' s7/\tn i s7.heap/\(∀ b ∈ fp,H' b=none)/\W i m σ' H':=fun {σ7 H7} I7 n7=>by
   obtain ⟨m',hm,w7⟩:=hN σ7 H7 n7
   refine ⟨m',hm,i+1,σ7,H7,I7.unpinned,T.keep _ _ _ st5 fun b hb o e=>(I7.pin (b,o) (List.mem_append_right _ (List.mem_append_right _ (mem_pinsAt hb e)))).1,fun b hb => ?_,w7⟩
   obtain ⟨o,e,d⟩:=T.obj _ _ st5 b hb
   exact (I7.pin (b,o) (List.mem_append_right _ (List.mem_append_right _ (mem_pinsAt hb e)))).2.1
  cases f with
  | next=>obtain ⟨σ7,H7,I7,n7⟩:=q7; exact again I7 n7
  | cont=>obtain ⟨σ7,H7,I7,n7⟩:=q7; exact again I7 n7
  | brk=>obtain ⟨σ7,H7,I7,q7⟩:=q7; exact ⟨σ7,H7,I7.unpinned,q7⟩
  | ret v=>obtain ⟨x7,σ7,H7,I7,r7,q7⟩:=q7; exact ⟨x7,σ7,H7,I7.unpinned,r7,q7⟩
end
theorem for_list {K:PySem.W.Frag}{a:Addr}{xs:List V}{g:TG}{tb:TS}{D:Ends}{σ:St}{H:Hp}(Pv:Nat->St->Hp->Prop)(h0:Pv 0 σ H)(hl : ∀ i σ H,i<=xs.length->Pv i σ H->SqL K H a xs)
  (hs : ∀ i x σ H,xs[i]?=some x->Pv i σ H->g x σ H fun σ2 H2=>tb { D with nx:=Pv (i+1),ct:=Pv (i+1),bk:=D.nx } σ2 H2) (hd : ∀ σ H,Pv xs.length σ H->D.nx σ H) :
  ∃ W:Nat->Nat->St->Hp->Prop,(∃ m,W 0 m σ H)/\∀ i m σ H,W i m σ H ->
   ((Itl K a).stop i H/\D.nx σ H)\/((Itl K a).go i H/\∃ N:St->Hp->Prop,(∀ σ' H',N σ' H'->∃ m',m' < m/\W (i+1) m' σ' H')/\∀ x H',(Itl K a).yld i H x H'->g x σ H' fun σ2 H2=>tb { D with nx:=N,ct:=N,bk:=D.nx } σ2 H2):=by
 refine ⟨fun i m σ H=>m=xs.length - i/\i<=xs.length/\Pv i σ H,⟨xs.length,by simp,Nat.zero_le _,h0⟩,?_⟩
 rintro i m σ H ⟨rfl,hi,p⟩
 have q:=hl i σ H hi p
 by_cases hlt:i < xs.length
 ·refine .inr ⟨⟨xs,xs[i],q,by simp [hlt]⟩,Pv (i+1),fun σ' H' p'=>⟨xs.length - (i+1),by omega,rfl,hlt,p'⟩,fun x H' y => ?_⟩
  obtain ⟨e,y⟩:=y
  subst e
  exact hs i x σ _ (y xs q) p
 ·have e:i=xs.length:=by omega
  subst e
  exact .inl ⟨⟨xs,q,Nat.le_refl _⟩,hd σ H p⟩
theorem for_tup {K:PySem.W.Frag}{a:Addr}{xs:List V}{g:TG}{tb:TS}{D:Ends}{σ:St}{H:Hp}(Pv:Nat->St->Hp->Prop)(h0:Pv 0 σ H)(hl : ∀ i σ H,i<=xs.length->Pv i σ H->SqT K H a xs)
  (hs : ∀ i x σ H,xs[i]?=some x->Pv i σ H->g x σ H fun σ2 H2=>tb { D with nx:=Pv (i+1),ct:=Pv (i+1),bk:=D.nx } σ2 H2) (hd : ∀ σ H,Pv xs.length σ H->D.nx σ H) :
  ∃ W:Nat->Nat->St->Hp->Prop,(∃ m,W 0 m σ H)/\∀ i m σ H,W i m σ H ->
   ((Itt K a).stop i H/\D.nx σ H)\/((Itt K a).go i H/\∃ N:St->Hp->Prop,(∀ σ' H',N σ' H'->∃ m',m' < m/\W (i+1) m' σ' H')/\∀ x H',(Itt K a).yld i H x H'->g x σ H' fun σ2 H2=>tb { D with nx:=N,ct:=N,bk:=D.nx } σ2 H2):=by
 refine ⟨fun i m σ H=>m=xs.length - i/\i<=xs.length/\Pv i σ H,⟨xs.length,by simp,Nat.zero_le _,h0⟩,?_⟩
 rintro i m σ H ⟨rfl,hi,p⟩
 have q:=hl i σ H hi p
 by_cases hlt:i < xs.length
 ·refine .inr ⟨⟨xs,xs[i],q,by simp [hlt]⟩,Pv (i+1),fun σ' H' p'=>⟨xs.length - (i+1),by omega,rfl,hlt,p'⟩,fun x H' y => ?_⟩
  obtain ⟨e,y⟩:=y
  subst e
  exact hs i x σ _ (y xs q) p
 ·have e:i=xs.length:=by omega
  subst e
  exact .inl ⟨⟨xs,q,Nat.le_refl _⟩,hd σ H p⟩
theorem for_range {lo:Int}{n:Nat}{g:TG}{tb:TS}{D:Ends}{σ:St}{H:Hp}(Pv:Nat->St->Hp->Prop)(h0:Pv 0 σ H)
  (hs : ∀ i σ H,i < n->Pv i σ H->g (.int (lo+i)) σ H fun σ2 H2=>tb { D with nx:=Pv (i+1),ct:=Pv (i+1),bk:=D.nx } σ2 H2) (hd : ∀ σ H,Pv n σ H->D.nx σ H) :
  ∃ W:Nat->Nat->St->Hp->Prop,(∃ m,W 0 m σ H)/\∀ i m σ H,W i m σ H ->
   ((Itr lo n).stop i H/\D.nx σ H)\/((Itr lo n).go i H/\∃ N:St->Hp->Prop,(∀ σ' H',N σ' H'->∃ m',m' < m/\W (i+1) m' σ' H')/\∀ x H',(Itr lo n).yld i H x H'->g x σ H' fun σ2 H2=>tb { D with nx:=N,ct:=N,bk:=D.nx } σ2 H2):=by
 refine ⟨fun i m σ H=>m=n - i/\i<=n/\Pv i σ H,⟨n,by simp,Nat.zero_le _,h0⟩,?_⟩
 rintro i m σ H ⟨rfl,hi,p⟩
 by_cases hlt:i < n
 ·refine .inr ⟨hlt,Pv (i+1),fun σ' H' p'=>⟨n - (i+1),by omega,rfl,hlt,p'⟩,fun x H' y => ?_⟩
  obtain ⟨e,y⟩:=y
  subst e y
  exact hs i σ _ hlt p
 ·have e:i=n:=by omega
  subst e
  exact .inl ⟨Nat.le_refl _,hd σ H p⟩
theorem while_by {c:TT}{tb:TS}{D:Ends}{σ:St}{H:Hp}(Pv:St->Hp->Prop)(μ:St->Hp->Nat)(h0:Pv σ H)
  (hs : ∀ σ H,Pv σ H->c σ H fun b H1=>if b=true then tb { D with nx:=fun σ' H'=>Pv σ' H'/\μ σ' H' < μ σ H,ct:=fun σ' H'=>Pv σ' H'/\μ σ' H' < μ σ H,bk:=D.nx } σ H1 else D.nx σ H1)
  (mono : ∀ σ H Q Q',(∀ b H1,Q b H1->Q' b H1)->c σ H Q->c σ H Q'):tWhile c tb D σ H:=by
 refine ⟨fun m σ H=>m=μ σ H/\Pv σ H,⟨_,rfl,h0⟩,?_⟩
 rintro m σ H ⟨rfl,p⟩
 refine mono σ H _ _ (fun b H1 q => ?_) (hs σ H p)
 cases b with
 | true=>exact ⟨_,fun σ' H' ⟨p',l⟩=>⟨_,l,rfl,p'⟩,q⟩
 | false=>exact q
end L2
namespace L2
open PySem PySem.Spec PyProof.Rows
abbrev R2:=V->V->Hp->VK->Prop
def OpR (X:Cx)(f:Value->Value->Sem Value)(r:R2):Prop :=
 ∀ (pins:List (Addr × Obj)) (s:Shared) (σ:St) (H:Hp) (x y:V) (v u:Value) (Q:VK),Inv X pins σ H s->RelV x v->RelV y u->r x y H Q ->
  wpAny (model X.prog X.w) X.A (f v u) (EP X pins σ Q) X.xe s
def UnR (X:Cx)(f:Value->Sem Value)(r:V->Hp->VK->Prop):Prop :=
 ∀ (pins:List (Addr × Obj)) (s:Shared) (σ:St) (H:Hp) (x:V) (v:Value) (Q:VK),Inv X pins σ H s->RelV x v->r x H Q ->
  wpAny (model X.prog X.w) X.A (f v) (EP X pins σ Q) X.xe s
def CallR (X:Cx)(f:Value)(r:List V->Hp->VK->Prop):Prop :=
 ∀ (pins:List (Addr × Obj)) (s:Shared) (σ:St) (H:Hp) (xs:List V) (us:List Value) (Q:VK),Inv X pins σ H s->Vals xs us->r xs H Q ->
  wpAny (model X.prog X.w) X.A (call f us) (EP X pins σ Q) X.xe s
def TruR (X:Cx)(r:V->Hp->(Bool->Hp->Prop)->Prop):Prop :=
 ∀ (pins:List (Addr × Obj)) (s:Shared) (σ:St) (H:Hp) (x:V) (v:Value) (Q:Bool->Hp->Prop),Inv X pins σ H s->RelV x v->r x H Q ->
  wpAny (model X.prog X.w) X.A (truthy v) (TP X pins σ Q) X.xe s
def tOp (r:R2)(ta tb:TE):TE:=fun σ H Q=>ta σ H fun x H1=>tb σ H1 fun y H2=>r x y H2 Q
def tUn (r:V->Hp->VK->Prop)(ta:TE):TE:=fun σ H Q=>ta σ H fun x H1=>r x H1 Q
def rI (C:Int->Int->Prop)(g:Int->Int->V):R2:=fun x y H Q=>∃ i j,x = .int i/\y = .int j/\C i j/\Q (g i j) H
def rI0 (g:Int->Int->V):R2:=fun x y H Q=>∃ i j,x = .int i/\y = .int j/\Q (g i j) H
def rU (g:Int->V):V->Hp->VK->Prop:=fun x H Q=>∃ i,x = .int i/\Q (g i) H
section
variable {X:Cx}{a b c:Expr}{ta tb tc:TE}{pos:Pos}
theorem binT (ha:PE X a ta)(hb:PE X b tb){pins:List (Addr × Obj)}{s:Shared}{σ:St}{H:Hp}{R:V->V->Hp->Prop}(I:Inv X pins σ H s)
  (h:ta σ H fun x H1=>tb σ H1 fun y H2=>R x y H2) {Q:Value->Shared->Prop} {f:Value->Value->Sem Value}
  (hf : ∀ v u s2 x y H2,Inv X pins σ H2 s2->RelV x v->RelV y u->R x y H2->wpAny (model X.prog X.w) X.A (f v u) Q X.xe s2) :
  wpAny (model X.prog X.w) X.A (eval a X.env) (fun v s₁=>wpAny (model X.prog X.w) X.A (eval b X.env) (fun u s₂=>wpAny (model X.prog X.w) X.A (f v u) Q X.xe s₂) X.xe s₁) X.xe s:=by
 refine thn (ha pins s σ H _ I h) fun v s1 ⟨x,H1,I1,r1,q1⟩ => ?_
 refine thn (hb pins s1 σ H1 _ I1 q1) fun u s2 ⟨y,H2,I2,r2,q2⟩ => ?_
 exact hf v u s2 x y H2 I2 r1 r2 q2
theorem pe_op {op:Operator}{r:R2}(ho:OpR X (binaryOp op) r)(ha:PE X a ta)(hb:PE X b tb):PE X (.BinOp a op b pos) (tOp r ta tb):=by
 intro pins s σ H Q I h
 exact wpAny_BinOp (binT ha hb I h fun v u s2 x y H2 I2 rx ry q=>ho pins s2 σ H2 x y v u Q I2 rx ry q)
theorem pe_un {op:UnaryOp}{r:V->Hp->VK->Prop}(ho:UnR X (unaryOp op) r)(ha:PE X a ta):PE X (.UnaryOp op a pos) (tUn r ta):=by
 intro pins s σ H Q I h
 exact UnaryOp_ (thn (ha pins s σ H _ I h) fun v s1 ⟨x,H1,I1,r1,q1⟩=>ho pins s1 σ H1 x v Q I1 r1 q1)
theorem opI {f:Value->Value->Sem Value}{C:Int->Int->Prop}{g:Int->Int->Int}
  (rule : ∀ (i j:Int) (t u:Tok) (s:Shared) (Q:Value->Shared->Prop) (E:Value->Shared->Prop),C i j->Q (.int (g i j) s.toks) { s with toks:=s.toks+1 }->wpAny (model X.prog X.w) X.A (f (.int i t) (.int j u)) Q E s) :
  OpR X f (rI C fun i j=>.int (g i j)):=by
 intro pins s σ H x y v u Q I rx ry h
 obtain ⟨i,j,rfl,rfl,hc,q⟩:=h
 obtain ⟨t,rfl⟩:=rx
 obtain ⟨t',rfl⟩:=ry
 exact rule i j t t' s _ _ hc ⟨.int (g i j),H,I.tok _,⟨_,rfl⟩,q⟩
theorem opI0 {f:Value->Value->Sem Value}{g:Int->Int->Int}
  (rule : ∀ (i j:Int) (t u:Tok) (s:Shared) (Q:Value->Shared->Prop) (E:Value->Shared->Prop),Q (.int (g i j) s.toks) { s with toks:=s.toks+1 }->wpAny (model X.prog X.w) X.A (f (.int i t) (.int j u)) Q E s) :
  OpR X f (rI0 fun i j=>.int (g i j)):=by
 intro pins s σ H x y v u Q I rx ry h
 obtain ⟨i,j,rfl,rfl,q⟩:=h
 obtain ⟨t,rfl⟩:=rx
 obtain ⟨t',rfl⟩:=ry
 exact rule i j t t' s _ _ ⟨.int (g i j),H,I.tok _,⟨_,rfl⟩,q⟩
theorem opB0 {f:Value->Value->Sem Value}{g:Int->Int->Bool}
  (rule : ∀ (i j:Int) (t u:Tok) (s:Shared) (Q:Value->Shared->Prop) (E:Value->Shared->Prop),Q (.bool (g i j)) s->wpAny (model X.prog X.w) X.A (f (.int i t) (.int j u)) Q E s) :
  OpR X f (rI0 fun i j=>.bl (g i j)):=by
 intro pins s σ H x y v u Q I rx ry h
 obtain ⟨i,j,rfl,rfl,q⟩:=h
 obtain ⟨t,rfl⟩:=rx
 obtain ⟨t',rfl⟩:=ry
 exact rule i j t t' s _ _ ⟨.bl (g i j),H,I,rfl,q⟩
def CDiv (i j:Int):Prop:=0 < j/\j < 1073741824
def CDivN (i j:Int):Prop:=j ≠ 0/\j.natAbs < 1073741824
def CPow (i j:Int):Prop:=0<=j/\j<=1000000/\i.natAbs < 2 ^ 64
def CMul (i j:Int):Prop:=(-(2 ^ 64) < i/\i < 2 ^ 64)\/(-(2 ^ 64) < j/\j < 2 ^ 64)
theorem CMul.ok {i j:Int}(h:CMul i j):IntMulOk i j:=by
 rcases h with ⟨h1,h2⟩ | ⟨h1,h2⟩
 ·exact .of_left (intBits_le_64 h1 h2)
 ·exact .of_right (intBits_le_64 h1 h2)
theorem op_add:OpR X (binaryOp .Add) (rI0 fun i j=>.int (i+j)):=opI0 fun _ _ _ _ _ _ _ q=>add_int q
theorem op_sub:OpR X (binaryOp .Sub) (rI0 fun i j=>.int (i - j)):=opI0 fun _ _ _ _ _ _ _ q=>sub_int q
theorem op_mul:OpR X (binaryOp .Mult) (rI CMul fun i j=>.int (i*j)):=opI fun _ _ _ _ _ _ _ hc q=>mul_int q hc.ok
theorem op_mod:OpR X (binaryOp .Mod) (rI (fun _ j=>0 < j) fun i j=>.int (i % j)):=opI fun i j _ _ _ _ _ hc q=>by
 have h1:(0:Int) < j:=hc
 exact mod_int' (by omega) (by rw [Int.fmod_eq_emod_of_nonneg i (by omega)]; exact q)
theorem unI {f:Value->Sem Value}{g:Int->Int}
  (rule : ∀ (i:Int) (t:Tok) (s:Shared) (Q:Value->Shared->Prop) (E:Value->Shared->Prop),Q (.int (g i) s.toks) { s with toks:=s.toks+1 }->wpAny (model X.prog X.w) X.A (f (.int i t)) Q E s) :
  UnR X f (rU fun i=>.int (g i)):=by
 intro pins s σ H x v Q I rx h
 obtain ⟨i,rfl,q⟩:=h
 obtain ⟨t,rfl⟩:=rx
 exact rule i t s _ _ ⟨.int (g i),H,I.tok _,⟨_,rfl⟩,q⟩
theorem un_neg:UnR X (unaryOp .USub) (rU fun i=>.int (-i)):=unI fun _ _ _ _ _ q=>neg_int q
end
def scal:V->V->Bool
 | .non,.non=>true | .non,.int _=>true | .int _,.non=>true | .non,.bl _=>true | .bl _,.non=>true | .non,.str _=>true | .str _,.non=>true
 | .int _,.int _=>true | .bl _,.bl _=>true | .str _,.str _=>true | .byt _,.byt _=>true
 | .int _,.str _=>true | .str _,.int _=>true | .bl _,.str _=>true | .str _,.bl _=>true
 | _,_=>false
def rEq:R2:=fun x y H Q=>scal x y=true/\Q (.bl (decide (x=y))) H
def rNe:R2:=fun x y H Q=>scal x y=true/\Q (.bl (!decide (x=y))) H
theorem dec_int {i j:Int}:decide (V.int i=V.int j)=(i == j):=by
 rw [Bool.eq_iff_iff]
 simp
theorem dec_bl {i j:Bool}:decide (V.bl i=V.bl j)=(i == j):=by
 rw [Bool.eq_iff_iff]
 simp
theorem dec_str {i j:Str}:decide (V.str i=V.str j)=(i == j):=by
 rw [Bool.eq_iff_iff]
 simp
theorem dec_byt {i j:Array UInt8}:decide (V.byt i=V.byt j)=(i.toList == j.toList):=by
 rw [Bool.eq_iff_iff]
 cases i
 cases j
 simp
section
variable {X:Cx}{a b c:Expr}{ta tb tc:TE}{pos:Pos}
theorem fin_bl {pins:List (Addr × Obj)}{σ:St}{H:Hp}{s:Shared}{Q:VK}{k k':Bool}(I:Inv X pins σ H s)(q:Q (.bl k) H)(e:k=k'):EP X pins σ Q (.bool k') s:=by
 subst e
 exact ⟨.bl k,H,I,rfl,q⟩
theorem op_eq:OpR X (compareOp .Eq) rEq:=by
 intro pins s σ H x y v u Q I rx ry h
 obtain ⟨hs,q⟩:=h
 cases x with
 | non =>
  cases rx
  cases y with
  | non=>cases ry; exact PySem.EqNone.eq_none_none (fin_bl I q (by simp))
  | bl j=>cases ry; exact PySem.EqNone.eq_none_bool (fin_bl I q (by simp))
  | int j=>obtain ⟨t',rfl⟩:=ry; exact PySem.EqNone.eq_none_int (fin_bl I q (by simp))
  | str j=>obtain ⟨t',rfl⟩:=ry; exact PySem.EqNone.eq_none_str (fin_bl I q (by simp))
  | _=>exact absurd (show false=true from hs) Bool.false_ne_true
 | bl i =>
  cases rx
  cases y with
  | non=>cases ry; exact PySem.EqNone.eq_bool_none (fin_bl I q (by simp))
  | bl j=>cases ry; exact eq_bool (fin_bl I q dec_bl)
  | str j=>obtain ⟨t',rfl⟩:=ry; exact PySem.EqMixed.eq_bool_str (fin_bl I q (by simp))
  | _=>exact absurd (show false=true from hs) Bool.false_ne_true
 | int i =>
  obtain ⟨t,rfl⟩:=rx
  cases y with
  | non=>cases ry; exact PySem.EqNone.eq_int_none (fin_bl I q (by simp))
  | int j=>obtain ⟨t',rfl⟩:=ry; exact eq_int (fin_bl I q dec_int)
  | str j=>obtain ⟨t',rfl⟩:=ry; exact PySem.EqMixed.eq_int_str (fin_bl I q (by simp))
  | _=>exact absurd (show false=true from hs) Bool.false_ne_true
 | str i =>
  obtain ⟨t,rfl⟩:=rx
  cases y with
  | non=>cases ry; exact PySem.EqNone.eq_str_none (fin_bl I q (by simp))
  | bl j=>cases ry; exact PySem.EqMixed.eq_str_bool (fin_bl I q (by simp))
  | int j=>obtain ⟨t',rfl⟩:=ry; exact PySem.EqMixed.eq_str_int (fin_bl I q (by simp))
  | str j=>obtain ⟨t',rfl⟩:=ry; exact eq_str (fin_bl I q dec_str)
  | _=>exact absurd (show false=true from hs) Bool.false_ne_true
 | byt i =>
  obtain ⟨t,rfl⟩:=rx
  cases y with
  | byt j=>obtain ⟨t',rfl⟩:=ry; exact PySem.W.eq_bytes (fin_bl I q dec_byt)
  | _=>exact absurd (show false=true from hs) Bool.false_ne_true
 | _=>cases y <;> exact absurd (show false=true from hs) Bool.false_ne_true
theorem op_ne:OpR X (compareOp .NotEq) rNe:=by
 intro pins s σ H x y v u Q I rx ry h
 obtain ⟨hs,q⟩:=h
 cases x with
 | non =>
  cases rx
  cases y with
  | non=>cases ry; exact PySem.EqNone.ne_none_none (fin_bl I q (by simp))
  | bl j=>cases ry; exact PySem.EqNone.ne_none_bool (fin_bl I q (by simp))
  | int j=>obtain ⟨t',rfl⟩:=ry; exact PySem.EqNone.ne_none_int (fin_bl I q (by simp))
  | str j=>obtain ⟨t',rfl⟩:=ry; exact PySem.EqNone.ne_none_str (fin_bl I q (by simp))
  | _=>exact absurd (show false=true from hs) Bool.false_ne_true
 | bl i =>
  cases rx
  cases y with
  | non=>cases ry; exact PySem.EqNone.ne_bool_none (fin_bl I q (by simp))
  | bl j=>cases ry; exact ne_bool (fin_bl I q (congrArg not dec_bl))
  | str j=>obtain ⟨t',rfl⟩:=ry; exact PySem.EqMixed.ne_bool_str (fin_bl I q (by simp))
  | _=>exact absurd (show false=true from hs) Bool.false_ne_true
 | int i =>
  obtain ⟨t,rfl⟩:=rx
  cases y with
  | non=>cases ry; exact PySem.EqNone.ne_int_none (fin_bl I q (by simp))
  | int j=>obtain ⟨t',rfl⟩:=ry; exact ne_int (fin_bl I q (congrArg not dec_int))
  | str j=>obtain ⟨t',rfl⟩:=ry; exact PySem.EqMixed.ne_int_str (fin_bl I q (by simp))
  | _=>exact absurd (show false=true from hs) Bool.false_ne_true
 | str i =>
  obtain ⟨t,rfl⟩:=rx
  cases y with
  | non=>cases ry; exact PySem.EqNone.ne_str_none (fin_bl I q (by simp))
  | bl j=>cases ry; exact PySem.EqMixed.ne_str_bool (fin_bl I q (by simp))
  | int j=>obtain ⟨t',rfl⟩:=ry; exact PySem.EqMixed.ne_str_int (fin_bl I q (by simp))
  | str j=>obtain ⟨t',rfl⟩:=ry; exact ne_str (fin_bl I q (congrArg not dec_str))
  | _=>exact absurd (show false=true from hs) Bool.false_ne_true
 | byt i =>
  obtain ⟨t,rfl⟩:=rx
  cases y with
  | byt j=>obtain ⟨t',rfl⟩:=ry; exact PySem.W.ne_bytes (fin_bl I q (congrArg not dec_byt))
  | _=>exact absurd (show false=true from hs) Bool.false_ne_true
 | _=>cases y <;> exact absurd (show false=true from hs) Bool.false_ne_true
theorem op_lt:OpR X (compareOp .Lt) (rI0 fun i j=>.bl (decide (i < j))):=opB0 fun _ _ _ _ _ _ _ q=>lt_int q
theorem op_gt:OpR X (compareOp .Gt) (rI0 fun i j=>.bl (decide (j < i))):=opB0 fun _ _ _ _ _ _ _ q=>gt_int q
theorem op_isN:OpR X (compareOp .Is) (fun x y H Q=>y = .non/\Q (.bl (decide (x = .non))) H):=by
 intro pins s σ H x y v u Q I rx ry h
 obtain ⟨rfl,q⟩:=h
 cases ry
 refine is_none_gen (fin_bl I q ?_)
 cases x <;> first
  | (cases rx; rfl)
  | (obtain ⟨t,rfl⟩:=rx; rfl)
theorem op_notN:OpR X (compareOp .IsNot) (fun x y H Q=>y = .non/\Q (.bl (!decide (x = .non))) H):=by
 intro pins s σ H x y v u Q I rx ry h
 obtain ⟨rfl,q⟩:=h
 cases ry
 refine isnot_none_gen (fin_bl I q ?_)
 cases x <;> first
  | (cases rx; rfl)
  | (obtain ⟨t,rfl⟩:=rx; rfl)
def isObj:HO->Bool
 | .lst _=>true
 | .ins _ _ _=>true
 | _=>false
theorem nomark (b:Expr){op:CmpOp}(h:op ≠ .In:=by decide)(h2:op ≠ .NotIn:=by decide):behindInMarks op b=false:=by
 have e1:(op == CmpOp.In)=false:=by cases op <;> first | rfl | exact absurd rfl h
 have e2:(op == CmpOp.NotIn)=false:=by cases op <;> first | rfl | exact absurd rfl h2
 cases b <;> simp [behindInMarks,e1,e2]
theorem pe_cmpR {op:CmpOp}{r:R2}(ho:OpR X (compareOp op) r)(ha:PE X a ta)(hb:PE X b tb)(hm:behindInMarks op b=false):PE X (.Compare a [op] [b] pos) (tOp r ta tb):=by
 intro pins s σ H Q I h
 exact wpAny_Compare1 (binT ha hb I h fun v u s2 x y H2 I2 rx ry q=>ho pins s2 σ H2 x y v u Q I2 rx ry q) hm
def tTest (t:TE):TT:=fun σ H Q=>t σ H fun x H'=>∃ k,x = .bl k/\Q k H'
theorem pt_cmpR {op:CmpOp}{r:R2}(ho:OpR X (compareOp op) r)(ha:PE X a ta)(hb:PE X b tb)(hm:behindInMarks op b=false):PT X (.Compare a [op] [b] pos) (tTest (tOp r ta tb)):=by
 intro pins s σ H Q I h
 refine wpAny_isTrue_Compare1 (thn (ha pins s σ H _ I h) fun v s1 ⟨x,H1,I1,r1,q1⟩=>thn (hb pins s1 σ H1 _ I1 q1) fun u s2 ⟨y,H2,I2,r2,q2⟩ =>
  thn (ho pins s2 σ H2 x y v u _ I2 r1 r2 q2) fun c s3 ⟨z,H3,I3,r3,k,e,q3⟩ => ?_) hm
 subst e
 cases r3
 exact wpAny_truthy_bool ⟨H3,I3,q3⟩
def tChain (r r':R2)(ta tb tc:TE):TE:=fun σ H Q=>ta σ H fun x H1=>tb σ H1 fun y H2=>r x y H2 fun z H3=>∃ k,z = .bl k /\
 (if k=true then tc σ H3 fun w' H4=>r' y w' H4 Q else Q (.bl false) H3)
def TruV (K:PySem.W.Frag)(x:V)(H:Hp)(k:Bool):Prop :=
 match x with
 | .non=>k=false
 | .bl b=>k=b
 | .int i=>k=(i != 0)
 | .str y=>y.length<=sizeLine/\k=((y.length:Int) != 0)
 | .byt y=>y.size<=sizeLine/\k=((y.size:Int) != 0)
 | .ref p=>(∃ xs,SqL K H p xs/\k = !xs.isEmpty)\/(∃ xs,SqT K H p xs/\k = !xs.isEmpty)\/∃ kvs,H p=some (.dK kvs)/\k = !kvs.isEmpty
 | _=>False
theorem isEmpty_kv {κ:Type}{kvs:List (κ × V)}{vs:List (κ × Value)}(r:KV kvs vs):(!vs.isEmpty) = !kvs.isEmpty:=by
 cases r <;> rfl
theorem isEmpty_of {xs:List V}{its:List Value}(r:Vals xs its):(!its.toArray.isEmpty) = !xs.isEmpty:=by
 cases r <;> simp
theorem line63:(sizeLine:Nat) < 2 ^ 63:=by rw [sizeLine_eq]; decide
theorem tru_ok:TruR X (fun x H Q=>∃ k,TruV X.K x H k/\Q k H):=by
 intro pins s σ H x v Q I rx h
 obtain ⟨k,e,q⟩:=h
 have hl:=line63
 have hs:sizeLine=16777216:=sizeLine_eq
 cases x with
 | non =>
  cases rx
  have e':k=false:=e
  subst e'
  exact truthy_none ⟨H,I,q⟩
 | bl b =>
  cases rx
  have e':k=b:=e
  subst e'
  exact wpAny_truthy_bool ⟨H,I,q⟩
 | int i =>
  obtain ⟨t,rfl⟩:=rx
  have e':k=(i != 0):=e
  subst e'
  exact PySem.P.truthy_int ⟨H,I,q⟩
 | str y =>
  obtain ⟨t,rfl⟩:=rx
  obtain ⟨hy,e'⟩:y.length<=sizeLine/\k=((y.length:Int) != 0):=e
  subst e'
  exact PySem.P.truthy_str (by omega) ⟨H,I.tok _,q⟩
 | byt y =>
  obtain ⟨t,rfl⟩:=rx
  obtain ⟨hy,e'⟩:y.size<=sizeLine/\k=((y.size:Int) != 0):=e
  subst e'
  exact PySem.W.truthy_bytes (by omega) ⟨H,I.tok _,q⟩
 | ref p =>
  cases rx
  have e':(∃ xs,SqL X.K H p xs/\k = !xs.isEmpty)\/(∃ xs,SqT X.K H p xs/\k = !xs.isEmpty)\/∃ kvs,H p=some (.dK kvs)/\k = !kvs.isEmpty:=e
  rcases e' with ⟨xs,hx,e'⟩ | ⟨xs,hx,e'⟩ | ⟨kvs,hx,e'⟩
  ·subst e'
   obtain ⟨its,r,pl,hz⟩:=I.list hx
   have hlen:=r.length
   exact wpAny_truthy_list pl.isList (by simp only [List.size_toArray]; omega) ⟨H,I.tok _,by rw [isEmpty_of r]; exact q⟩
  ·subst e'
   obtain ⟨its,r,pl,hz⟩:=I.tuple hx
   have hlen:=r.length
   exact truthy_tuple pl (by simp only [List.size_toArray]; omega) ⟨H,I.tok _,by rw [isEmpty_of r]; exact q⟩
  ·subst e'
   obtain ⟨hz,hS,vs,r,m⟩:kvs.length<=sizeLine/\(p == sysModules)=false/\∃ vs,KV kvs vs/\s.heap.DictOf (mixKind X.prog X.w) p vs:=I.hok p _ hx
   have hlen:kvs.length=vs.length:=Paired.length r
   exact wpAny_truthy_dict hS m (by omega) ⟨H,I.tok _,by rw [isEmpty_kv r]; exact q⟩
 | _=>exact (show False from e).elim
theorem op_add_str:OpR X (binaryOp .Add) (fun x y H Q=>∃ i j,x = .str i/\y = .str j/\i.length+j.length<=sizeLine/\Q (.str (i ++ j)) H):=by
 intro pins s σ H x y v u Q I rx ry h
 obtain ⟨i,j,rfl,rfl,hz,q⟩:=h
 obtain ⟨t,rfl⟩:=rx
 obtain ⟨t',rfl⟩:=ry
 exact add_str (fun t' tk=>⟨.str (i ++ j),H,I.tok _,⟨_,rfl⟩,q⟩) hz
def PlainIxT (b:Expr):Prop:=∀ o i,subscripted b false o i=operate [o,i] (getItem o i)
theorem vals1 {x:V}{us:List Value}(r:Vals [x] us) : ∃ u,us=[u]/\RelV x u:=by
 cases r with
 | cons r1 r2=>cases r2; exact ⟨_,rfl,r1⟩
theorem vals2 {x y:V}{us:List Value}(r:Vals [x,y] us) : ∃ u w',us=[u,w']/\RelV x u/\RelV y w':=by
 cases r with
 | cons r1 r2 =>
  cases r2 with
  | cons r3 r4=>cases r4; exact ⟨_,_,rfl,r1,r3⟩
theorem call_abs:CallR X (.builtin "abs") (fun xs H Q=>∃ i,xs=[.int i]/\Q (.int (if i < 0 then -i else i)) H):=by
 intro pins s σ H xs us Q I r h
 obtain ⟨i,rfl,q⟩:=h
 obtain ⟨u,rfl,t,rfl⟩:=vals1 r
 exact call_abs_int fun u tk=>⟨.int (if i < 0 then -i else i),H,I.tok _,⟨_,rfl⟩,q⟩
theorem call_max2 (hc:X.calm=true):CallR X (.builtin "max") (fun xs H Q=>∃ i j,xs=[.int i,.int j]/\Q (.int (if j > i then j else i)) H):=by
 intro pins s σ H xs us Q I r h
 obtain ⟨i,j,rfl,q⟩:=h
 obtain ⟨u,w',rfl,⟨t,rfl⟩,⟨t',rfl⟩⟩:=vals2 r
 refine max_two_ints (I.ok.hd hc) fun h' tk k=>⟨_,H,I.kept k,?_,q⟩
 by_cases hj:j > i
 ·rw [if_pos hj,if_pos hj]; exact ⟨_,rfl⟩
 ·rw [if_neg hj,if_neg hj]; exact ⟨_,rfl⟩
theorem call_min2 (hc:X.calm=true):CallR X (.builtin "min") (fun xs H Q=>∃ i j,xs=[.int i,.int j]/\Q (.int (if j < i then j else i)) H):=by
 intro pins s σ H xs us Q I r h
 obtain ⟨i,j,rfl,q⟩:=h
 obtain ⟨u,w',rfl,⟨t,rfl⟩,⟨t',rfl⟩⟩:=vals2 r
 refine min_two_ints (I.ok.hd hc) fun h' tk k=>⟨_,H,I.kept k,?_,q⟩
 by_cases hj:j < i
 ·rw [if_pos hj,if_pos hj]; exact ⟨_,rfl⟩
 ·rw [if_neg hj,if_neg hj]; exact ⟨_,rfl⟩
theorem call_int1:CallR X (.type "int") (fun xs H Q=>(∃ i,xs=[.int i]/\Q (.int i) H)\/∃ k,xs=[.bl k]/\Q (.int (if k then 1 else 0)) H):=by
 intro pins s σ H xs us Q I r h
 rcases h with ⟨i,rfl,q⟩ | ⟨k,rfl,q⟩
 ·obtain ⟨u,rfl,t,rfl⟩:=vals1 r
  exact call_int_int ⟨.int i,H,I,⟨_,rfl⟩,q⟩
 ·obtain ⟨u,rfl,r1⟩:=vals1 r
  cases r1
  exact call_int_bool ⟨.int (if k then 1 else 0),H,I.tok _,⟨_,rfl⟩,q⟩
def LenV (K:PySem.W.Frag)(x:V)(H:Hp)(n:Nat):Prop :=
 match x with
 | .str y=>y.length<=sizeLine/\n=y.length
 | .byt y=>y.size<=sizeLine/\n=y.size
 | .ref p=>(∃ xs,SqL K H p xs/\n=xs.length)\/∃ xs,SqT K H p xs/\n=xs.length
 | _=>False
end
end L2
namespace L2
open PySem PySem.Spec PyProof.Rows
structure ObjM (h:Heap)(x dx C:Addr)(mA:Str->Option Value):Prop where
 obj:h.get? x=some (PySem.W.instObj C dx)
 ns:h.Ns1 dx mA
 ne:dx ≠ x
section
variable {prog:Program}{w:World}{A:Around}{E:Value->Shared->Prop}{s:Shared}{K:PySem.W.Frag}{x dx C f:Addr}{mA:Str->Option Value}{name:Str}{v:Value}
end
def putF (f:Str)(v:V):List (Str × V)->List (Str × V)
  | []=>[(f,v)]
  | (g,x) :: r=>if g=f then (g,v) :: r else (g,x) :: putF f v r
theorem RelO.some_of {v:V}{o:Option Value}(r:RelO (some v) o) : ∃ u,o=some u/\RelV v u:=by
 cases o with
 | none=>exact (show False from r).elim
 | some u=>exact ⟨u,rfl,r⟩
theorem handed_of {v:V}{u:Value}(r:RelV v u):PySem.W.handedIn u=true:=by
 cases v with
 | non=>cases (show u=Value.none from r); rfl
 | bl b=>cases (show u=Value.bool b from r); rfl
 | int i=>obtain ⟨t,e⟩:=(show ∃ t,u=Value.int i t from r); cases e; rfl
 | str x=>obtain ⟨t,e⟩:=(show ∃ t,u=Value.str x t from r); cases e; rfl
 | byt b=>obtain ⟨t,e⟩:=(show ∃ t,u=Value.bytes b t from r); cases e; rfl
 | flt b=>obtain ⟨t,e⟩:=(show ∃ t,u=Value.float b t from r); cases e; rfl
 | ref a=>cases (show u=Value.ref a from r); rfl
 | ty n=>cases (show u=Value.type n from r); rfl
section
variable {P:Program}{w:World}{H H':Hp}{h h':Heap}{a C dx:Addr}{fs fs':List (Str × V)}
end
structure Cls (K:PySem.W.Frag)(C:Addr):Prop where
 pg:PySem.W.plainGet K C Str.empty=true
 hd:PySem.W.hasDictIn K C=true
 po:PySem.W.plainOver K C=true
 sa:PySem.W.findIn K (.ref C) "__setattr__" = some (some (.builtin "object.__setattr__"))
def NoAttr (K:PySem.W.Frag)(C:Addr)(f:Str):Prop:=PySem.W.findIn K (.ref C) f=some none
structure Con (K:PySem.W.Frag)(C:Addr)(f:Str)(v:V)(u:Value):Prop where
 at_:PySem.W.findIn K (.ref C) f=some (some u)
 rel:RelV v u
 get:PySem.W.specialIn K u "__get__" = some none
 cp:PySem.W.copiedNames.contains f=false
structure Meth (K:PySem.W.Frag)(C:Addr)(m:Str)(f:Addr):Prop where
 at_:PySem.W.findIn K (.ref C) m=some (some (.ref f))
 fn:PySem.W.isFn K (.ref f)=true
 kp:PySem.W.keepIn K (.ref f)=true
section
variable {X:Cx}{pins:List (Addr × Obj)}{σ:St}{H:Hp}{s:Shared}{a C dx:Addr}{fs:List (Str × V)}{f:Str}{v:V}{A:Around}{E:Value->Shared->Prop}
theorem attr_of {prog:Program}{w:World}{env:Env}{e:Expr}{f:Str}{pos:Pos}{s:Shared}{Q:Value->Shared->Prop}(hb:attributeBase e f env (eval e env)=eval e env)
  (h:wpAny (model prog w) A (eval e env) (fun o s₁=>wpAny (model prog w) A (getAttr o f true) Q E s₁) E s):wpAny (model prog w) A (eval (.Attribute e f pos) env) Q E s :=
 Attribute_any_ h (by rw [arm_eval_Attribute,hb])
end
def tFld (K:PySem.W.Frag)(ta:TE)(f:Str):TE:=fun σ H Q=>ta σ H fun x H1=>∃ a C dx fs v,x = .ref a/\H1 a=some (.ins C dx fs)/\Cls K C/\NoAttr K C f/\fs.lookup f=some v/\Q v H1
def tCon (K:PySem.W.Frag)(ta:TE)(f:Str):TE:=fun σ H Q=>ta σ H fun x H1=>∃ a C dx fs v u,x = .ref a/\H1 a=some (.ins C dx fs)/\Cls K C/\Con K C f v u/\fs.lookup f=none/\Q v H1
def sFld (K:PySem.W.Frag)(ta tv:TE)(f:Str):TS:=fun D σ H=>tv σ H fun y H1=>ta σ H1 fun x H2=>∃ a C dx fs,x = .ref a/\H2 a=some (.ins C dx fs)/\Cls K C/\NoAttr K C f/\fs.length < 1000 /\
 D.nx σ (upd H2 a (.ins C dx (putF f y fs)))
def InOp (X:Cx)(op:Operator)(rd:V->V->Hp->VK->Prop):Prop :=
 ∀ (pins:List (Addr × Obj)) (s:Shared) (σ:St) (H:Hp) (x y:V) (u v:Value) (Q:VK),Inv X pins σ H s->RelV x u->RelV y v->rd x y H Q->wpAny (model X.prog X.w) X.A (inplaceOp op u v) (EP X pins σ Q) X.xe s
def sFldAug (K:PySem.W.Frag)(ta tv:TE)(rd:V->V->Hp->VK->Prop)(f:Str):TS:=fun D σ H=>ta σ H fun x H1=>∃ a C dx fs v,x = .ref a/\H1 a=some (.ins C dx fs)/\Cls K C/\NoAttr K C f/\fs.lookup f=some v /\
 tv σ H1 fun y H2=>rd v y H2 fun z H3=>∃ dx' fs',H3 a=some (.ins C dx' fs')/\fs'.length < 1000/\D.nx σ (upd H3 a (.ins C dx' (putF f z fs')))
section
variable {X:Cx}{o e value:Expr}{f:Str}{pos pos' tpos:Pos}{ta tv:TE}
def rAdd:V->V->Hp->VK->Prop:=fun x y H Q=>∃ i j,x = .int i/\y = .int j/\Q (.int (i+j)) H
def rSub:V->V->Hp->VK->Prop:=fun x y H Q=>∃ i j,x = .int i/\y = .int j/\Q (.int (i - j)) H
end
section
variable {X:Cx}{pins:List (Addr × Obj)}{σ:St}{H:Hp}{s:Shared}{A:Around}{E:Value->Shared->Prop}{Q:Value->Shared->Prop}{c:Value}{b:Bool}
inductive TyOf (K:PySem.W.Frag)(H:Hp):V->Value->Prop where
 | non:TyOf K H .non (.type "NoneType")
 | bl (x:Bool):TyOf K H (.bl x) (.type "bool")
 | int (i:Int):TyOf K H (.int i) (.type "int")
 | str (x:Str):TyOf K H (.str x) (.type "str")
 | flt (x:UInt64):TyOf K H (.flt x) (.type "float")
 | lst {a:Addr} {xs:List V} (e:H a=some (.lst xs)):TyOf K H (.ref a) (.type "list")
 | frz {a:Addr} {o:Obj} {xs:List V} (e:H a=some (.frz o (.lst xs))):TyOf K H (.ref a) (.type "list")
 | tup {a:Addr} {xs:List V} (e:H a=some (.tup xs)):TyOf K H (.ref a) (.type "tuple")
 | dK {a:Addr} {kvs:List (Key × V)} (e:H a=some (.dK kvs)):TyOf K H (.ref a) (.type "dict")
 | dT {a:Addr} {kvs:List (List Key × V)} (e:H a=some (.dT kvs)):TyOf K H (.ref a) (.type "dict")
 | ins {a C dx:Addr} {fs:List (Str × V)} (e:H a=some (.ins C dx fs)) (cl:Cls K C) (ha:PySem.W.findIn K (.ref C) "__class__" = some (some (.builtin "object.__class__")))
   (hn:PySem.W.specialIn K (.builtin "object.__class__") "__get__" = some (some (.builtin "getset_descriptor.__get__"))) (htk:PySem.W.takesIn K (.builtin "object.__class__")=some true)
   (hm:PySem.W.mroIn K C (.type "object")=some true):TyOf K H (.ref a) (.ref C)
end
end L2
namespace L2
open PySem PySem.Spec PyProof.Rows
structure Room (k:Nat)(A:Around):Prop where
 hd:A.handled=none
 dp:A.depth+3*k+5 < recursionLimit
 un:A.units+16*k+200 < cLine
theorem Room.mono {j k:Nat}{A:Around}(r:Room k A)(h:j<=k):Room j A:=⟨r.hd,by have:=r.dp; omega,by have:=r.un; omega⟩
theorem Room.deeper {k:Nat}{A:Around}(r:Room (k+1) A)(env:Env):Room k (A.deeper env) :=
 ⟨r.hd,by have:=r.dp; show A.depth+1+3*k+5 < _; omega,by have:=r.un; show A.units+3+16*k+200 < _; omega⟩
theorem make_depth {A:Around}{C:Addr}{us:List Value}{kw:List (Str × Value)}:(A.under (.builtin "type.__call__" ⟨.ref C :: us,kw⟩)).depth=A.depth+1:=by
 first | rfl | simp [Around.under,Code.weight,Code.isCreation,Code.isGuard,Code.isCaller,Code.frames,Code.isFrame,guardIds]
theorem make_units {A:Around}{C:Addr}{us:List Value}{kw:List (Str × Value)}:(A.under (.builtin "type.__call__" ⟨.ref C :: us,kw⟩)).units=A.units+1:=by
 first | rfl | simp [Around.under,Code.cUnits,Code.frames,Code.isFrame]
theorem Room.make {k:Nat}{A:Around}(r:Room (k+1) A)(C:Addr)(us:List Value)(kw:List (Str × Value)):Room k (A.under (.builtin "type.__call__" ⟨.ref C :: us,kw⟩)) :=
 ⟨r.hd,by have:=r.dp; rw [make_depth]; omega,by have:=r.un; rw [make_units]; omega⟩
theorem Room.depth {k:Nat}{A:Around}(r:Room k A):A.depth < recursionLimit:=by have:=r.dp; omega
theorem Room.units {k:Nat}{A:Around}(r:Room k A):A.units+64 < cLine:=by have:=r.un; omega
def tNil:TA:=fun _ H Q=>Q [] H
def tCons (ta:TE)(tr:TA):TA:=fun σ H Q=>ta σ H fun x H1=>tr σ H1 fun xs H2=>Q (x :: xs) H2
section
variable {X:Cx}{e:Expr}{es:List Expr}{te:TE}{t:TA}{pos:Pos}
theorem pa_nil:PA X [] tNil:=fun _ _ _ _ H Q I h=>Calls.spliced_nil ⟨[],H,I,.nil,h⟩
theorem pa_cons (ha:PE X e te)(hr:PA X es t)(hs:starEach (e :: es) X.env=(false,eval e X.env) :: starEach es X.env:=by rfl):PA X (e :: es) (tCons te t):=by
 intro pos pins s σ H Q I h
 rw [hs]
 show wpAny _ _ (spliced ((false,eval e X.env) :: backTo pos (starEach es X.env))) _ _ s
 refine Calls.spliced_cons (thn (ha pins s σ H _ I h) fun u s1 ⟨x,H1,I1,r1,q1⟩ => ?_)
 exact thn (hr pos pins s1 σ H1 _ I1 q1) fun us s2 ⟨xs,H2,I2,r2,q2⟩=>⟨x :: xs,H2,I2,.cons r1 r2,q2⟩
def tTup (t:TA):TE:=fun σ H Q=>t σ H fun xs H1=>xs.length<=sizeLine/\∀ p,H1 p=none->Q (.ref p) (upd H1 p (.tup xs))
def tLst (t:TA):TE:=fun σ H Q=>t σ H fun xs H1=>xs.length<=sizeLine/\∀ p,H1 p=none->Q (.ref p) (upd H1 p (.lst xs))
theorem pe_tup {x1}(h:PA X es t):PE X (.Tuple es x1 pos) (tTup t):=by
 intro pins s σ H Q I hq
 refine wpAny_Tuple_spliced (thn (h pos pins s σ H _ I hq) fun us s1 ⟨xs,H1,I1,r,z,q⟩=>⟨by rw [<- r.length]; exact z,?_⟩)
 have hf:H1 s1.heap.objs.size=none:=I1.hok.fresh (Nat.le_refl _)
 refine ⟨.ref s1.heap.objs.size,upd H1 s1.heap.objs.size (.tup xs),I1.laid (t':=s1.toks) (fun b u e=>Heap.get?_push_of_some _ e) (Nat.le_refl _) ?_,rfl,q _ hf⟩
 exact ⟨z,us,r,⟨_,Heap.get?_push_size _ rfl,rfl,_,rfl⟩⟩
theorem pe_lst (h:PA X es t):PE X (.List es pos) (tLst t):=by
 intro pins s σ H Q I hq
 refine wpAny_List_spliced (thn (h pos pins s σ H _ I hq) fun us s1 ⟨xs,H1,I1,r,z,q⟩=>⟨by rw [<- r.length]; exact z,?_⟩)
 have hf:H1 s1.heap.objs.size=none:=I1.hok.fresh (Nat.le_refl _)
 refine ⟨.ref s1.heap.objs.size,upd H1 s1.heap.objs.size (.lst xs),I1.laid (t':=s1.toks) (fun b u e=>Heap.get?_push_of_some _ e) (Nat.le_refl _) ?_,rfl,q _ hf⟩
 exact ⟨z,us,0,r,Heap.get?_push_size _ rfl⟩
end
abbrev Sp:=List V->Hp->VK->XK->Prop
abbrev CXT:=List Env->Hp->Shared->XK->Value->Shared->Prop
structure Env0 (P:Program)(w:World)(K:PySem.W.Frag)(mg:Str->Option Value)(base:Heap)(A:Around)(outer:List Env)(s:Shared)(H:Hp):Prop where
 frames:A.frames=some outer
 mod:Mod K mg base
 bs : ∀ b o,base.get? b=some o->s.heap.get? b=some o/\H b=none
 bsz:base.objs.size<=s.heap.objs.size
 funs:s.heap.FunFrames base outer
 frf : ∀ b ∈ frs outer,H b=none
 hok:HOk P w H s.heap
 bare:AllBare s.gens
def CE (outer:List Env)(P:Program)(w:World)(H:Hp)(s:Shared)(Q:VK)(u:Value)(s':Shared):Prop :=
 ∃ v H',s'.os=s.os/\AllBare s'.gens/\Un (frs outer) [] H H' s.heap s'.heap/\HOk P w H' s'.heap/\RelV v u/\Q v H'
def CR (CX:CXT)(outer:List Env)(P:Program)(w:World)(H:Hp)(s:Shared)(Q:VK)(E:XK)(r:Result)(s':Shared):Prop :=
 match r with
 | .ok (.ret u)=>CE outer P w H s Q u s'
 | .ok _=>False
 | .error e=>CX outer H s E e s'
structure FnOk (P:Program)(w:World)(K:PySem.W.Frag)(mg:Str->Option Value)(base:Heap)(CX:CXT)(k:Nat)(f:Addr)(fd:FuncData)(ps:List Str)(sp:Sp):Prop where
 len : ∀ vs H Q E,sp vs H Q E->vs.length=ps.length
 run : ∀ (A:Around) (outer:List Env) (s:Shared) (H:Hp) (args:Args) (us:List Value) (vs:List V) (Q:VK) (E:XK),Room k A->Env0 P w K mg base A outer s H->BindsTo s fd args (ps.zip us)->Vals vs us->sp vs H Q E ->
  codeAny (model P w) A (.call (.ref f) args) (CR CX outer P w H s Q E) s
theorem FnOk.mono {P:Program}{w:World}{K:PySem.W.Frag}{mg:Str->Option Value}{base:Heap}{CX:CXT}{j k:Nat}{f:Addr}{fd:FuncData}{ps:List Str}{sp:Sp}(F:FnOk P w K mg base CX j f fd ps sp)(h:j<=k) :
  FnOk P w K mg base CX k f fd ps sp:=⟨F.len,fun A outer s H args us vs Q E hr=>F.run A outer s H args us vs Q E (hr.mono h)⟩
theorem Env0.make {P:Program}{w:World}{K:PySem.W.Frag}{mg:Str->Option Value}{base:Heap}{A:Around}{outer:List Env}{s:Shared}{H:Hp}(e:Env0 P w K mg base A outer s H)(C:Addr)(us:List Value)(kw:List (Str × Value)) :
    Env0 P w K mg base (A.under (.builtin "type.__call__" ⟨.ref C :: us,kw⟩)) outer s H:=⟨by first | exact e.frames | (simpa [Around.under,Code.envs,Code.isFrame,pushEnvs] using e.frames),e.mod,e.bs,e.bsz,e.funs,e.frf,e.hok,e.bare⟩
section
variable {X:Cx}{pins:List (Addr × Obj)}{σ:St}{H:Hp}{s s':Shared}
theorem Inv.env0 (I:Inv X pins σ H s):Env0 X.prog X.w X.K X.mg X.base X.A X.stack s H :=
 ⟨I.ok.frames,I.ok.mod,I.bs,Nat.le_trans I.ok.bsz I.sz,I.stack,I.stkFree,I.hok,I.bare⟩
theorem Inv.after {Q:VK}{u:Value}(I:Inv X pins σ H s)(h:CE X.stack X.prog X.w H s Q u s'):EP X pins σ Q u s':=by
 obtain ⟨v,H',os,bare,un,hok,r,q⟩:=h
 obtain ⟨hh,g,d,t,os'⟩:=s'
 obtain rfl:os'=s.os:=os
 exact ⟨v,H',I.call (h':=hh) (g':=g) (d':=d) (t':=t) (ch:=[]) un hok bare (fun b z=>absurd z (by simp)),r,q⟩
end
def tCall (sp:Sp)(dvs:List V)(E:XK)(t:TA):TE:=fun σ H Q=>t σ H fun vs H1=>sp (vs ++ dvs) H1 Q E
def tMeth (C:Addr)(m:Str)(sp:Sp)(dvs:List V)(E:XK)(ta:TE)(t:TA):TE:=fun σ H Q=>ta σ H fun x H1=>∃ a dx fs,x = .ref a/\H1 a=some (.ins C dx fs)/\fs.lookup m=none /\
 t σ H1 fun vs H2=>sp (x :: (vs ++ dvs)) H2 Q E
def tMake (C:Addr)(sp:Sp)(dvs:List V)(E:XK)(t:TA):TE:=fun σ H Q=>t σ H fun vs H1=>∀ x dx,H1 x=none->H1 dx=none->dx ≠ x ->
 sp (.ref x :: (vs ++ dvs)) (upd (upd H1 dx (.own x)) x (.ins C dx [])) (fun v H2=>v = .non/\Q (.ref x) H2) E
def Binds (K:PySem.W.Frag)(fd:FuncData)(ps:List Str)(ds:List Value):Prop :=
 ∀ (s:Shared) (us:List Value),K.In s.heap->(us ++ ds).length=ps.length->BindsTo s fd ⟨us,[]⟩ (ps.zip (us ++ ds))
theorem Binds.all {K:PySem.W.Frag}{fd:FuncData}{ps:List Str}(h : ∀ us:List Value,us.length=ps.length->bindArgs fd ⟨us,[]⟩=pure (ps.zip us)):Binds K fd ps []:=fun s us _ hl=>by
 rw [List.append_nil] at hl ⊢
 exact .of_eq (h us hl)
def Passes (CX:CXT)(X:Cx)(E:XK):Prop:=∀ (pins:List (Addr × Obj)) (σ:St) (H:Hp) (s:Shared) (e:Value) (s':Shared),Inv X pins σ H s->CX X.stack H s E e s'->X.xe e s'
section
variable {X:Cx}{CX:CXT}{k:Nat}{f C:Addr}{fd:FuncData}{ps:List Str}{sp:Sp}{dvs:List V}{ds:List Value}{E:XK}{x m:Str}{p pos apos:Pos}{e o:Expr}{es:List Expr}{ta:TE}{t:TA}
theorem run_fn {pins:List (Addr × Obj)}{σ:St}{H:Hp}{s:Shared}{Q:VK}{us:List Value}{vs:List V}(F:FnOk X.prog X.w X.K X.mg X.base CX k f fd ps sp)(hr:Room k X.A)(hb:Binds X.K fd ps ds)(hd:Vals dvs ds)(hx:Passes CX X E)
  (I:Inv X pins σ H s) (r:Vals vs us) (h:sp (vs ++ dvs) H Q E):wpAny (model X.prog X.w) X.A (call (.ref f) us) (EP X pins σ Q) X.xe s:=by
 have r2:Vals (vs ++ dvs) (us ++ ds):=r.append hd
 have hl:(us ++ ds).length=ps.length:=by rw [<- r2.length]; exact F.len _ _ _ _ h
 refine wpAny_call (codeAny_mono (F.run X.A X.stack s H ⟨us,[]⟩ (us ++ ds) (vs ++ dvs) Q E hr I.env0 (hb s us I.kIn hl) r2 h) fun r s' hq => ?_)
 cases r with
 | error e=>exact hx pins σ H s e s' I hq
 | ok fl =>
  cases fl with
  | ret u=>exact I.after hq
  | next=>exact False.elim hq
  | brk=>exact False.elim hq
  | cont=>exact False.elim hq
theorem pe_call (F:FnOk X.prog X.w X.K X.mg X.base CX k f fd ps sp)(hr:Room k X.A)(hg:Gl X x)(hm:X.mg x=some (.ref f))(hk:PySem.W.keepIn X.K (.ref f)=true)(hb:Binds X.K fd ps ds)(hd:Vals dvs ds)(hx:Passes CX X E)
  (ha:PA X (e :: es) t) (hdb:(x == ("__debug__" : Str))=false:=by decide) (he:starEach (e :: es) X.env=(false,eval e X.env) :: starEach es X.env:=by rfl) (hpl:(backTo pos (starEach es X.env)).any (·.1)=false:=by rfl) :
  PE X (.Call (.Name x p) (e :: es) [] pos) (tCall sp dvs E t):=by
 intro pins s σ H Q I h
 refine wpAny_Call_Name_kw (ld_glob I hg hm ?_ hdb)
 refine PySem.W.callWith_K (h₀:=X.base) I.ok.mod.kin hk (thn (ha pos pins s σ H _ I h) fun us s1 ⟨vs,H1,I1,r,q⟩=>⟨I1.kIn,?_⟩) he hpl
 exact run_fn F hr hb hd hx I1 r q
structure Mk (K:PySem.W.Frag)(C f:Addr):Prop where
 makes:PySem.W.makesIn K C=true
 init:PySem.W.findIn K (.ref C) "__init__" = some (some (.ref f))
 fn:PySem.W.isFn K (.ref f)=true
 kp:PySem.W.keepIn K (.ref C)=true
end
def PK (X:Cx)(kws:List Keyword)(t:TA):Prop :=
 ∀ (pos:Pos) (pins:List (Addr × Obj)) (s:Shared) (σ:St) (H:Hp) (Q:List V->Hp->Prop),Inv X pins σ H s->t σ H Q->wpAny (model X.prog X.w) X.A (evalAll ((backToKw pos (keywordEach kws X.env)).map (·.2))) (AP X pins σ Q) X.xe s
section
variable {X:Cx}{CX:CXT}{k:Nat}{f C:Addr}{fd:FuncData}{ps ks:List Str}{sp:Sp}{E:XK}{x m:Str}{p pos apos kpos:Pos}{e o:Expr}{es:List Expr}{kws:List Keyword}{te ta:TE}{t tk:TA}{nm:Option Str}
structure KBinds (K:PySem.W.Frag)(fd:FuncData)(ps ks:List Str)(g:List Value->List Value->List Value)(gV:List V->List V->List V):Prop where
 to : ∀ (s:Shared) (us ws:List Value),K.In s.heap->(g us ws).length=ps.length->BindsTo s fd ⟨us,ks.zip ws⟩ (ps.zip (g us ws))
 rel : ∀ {vs:List V} {us:List Value} {zs:List V} {ws:List Value},Vals vs us->Vals zs ws->Vals (gV vs zs) (g us ws)
def tCallK (sp:Sp)(gV:List V->List V->List V)(E:XK)(t tk:TA):TE:=fun σ H Q=>t σ H fun vs H1=>tk σ H1 fun zs H2=>sp (gV vs zs) H2 Q E
variable {g:List Value->List Value->List Value}{gV:List V->List V->List V}
end
structure FnScope (N P:List Str)(sc:Scope):Prop where
 kind:sc.kind = .function
 co:sc.isCoroutine=false
 gen:sc.isGenerator=false
 nd:N.Nodup
 pre:N.take P.length=P
 par : ∀ x ∈ P,sc.names.lookup x=some .local\/sc.names.lookup x=some .cell
 nofree : ∀ y ∈ sc.names,y.2 ≠ .free
theorem bindL_out {kindOf:Str->Option NameKind}{x:Str} : ∀ {binds:List (Str × Value)} {m:Str->Option Value},(∀ v,(x,v) ∉ binds)->bindL kindOf binds m x=m x
  | [],_,_=>rfl
  | (n,v) :: r,m,h=>by
    unfold bindL
    rw [bindL_out fun w hw=>h w (List.mem_cons_of_mem _ hw)]
    split
    · have:x ≠ n:=by rintro rfl; exact h v List.mem_cons_self
      simp [this]
    · rfl
theorem bindC_out {kindOf:Str->Option NameKind}{x:Str} : ∀ {binds:List (Str × Value)} {m:Str->Option Value},(∀ v,(x,v) ∉ binds)->bindC kindOf binds m x=m x
  | [],_,_=>rfl
  | (n,v) :: r,m,h=>by
    unfold bindC
    rw [bindC_out fun w hw=>h w (List.mem_cons_of_mem _ hw)]
    split
    · rfl
    · have:x ≠ n:=by rintro rfl; exact h v List.mem_cons_self
      simp [this]
theorem bindL_get {kindOf:Str->Option NameKind}{x:Str}{v:Value} : ∀ {P:List Str} {vs:List Value} {i:Nat} {m:Str->Option Value},P.Nodup->P[i]?=some x->vs[i]?=some v->kindOf x=some .local ->
  bindL kindOf (P.zip vs) m x=some v
 | [],_,_,_,_,h,_,_=>by simp at h
 | _ :: _,[],_,_,_,_,h,_=>by simp at h
 | p :: P,w :: vs,0,m,nd,h1,h2,hk=>by
  simp at h1 h2; subst h1; subst h2
  show bindL kindOf ((p,w) :: P.zip vs) m p=_
  unfold bindL
  rw [bindL_out fun v hv=>(List.nodup_cons.mp nd).1 (List.of_mem_zip hv).1,if_pos hk]
  simp
 | p :: P,w :: vs,i+1,m,nd,h1,h2,hk=>by
  show bindL kindOf ((p,w) :: P.zip vs) m x=_
  unfold bindL
  exact bindL_get (i:=i) (List.nodup_cons.mp nd).2 (by simpa using h1) (by simpa using h2) hk
theorem bindC_get {kindOf:Str->Option NameKind}{x:Str}{v:Value} : ∀ {P:List Str} {vs:List Value} {i:Nat} {m:Str->Option Value},P.Nodup->P[i]?=some x->vs[i]?=some v->kindOf x ≠ some .local ->
  bindC kindOf (P.zip vs) m x=some v
 | [],_,_,_,_,h,_,_=>by simp at h
 | _ :: _,[],_,_,_,_,h,_=>by simp at h
 | p :: P,w :: vs,0,m,nd,h1,h2,hk=>by
  simp at h1 h2; subst h1; subst h2
  show bindC kindOf ((p,w) :: P.zip vs) m p=_
  unfold bindC
  rw [bindC_out fun v hv=>(List.nodup_cons.mp nd).1 (List.of_mem_zip hv).1,if_neg hk]
  simp
 | p :: P,w :: vs,i+1,m,nd,h1,h2,hk=>by
  show bindC kindOf ((p,w) :: P.zip vs) m x=_
  unfold bindC
  exact bindC_get (i:=i) (List.nodup_cons.mp nd).2 (by simpa using h1) (by simpa using h2) hk
def start (N:List Str)(vs:List V):St:=vs.map some ++ List.replicate (N.length - vs.length) none
def cxOf (CX:CXT)(P:Program)(w:World)(K:PySem.W.Frag)(mg:Str->Option Value)(base:Heap)(N:List Str)(qual:Str)(scope:Scope)(f:Addr)(cd:Value)(A:Around)(outer:List Env)(s:Shared)(H:Hp)(E:XK):Cx where
 prog:=P
 w:=w
 K:=K
 mg:=mg
 base:=base
 A:=A.deeper (envOfC qual scope s.heap.objs.size f cd)
 N:=N
 s₀:=s
 H₀:=H
 env:=envOfC qual scope s.heap.objs.size f cd
 outer:=outer
 stack:=envOfC qual scope s.heap.objs.size f cd :: outer
 ex:=[]
 calm:=true
 fn:=fun _=>true
 pn:=[]
 xe:=fun e s'=>wpAny (model P w) (A.deeper (envOfC qual scope s.heap.objs.size f cd)) (leaving (envOfC qual scope s.heap.objs.size f cd) e) (fun _ s''=>CX outer H s E e s'') (fun e' s''=>CX outer H s E e' s'') s'
theorem cell_has {sc:Scope}{n:Nat}{x:Str}(h:sc.names.lookup x=some .cell) : ∃ c,(cellsFrom n sc.names []).lookup x=some c:=by
 have q:=PySem.W.cellsFrom_some sc.names n [] (.inl h)
 exact Option.isSome_iff_exists.mp q
theorem inv_start {CX:CXT}{P:Program}{w:World}{K:PySem.W.Frag}{mg:Str->Option Value}{base:Heap}{N ps:List Str}{qual:Str}{scope:Scope}{f:Addr}{cd:Value}{A:Around}{outer:List Env}{s s1:Shared}{H:Hp}{E:XK}{us:List Value}{vs:List V}
  (S:FnScope N ps scope) (hd:A.handled=none) (e0:Env0 P w K mg base A outer s H) (hl:vs.length=ps.length) (r:Vals vs us)
  (x:InCallC s s.heap.objs.size (bindL (envOfC qual scope s.heap.objs.size f cd).kindOf (ps.zip us) fun _=>none) (cellsFrom (s.heap.objs.size+1) scope.names []) (bindC (envOfC qual scope s.heap.objs.size f cd).kindOf (ps.zip us) fun _=>none) s1) :
  Inv (cxOf CX P w K mg base N qual scope f cd A outer s H E) [] (start N vs) H s1:=by
 have hpl:ps.length<=N.length:=by have:=congrArg List.length S.pre; rw [List.length_take] at this; omega
 obtain ⟨h1,tk,rfl,hk⟩:=x.done
 have noA : ∀ b:Addr,b ∉ (cxOf CX P w K mg base N qual scope f cd A outer s H E).ex:=fun b z=>absurd (show b ∈ ([]:List Addr) from z) (by simp)
 refine ⟨⟨e0.mod,S.kind,rfl,rfl,Nat.le_refl _,fun y z c h1 h2 => ?_,fun y hy => ?_,fun y c _ h => ?_,fun _=>hd,Around.frames_deeper e0.frames,.inr ⟨rfl,rfl⟩,fun b z=>absurd z (noA b),e0.bs,e0.bsz,fun b _ _=>noA b,fun b z=>absurd z (noA b),e0.funs,e0.frf⟩,
  rfl,e0.bare,Un.kept hk,⟨_,x.toInCall.ns,fun i y v h1 h2 h3 => ?_⟩,fun y c h=>⟨_,x.cell y c h⟩,e0.hok.fresh (Nat.le_refl _),fun y c h => ?_,fun p hp=>absurd (show p ∈ ([]:List (Addr × Obj)) from hp) (by simp),e0.hok.kept hk,?_⟩
 ·exact name_of_addr x.apart (PySem.mem_of_lookup h1) (PySem.mem_of_lookup h2)
 ·have hy:scope.names.lookup y=some .cell\/scope.names.lookup y=some .free:=hy
  rcases hy with hy | hy
  ·exact cell_has hy
  ·exact absurd rfl (S.nofree _ (PySem.mem_of_lookup hy))
 ·exact Nat.le_of_lt (x.above y c (PySem.mem_of_lookup h))
 ·have hi:i < vs.length:=by
   unfold start at h2
   by_cases hi:i < vs.length
   ·exact hi
   ·rw [List.getElem?_append_right (by simpa using hi)] at h2
    rw [List.getElem?_replicate] at h2
    split at h2 <;> cases h2
  have ha:vs[i]?=some v:=by
   unfold start at h2
   rw [List.getElem?_append_left (by simpa using hi),List.getElem?_map] at h2
   cases e:vs[i]? with
   | none=>rw [e] at h2; cases h2
   | some a=>rw [e] at h2; cases h2; rfl
  obtain ⟨u,hu,rv⟩:=r.get ha
  have hp:ps[i]?=some y:=by
   rw [<- S.pre,List.getElem?_take_of_lt (by omega)]; exact h1
  have ndP:ps.Nodup:=by rw [<- S.pre]; exact S.nd.sublist (List.take_sublist _ _)
  refine ⟨u,rv,?_⟩
  rcases S.par y (List.mem_of_getElem? hp) with k | k
  ·exact .inl ⟨k,bindL_get ndP hp hu k⟩
  ·obtain ⟨c,e⟩:=cell_has (n:=s.heap.objs.size+1) k
   refine .inr ⟨.inl k,c,e,?_⟩
   have q:=x.cell y c e
   rw [bindC_get ndP hp hu (by show scope.names.lookup y ≠ _; rw [k]; decide)] at q
   exact q
 ·exact e0.hok.fresh (Nat.le_of_lt (x.above y c (PySem.mem_of_lookup h)))
 ·unfold start
  show _=N.length
  rw [List.length_append,List.length_map,List.length_replicate]
  omega
theorem fn_of {CX:CXT}{P:Program}{w:World}{K:PySem.W.Frag}{mg:Str->Option Value}{base:Heap}{k:Nat}{f:Addr}{name qual:Str}{params:Arguments}{body:List Stmt}{scope:Scope}{dV kV doc pm cdv ct oc:Value}{an od:Option Addr}
  {osl:Array (Option Value)} {N ps:List Str} {sp:Sp} (lk:K.lookup f=some ⟨oc,od,.func (PySem.W.fnOf name qual params body scope dV kV doc pm an cdv ct),osl⟩) (hcd:PySem.W.codeIn K cdv qual=true) (S:FnScope N ps scope)
  (len : ∀ vs H Q E,sp vs H Q E->vs.length=ps.length)
  (hbody : ∀ (A:Around) (outer:List Env) (s:Shared) (H:Hp) (vs:List V) (Q:VK) (E:XK),Room k (A.deeper (envOfC qual scope s.heap.objs.size f cdv))->sp vs H Q E ->
   ∃ t,PSs (cxOf CX P w K mg base N qual scope f cdv A outer s H E) body t/\t { nx:=fun _ H'=>Q .non H',rt:=Q } (start N vs) H) :
  FnOk P w K mg base CX (k+1) f (PySem.W.fnOf name qual params body scope dV kV doc pm an cdv ct) ps sp:=by
 refine ⟨len,fun A outer s H args us vs Q E hr e0 hb r hsp => ?_⟩
 have hl:=len _ _ _ _ hsp
 have KX:K.In s.heap:=e0.mod.kin.keeps fun b o e=>(e0.bs b o e).1
 have lim:s.heap.NoLimit:=e0.mod.nolimit.keeps fun b o e=>(e0.bs b o e).1
 have hkind : ∀ y ∈ ps.zip us,scope.names.lookup y.1=some .local\/(scope.names.lookup y.1=some .cell/\((cellsFrom (s.heap.objs.size+1) scope.names []).lookup y.1).isSome=true):=fun ⟨n,v⟩ hy=>by
  rcases S.par n (List.of_mem_zip hy).1 with q | q
  ·exact .inl q
  ·exact .inr ⟨q,PySem.W.cellsFrom_some _ _ _ (.inl q)⟩
 refine codeAny_call_function hr.depth (KX _ _ lk) rfl S.co S.gen rfl (PySem.W.codeRec_of KX hcd) (hb _ _ _ _ ?_)
 refine wpAny_newFunctionEnv_cells S.kind hkind fun env he s1 x => ?_
 subst he
 refine ⟨lim.keeps x.toInCall.keep,codeAny_func ?_⟩
 obtain ⟨t,ht,hq⟩:=hbody A outer s H vs Q E (hr.deeper _) hsp
 have I:Inv (cxOf CX P w K mg base N qual scope f cdv A outer s H E) [] (start N vs) H s1:=inv_start S hr.hd e0 hl r x
 refine wpAny_mono (ht [] s1 (start N vs) H _ I hq) (fun fl s' hs => ?_) fun e s' hs=>hs
 have fin : ∀ {σ':St} {H':Hp} {v:V} {u:Value},Inv (cxOf CX P w K mg base N qual scope f cdv A outer s H E) [] σ' H' s'->RelV v u->Q v H'->CE outer P w H s Q u s' :=
  fun {σ' H' v u} J rv q=>⟨v,H',J.os,J.bare,J.base,J.hok,rv,q⟩
 cases fl with
 | ret u =>
  obtain ⟨v,σ',H',J,rv,q⟩:=hs
  exact fin J rv q
 | next =>
  obtain ⟨σ',H',J,q⟩:=hs
  exact fin (v:=V.non) (u:=Value.none) J rfl q
 | brk =>
  obtain ⟨_,_,_,q⟩:=hs
  exact False.elim q
 | cont =>
  obtain ⟨_,_,_,q⟩:=hs
  exact False.elim q
end L2
namespace L2
open PySem PySem.Spec PyProof.Rows
section
variable {X:Cx}{x:Str}{p pos:Pos}{e:Expr}{es:List Expr}{t:TA}{id T:String}{r:List V->Hp->VK->Prop}
def tCB (r:List V->Hp->VK->Prop)(t:TA):TE:=fun σ H Q=>t σ H fun vs H1=>r vs H1 Q
theorem pe_callB (hc:CallR X (.builtin id) r)(hg:Gl X x)(hm:X.mg x=none)(hv:bootBuiltins x=some (.builtin id))(ha:PA X (e :: es) t)(hn:x ≠ "__name__" := by decide)(hdb:(x == ("__debug__" : Str))=false:=by decide)
  (he:starEach (e :: es) X.env=(false,eval e X.env) :: starEach es X.env:=by rfl) (hpl:(backTo pos (starEach es X.env)).any (·.1)=false:=by rfl):PE X (.Call (.Name x p) (e :: es) [] pos) (tCB r t):=by
 intro pins s σ H Q I h
 refine wpAny_Call_Name_kw (ld_blt I hg hm hv ?_ hn hdb)
 exact PyProof.Rows.callWith_builtin1 (thn (ha pos pins s σ H _ I h) fun us s1 ⟨vs,H1,I1,r1,q1⟩=>hc pins s1 σ H1 vs us Q I1 r1 q1) he hpl
theorem pe_callTy (hc:CallR X (.type T) r)(hg:Gl X x)(hm:X.mg x=none)(hv:bootBuiltins x=some (.type T))(ha:PA X (e :: es) t)(hn:x ≠ "__name__" := by decide)(hdb:(x == ("__debug__" : Str))=false:=by decide)
  (he:starEach (e :: es) X.env=(false,eval e X.env) :: starEach es X.env:=by rfl) (hpl:(backTo pos (starEach es X.env)).any (·.1)=false:=by rfl):PE X (.Call (.Name x p) (e :: es) [] pos) (tCB r t):=by
 intro pins s σ H Q I h
 refine wpAny_Call_Name_kw (ld_blt I hg hm hv ?_ hn hdb)
 exact PyProof.Rows.callWith_type1 (thn (ha pos pins s σ H _ I h) fun us s1 ⟨vs,H1,I1,r1,q1⟩=>hc pins s1 σ H1 vs us Q I1 r1 q1) he hpl
end
end L2
namespace HT
open PySem PyProof.Rows
def lexLt:List Int->List Int->Bool
 | [],[]=>false
 | [],_ :: _=>true
 | _ :: _,[]=>false
 | x :: xs,y :: ys=>if x=y then lexLt xs ys else decide (x < y)
section
open PySem.SeqAt
open PySem.AutoSeq1 (wpAny_loadPart')
open PySem.MeetsSeq PySem.MeetsSeq2 PySem.MeetsSeq3
end
section
variable {prog:Program}{w:World}{A:Around}{E:Value->Shared->Prop}{s:Shared}
def sIx (n d:Nat):Option Int->Nat
 | none=>d
 | some v=>if v < 0 then (v+(n:Int)).toNat else min v.toNat n
theorem sIx_none (n d:Nat):sIx n d none=d:=rfl
theorem sIx_nat (n d k:Nat):sIx n d (some (k:Int))=min k n:=by
 show (if (k:Int) < 0 then ((k:Int)+(n:Int)).toNat else min (k:Int).toNat n)=min k n
 rw [if_neg (by omega),Int.toNat_natCast]
theorem sIx_le (n d:Nat)(hd:d<=n)(o:Option Int):sIx n d o<=n:=by
 cases o with
 | none=>exact hd
 | some v =>
  show (if v < 0 then (v+(n:Int)).toNat else min v.toNat n)<=n
  by_cases hv:v < 0
  ·rw [if_pos hv]; omega
  ·rw [if_neg hv]; exact Nat.min_le_right _ _
theorem clip_eq (v:Int)(n d:Nat):(if v < 0 then max (v+(n:Int)) 0 else min v (n:Int))=((sIx n d (some v):Nat):Int):=by
 show (if v < 0 then max (v+(n:Int)) 0 else min v (n:Int))=(((if v < 0 then (v+(n:Int)).toNat else min v.toNat n):Nat):Int)
 by_cases hv:v < 0
 ·simp only [if_pos hv]; omega
 ·simp only [if_neg hv]; omega
theorem adjust_gen (lo hi:Option Int)(n:Nat):Builtin.Slice.sliceAdjust lo hi 1 (n:Int)=(((sIx n 0 lo:Nat):Int),((sIx n n hi:Nat):Int)):=by
 have h1 : ¬ ((1:Int) < 0):=by omega
 unfold Builtin.Slice.sliceAdjust
 simp only [h1,if_false]
 refine Prod.ext ?_ ?_
 ·cases lo with
  | none=>rfl
  | some v=>exact clip_eq v n 0
 ·cases hi with
  | none=>rfl
  | some v=>exact clip_eq v n n
theorem places_gen (i j:Nat):Builtin.Slice.slicePlaces (i:Int) (j:Int) 1=j - i:=by
 unfold Builtin.Slice.slicePlaces
 have h1:(1:Int) > 0:=by omega
 simp only [h1,if_true,Int.ediv_one]
 split <;> omega
theorem slicePart_ {v:Value}{o:Option Int}{Q:Option Int->Shared->Prop}(p:IsPart v o)(h:Q o s):wpAny (model prog w) A (Builtin.Slice.slicePartIndex v) Q E s:=by
 cases p with
 | none=>exact slicePart_none h
 | int i t=>exact slicePart_int h
theorem sliceApplied_gen {sl:Addr}{vl vu:Value}{lo hi:Option Int}{n:Nat}{Q:Int × Int × Nat->Shared->Prop}(hs:s.heap.IsSliceOf sl vl vu .none)(pl:IsPart vl lo)(pu:IsPart vu hi)
    (h:Q (((sIx n 0 lo:Nat):Int),1,sIx n n hi - sIx n 0 lo) s):wpAny (model prog w) A (Builtin.Slice.sliceApplied (.ref sl) (pure (n:Int))) Q E s:=by
  obtain ⟨os,hos,hcs,hds⟩:=id hs
  unfold Builtin.Slice.sliceApplied Builtin.Slice.sliceFields
  refine wpAny_bind (wpAny_bind (wpAny_field hos hds (x:=vl) rfl (wpAny_bind (wpAny_field hos hds (x:=vu) rfl (wpAny_bind (wpAny_field hos hds (x:=.none) rfl (wpAny_pure ?_)))))))
  refine wpAny_bind (slicePart_none ?_)
  show wpAny _ _ (if ((1:Int) == 0)=true then _ else _) _ _ s
  rw [if_neg (by decide)]
  refine wpAny_bind (slicePart_ pl (wpAny_bind (slicePart_ pu (wpAny_bind (wpAny_pure ?_)))))
  show wpAny _ _ (match Builtin.Slice.sliceAdjust lo hi 1 (n:Int) with | (lo,hi)=>pure (lo,(1:Int),Builtin.Slice.slicePlaces lo hi 1)) _ _ s
  rw [adjust_gen lo hi n]
  show wpAny _ _ (pure (((sIx n 0 lo:Nat):Int),(1:Int),Builtin.Slice.slicePlaces ((sIx n 0 lo:Nat):Int) ((sIx n n hi:Nat):Int) 1)) _ _ s
  rw [places_gen]
  exact wpAny_pure h
theorem pick_gen (xs:Array Value)(i k:Nat):((List.range k).filterMap fun (m:Nat)=>xs[((i:Int)+(m:Int)*1).toNat]?).toArray=((xs.toList.drop i).take k).toArray:=by
 have e:(fun (m:Nat)=>xs[((i:Int)+(m:Int)*1).toNat]?)=fun m=>xs[i+m]?:=by
  funext m
  have:((i:Int)+(m:Int)*1).toNat=i+m:=by omega
  rw [this]
 rw [e]
 have:=pick_run xs i k
 rw [List.filterMap_map] at this
 have e2:((fun x=>xs[x]?) ∘ fun x=>i+x)=fun m=>xs[i+m]?:=rfl
 rw [e2] at this
 rw [this]
theorem getItem_tuple_cut {t sl:Addr}{items:Array Value}{vl vu:Value}{lo hi:Option Int}{Q:Value->Shared->Prop}(ht:IsTup s.heap t items)(hs:s.heap.IsSliceOf sl vl vu .none)(pl:IsPart vl lo)(pu:IsPart vu hi)
  (hw : ¬ (sIx items.size 0 lo=0/\sIx items.size items.size hi=items.size))
  (h:Q (.ref s.heap.objs.size) { s with heap:=s.heap.push { cls:=.type "tuple",data:=.seq ((items.toList.drop (sIx items.size 0 lo)).take (sIx items.size items.size hi - sIx items.size 0 lo)).toArray } })
  (hsz:items.size<=sizeLine):wpAny (model prog w) A (getItem (.ref t) (.ref sl)) Q E s:=by
 have htake:sizeOk (.seq ((items.toList.drop (sIx items.size 0 lo)).take (sIx items.size items.size hi - sIx items.size 0 lo)).toArray):=by
  show ((items.toList.drop (sIx items.size 0 lo)).take (sIx items.size items.size hi - sIx items.size 0 lo)).toArray.size<=sizeLine
  rw [List.size_toArray,List.length_take,List.length_drop,Array.length_toList]
  omega
 have hj:sIx items.size items.size hi<=items.size:=sIx_le _ _ (Nat.le_refl _) hi
 obtain ⟨os,hos,hcs,hds⟩:=id hs
 have hTs:s.TypeIs (.ref sl) "slice" := ⟨os,hos,hcs⟩
 unfold getItem
 try with_reducible refine wpAny_holding ?_
 first | refine wpAny_bind (wpAny_pure ?_) | skip
 refine wpAny_bind (wpAny_sequenceKey ht.typeIs (by decide) ?_)
 refine wpAny_bind (wpAny_callSpecial?_slot (name:=Str.ofString "__getitem__") ht.typeIs PyProof.Rows.slot_tuple_getitem
  (wpAny_call_entry PyProof.Rows.slot_tuple_getitem ht.typeIs entry_tuple_getitem ?_ (args_tuple_getitem _ _)))
 show wpAny _ _ (Builtin.Tuple.tupleItemsOf (.ref t) >>= _) _ _ s
 refine wpAny_bind (tupleItemsOf_ ht ?_)
 refine wpAny_bind (wpAny_typeOf hTs ?_)
 rw [if_pos (by decide)]
 refine wpAny_bind (sliceApplied_gen hs pl pu ?_)
 have hno : ¬ ((((sIx items.size 0 lo:Nat):Int) == 0 && (1:Int) == 1 && (sIx items.size items.size hi - sIx items.size 0 lo) == items.size)=true):=by
  intro q
  rw [Bool.and_eq_true,Bool.and_eq_true] at q
  have q1:((sIx items.size 0 lo:Nat):Int)=0:=eq_of_beq q.1.1
  have q2:sIx items.size items.size hi - sIx items.size 0 lo=items.size:=eq_of_beq q.2
  exact hw ⟨by omega,by omega⟩
 show wpAny _ _ (if (((sIx items.size 0 lo:Nat):Int) == 0 && (1:Int) == 1 && (sIx items.size items.size hi - sIx items.size 0 lo) == items.size)=true then _ else _) _ _ s
 rw [if_neg hno,pick_gen]
 first
  | exact wpAny_bind (m:=Builtin.Tuple.tupleExact _) (wpAny_newObj_type (wpAny_pure ⟨_,rfl,wpAny_pure h⟩) htake)
  | exact wpAny_bind (m:=Builtin.Tuple.tupleExact _) (wpAny_newObj_type (wpAny_bind (wpAny_pure (wpAny_pure ⟨_,rfl,wpAny_pure h⟩))) htake)
  | exact wpAny_bind (wpAny_bind (m:=Builtin.Tuple.tupleExact _) (wpAny_newObj_type (wpAny_pure (wpAny_pure ⟨_,rfl,wpAny_pure h⟩)) htake))
  | exact wpAny_bind (wpAny_bind (m:=Builtin.Tuple.tupleExact _) (wpAny_newObj_type (wpAny_pure ⟨_,rfl,wpAny_pure h⟩) htake))
end
end HT
namespace L2
open PySem PySem.Spec PyProof.Rows
abbrev TO:=St->Hp->(Option Int->Hp->Prop)->Prop
def PO (X:Cx)(e:Option Expr)(t:TO):Prop :=
 ∀ (pins:List (Addr × Obj)) (s:Shared) (σ:St) (H:Hp) (Q:Option Int->Hp->Prop),Inv X pins σ H s->t σ H Q ->
  wpAny (model X.prog X.w) X.A (evalPart e X.env) (fun u s'=>∃ o H',Inv X pins σ H' s'/\IsPart u o/\Q o H') X.xe s
def tNoPart:TO:=fun _ H Q=>Q none H
def tPart (t:TE):TO:=fun σ H Q=>t σ H fun x H1=>∃ i,x = .int i/\Q (some i) H1
theorem intsAre_of {ns:List Int} : ∀ {us:List Value},Vals (ns.map V.int) us->IntsAre us ns:=by
 induction ns with
 | nil=>intro us r; rw [List.map_nil] at r; cases r; exact .nil
 | cons n ns ih =>
  intro us r
  rw [List.map_cons] at r
  cases r with
  | cons r1 r2 =>
   obtain ⟨t,e⟩:=r1
   subst e
   exact .cons n t (ih r2)
section
variable {X:Cx}{e:Expr}{te:TE}{lo hi:Option Expr}{tl th:TO}{pos p2:Pos}
theorem po_none:PO X none tNoPart:=by
 intro pins s σ H Q I h
 rw [evalPart_none]
 exact wpAny_pure ⟨none,H,I,.none,h⟩
theorem po_some (h:PE X e te):PO X (some e) (tPart te):=by
 intro pins s σ H Q I hw
 rw [evalPart_some]
 refine thn (h pins s σ H _ I hw) fun u s1 ⟨x,H1,I1,r1,q1⟩ => ?_
 obtain ⟨i,rfl,q⟩:=q1
 obtain ⟨t,rfl⟩:=r1
 exact ⟨some i,H1,I1,.int i t,q⟩
def SlR (X:Cx)(r:V->Option Int->Option Int->Hp->VK->Prop):Prop :=
 ∀ (pins:List (Addr × Obj)) (s:Shared) (σ:St) (H:Hp) (x:V) (v vl vu:Value) (lo hi:Option Int) (sl:Addr) (Q:VK),Inv X pins σ H s->RelV x v->s.heap.IsSliceOf sl vl vu .none->IsPart vl lo->IsPart vu hi->r x lo hi H Q ->
  ∃ T id,typeLookup (.type T) "__getitem__" = pure (some (.builtin id))/\s.TypeIs v T/\wpAny (model X.prog X.w) X.A (getItem v (.ref sl)) (EP X pins σ Q) X.xe s
def tSl (r:V->Option Int->Option Int->Hp->VK->Prop)(te:TE)(tl th:TO):TE:=fun σ H Q=>te σ H fun x H1=>tl σ H1 fun l H2=>th σ H2 fun u H3=>r x l u H3 Q
theorem pe_slice {r:V->Option Int->Option Int->Hp->VK->Prop}(hr:SlR X r)(he:PE X e te)(hl:PO X lo tl)(hu:PO X hi th):PE X (.Subscript e (.Slice lo hi none p2) pos) (tSl r te tl th):=by
 intro pins s σ H Q I h
 refine Subscript_ (thn (he pins s σ H _ I h) fun v s1 ⟨x,H1,I1,r1,q1⟩ => ?_)
 refine wpAny_Slice (thn (hl pins s1 σ H1 _ I1 q1) fun vl s2 ⟨l,H2,I2,pl,q2⟩=>thn (hu pins s2 σ H2 _ I2 q2) fun vu s3 ⟨u,H3,I3,pu,q3⟩ => ?_)
 rw [evalPart_none]
 refine wpAny_pure ?_
 have I4:Inv X pins σ H3 { s3 with heap:=s3.heap.push { cls:=.type "slice",data:=.fields #[vl,vu,.none] } }:=I3.kept (t':=s3.toks) fun b ob q=>Heap.get?_push_of_some _ q
 obtain ⟨T,id,hT,ht,hg⟩:=hr pins { s3 with heap:=s3.heap.push { cls:=.type "slice",data:=.fields #[vl,vu,.none] } } σ H3 x v vl vu l u s3.heap.objs.size Q I4 r1 (Heap.IsSliceOf.new ..) pl pu q3
 show wpAny (model X.prog X.w) X.A (subscriptTail e (.Slice lo hi none p2) v (.ref s3.heap.objs.size)) (EP X pins σ Q) X.xe { s3 with heap:=s3.heap.push { cls:=.type "slice",data:=.fields #[vl,vu,.none] } }
 exact tail_any (ops:=[.ref s3.heap.objs.size,v]) ht hT hg (by with_unfolding_all rfl)
def cutV (xs:List V)(lo hi:Option Int):List V:=(xs.drop (HT.sIx xs.length 0 lo)).take (HT.sIx xs.length xs.length hi - HT.sIx xs.length 0 lo)
theorem cutV_length (xs:List V)(lo hi:Option Int):(cutV xs lo hi).length<=xs.length:=by
 unfold cutV
 rw [List.length_take,List.length_drop]
 omega
def rSlT (K:PySem.W.Frag):V->Option Int->Option Int->Hp->VK->Prop:=fun x lo hi H Q=>∃ a xs,x = .ref a/\SqT K H a xs /\
 ¬ (HT.sIx xs.length 0 lo=0/\HT.sIx xs.length xs.length hi=xs.length)/\∀ p,H p=none->Q (.ref p) (upd H p (.tup (cutV xs lo hi)))
theorem sl_tup:SlR X (rSlT X.K):=by
 intro pins s σ H x v vl vu lo hi sl Q I rx hs pl pu h
 obtain ⟨a,xs,rfl,hx,hw,q⟩:=h
 cases rx
 obtain ⟨its,r,ht,hz⟩:=I.tuple hx
 have hlen:its.toArray.size=xs.length:=by rw [List.size_toArray]; exact r.length.symm
 refine ⟨"tuple",_,PyProof.Rows.slot_tuple_getitem.lookup,ht.typeIs,?_⟩
 refine HT.getItem_tuple_cut ht hs pl pu (by rw [hlen]; exact hw) ?_ (by rw [hlen]; exact hz)
 rw [hlen]
 refine ⟨.ref s.heap.objs.size,_,I.laid (t':=s.toks) (o:=.tup (cutV xs lo hi)) (fun b ob q=>Heap.get?_push_of_some _ q) (Nat.le_refl _) ?_,rfl,q _ (I.hok.fresh (Nat.le_refl _))⟩
 exact ⟨Nat.le_trans (cutV_length xs lo hi) hz,_,(r.drop (HT.sIx xs.length 0 lo)).take (HT.sIx xs.length xs.length hi - HT.sIx xs.length 0 lo),IsTup.new _ _⟩
def rLtT (K:PySem.W.Frag):R2:=fun x y H Q=>∃ a b ns ms,x = .ref a/\y = .ref b/\SqT K H a (ns.map V.int)/\SqT K H b (ms.map V.int)/\Q (.bl (HT.lexLt ns ms)) H
def rCatT (K:PySem.W.Frag):R2:=fun x y H Q=>∃ a b xs ys,x = .ref a/\y = .ref b/\SqT K H a xs/\SqT K H b ys/\xs ≠ []/\xs.length+ys.length<=sizeLine /\
 (ys=[]->Q (.ref a) H)/\(ys ≠ []->∀ p,H p=none->Q (.ref p) (upd H p (.tup (xs ++ ys))))
end
end L2
namespace L2
open PySem PySem.Spec PyProof.Rows
def ixN (n:Nat)(i:Int):Option Nat:=if 0<=i then (if i < n then some i.toNat else none) else if -(n:Int)<=i then some (i+n).toNat else none
def atI {α:Type}(xs:List α)(i:Int):Option α:=(ixN xs.length i).bind fun j=>xs[j]?
theorem ixN_seq {n:Nat}{i:Int}{j:Nat}(h:ixN n i=some j):seqIndex? i n=some j/\j < n /\ -(n:Int)<=i/\i < n:=by
 unfold ixN at h
 by_cases h0:0<=i
 ·rw [if_pos h0] at h
  by_cases h1:i < n
  ·rw [if_pos h1] at h
   have e:i.toNat=j:=Option.some.inj h
   exact ⟨by rw [seqIndex_of h0 h1,e],by omega,by omega,h1⟩
  ·rw [if_neg h1] at h; cases h
 ·rw [if_neg h0] at h
  by_cases h1 : -(n:Int)<=i
  ·rw [if_pos h1] at h
   have e:(i+n).toNat=j:=Option.some.inj h
   exact ⟨by rw [seqIndex_neg (by omega) h1,e],by omega,h1,by omega⟩
  ·rw [if_neg h1] at h; cases h
theorem atI_get {α:Type}{xs:List α}{i:Int}{v:α}(h:atI xs i=some v) : ∃ j,seqIndex? i xs.length=some j/\xs[j]?=some v/\j < xs.length /\ -(xs.length:Int)<=i/\i < xs.length:=by
 unfold atI at h
 cases e:ixN xs.length i with
 | none=>rw [e] at h; cases h
 | some j =>
  rw [e] at h
  obtain ⟨h1,h2,h3,h4⟩:=ixN_seq e
  exact ⟨j,h1,h,h2,h3,h4⟩
theorem atI_nat {α:Type}{xs:List α}{j:Nat}{v:α}(h:xs[j]?=some v):atI xs (j:Int)=some v:=by
 have hj:j < xs.length:=(List.getElem?_eq_some_iff.mp h).1
 have e:ixN xs.length (j:Int)=some j:=by
  unfold ixN
  rw [if_pos (by omega),if_pos (by omega)]; simp
 unfold atI; rw [e]; exact h
theorem atI_last {α:Type}(xs:List α)(v:α):atI (xs ++ [v]) (-1)=some v:=by
 have hl:(xs ++ [v]).length=xs.length+1:=by simp
 have e:ixN (xs ++ [v]).length (-1)=some xs.length:=by
  unfold ixN
  rw [hl,if_neg (by decide),if_pos (by omega)]
  congr 1
  omega
 unfold atI
 rw [e]
 show (xs ++ [v])[xs.length]?=some v
 simp
def PlainIx (b:Expr):Prop:=∀ o i,subscripted b false o i=operate [o,i] (getItem o i)
def IxR (X:Cx)(r:R2):Prop :=
 ∀ (value slice:Expr) (pins:List (Addr × Obj)) (s:Shared) (σ:St) (H:Hp) (x y:V) (v u:Value) (Q:VK),Inv X pins σ H s->RelV x v->RelV y u->r x y H Q ->
  subscripted slice false v u=operate [v,u] (getItem v u)->wpAny (model X.prog X.w) X.A (subscriptTail value slice v u) (EP X pins σ Q) X.xe s
def MtR (X:Cx)(id:String)(r:V->List V->Hp->VK->Prop):Prop :=
 ∀ (pins:List (Addr × Obj)) (s:Shared) (σ:St) (H:Hp) (x:V) (xs:List V) (v:Value) (us:List Value) (Q:VK),Inv X pins σ H s->RelV x v->Vals xs us->r x xs H Q ->
  wpAny (model X.prog X.w) X.A (call (.builtin id) (v :: us)) (EP X pins σ Q) X.xe s
section
variable {X:Cx}{a b:Expr}{ta tb:TE}{pos:Pos}
theorem pe_ix {r:R2}(hr:IxR X r)(ha:PE X a ta)(hb:PE X b tb)(hs:PlainIx b):PE X (.Subscript a b pos) (tOp r ta tb):=by
 intro pins s σ H Q I h
 exact Subscript_ (binT ha hb I h fun v u s2 x y H2 I2 rx ry q=>hr a b pins s2 σ H2 x y v u Q I2 rx ry q (hs _ _))
def rIxL (K:PySem.W.Frag):R2:=fun x y H Q=>∃ p xs i v,x = .ref p/\y = .int i/\SqL K H p xs/\atI xs i=some v/\Q v H
def rIxT (K:PySem.W.Frag):R2:=fun x y H Q=>∃ p xs i v,x = .ref p/\y = .int i/\SqT K H p xs/\atI xs i=some v/\Q v H
def rIxS:R2:=fun x y H Q=>∃ z i c,x = .str z/\y = .int i/\z.length<=sizeLine/\atI z.cps.toList i=some c/\Q (.str ⟨#[c]⟩) H
theorem ix_list:IxR X (rIxL X.K):=by
 intro value slice pins s σ H x y v u Q I rx ry h hs
 obtain ⟨p,xs,i,z,rfl,rfl,hq,he,q⟩:=h
 cases rx
 obtain ⟨t,rfl⟩:=ry
 obtain ⟨its,r,pl,hz⟩:=I.list hq
 obtain ⟨j,h1,h2,h3,h4,h5⟩:=atI_get he
 obtain ⟨w,ew,rw'⟩:=r.get h2
 have hl:=r.length
 have hn:=line63
 have fin:EP X pins σ Q w s:=⟨z,H,I,rw',q⟩
 by_cases h0:0<=i
 ·have hj:i.toNat=j:=by
   rw [seqIndex_of h0 h5] at h1
   exact Option.some.inj h1
  exact item_listR pl.isList h0 (by omega) (by rw [hj]; simpa using ew) fin hs
 ·have hj:(i+(its.toArray.size:Int)).toNat=j:=by
   rw [seqIndex_neg (by omega) h4] at h1
   rw [List.size_toArray,<- hl]
   exact Option.some.inj h1
  exact subscriptTail_builtinR (x:=w) pl.isList.typeIs slot_list_getitem.lookup
   (wpAny_getItem_list_neg (Q:=fun r s'=>r=w/\EP X pins σ Q r s') pl.isList (by omega) (by rw [List.size_toArray] <;> omega) (by omega) (by rw [hj]; simpa using ew) ⟨rfl,fin⟩) hs
theorem ix_tup:IxR X (rIxT X.K):=by
 intro value slice pins s σ H x y v u Q I rx ry h hs
 obtain ⟨p,xs,i,z,rfl,rfl,hq,he,q⟩:=h
 cases rx
 obtain ⟨t,rfl⟩:=ry
 obtain ⟨its,r,pl,hz⟩:=I.tuple hq
 obtain ⟨j,h1,h2,h3,h4,h5⟩:=atI_get he
 obtain ⟨w,ew,rw'⟩:=r.get h2
 have hl:=r.length
 have hn:=line63
 have fin:EP X pins σ Q w s:=⟨z,H,I,rw',q⟩
 exact subscriptTail_builtinR (x:=w) pl.typeIs slot_tuple_getitem.lookup
  (getItem_tuple (j:=j) (Q:=fun r s'=>r=w/\EP X pins σ Q r s') pl (by omega) (by omega) (by rw [List.size_toArray,<- hl]; exact h1) (by simpa using ew) ⟨rfl,fin⟩) hs
theorem ix_str:IxR X rIxS:=by
 intro value slice pins s σ H x y v u Q I rx ry h hs
 obtain ⟨z,i,c,rfl,rfl,hz,he,q⟩:=h
 obtain ⟨t,rfl⟩:=rx
 obtain ⟨t',rfl⟩:=ry
 obtain ⟨j,h1,h2,h3,h4,h5⟩:=atI_get he
 have hl:z.cps.toList.length=z.length:=by simp [Str.length]
 rw [hl] at h1 h4 h5
 have hn:=line63
 exact tail_any (typeIs_str s z t) slot_str_getitem.lookup (getItem_str (c:=c) (by
  have e1:decide (i < -(2 ^ 63:Int))=false:=decide_eq_false (by omega)
  have e2:decide (i ≥ 2 ^ 63)=false:=decide_eq_false (by omega)
  rw [e1,e2,Bool.or_false]) (by rw [h1]; simpa using h2) ⟨.str ⟨#[c]⟩,H,I.tok _,⟨_,rfl⟩,q⟩) hs
def rIx (K:PySem.W.Frag):R2:=fun x y H Q=>rIxL K x y H Q\/rIxT K x y H Q\/rIxS x y H Q
theorem mapSeq_set (its:List Value)(n j:Nat)(u:Value):Obj.mapSeq (·.setIfInBounds j u) { cls:=.type "list",data:=.seq its.toArray n }={ cls:=.type "list",data:=.seq (its.set j u).toArray n }:=by
 simp [Obj.mapSeq]
theorem Inv.lst {pins:List (Addr × Obj)}{σ:St}{H:Hp}{s:Shared}{p:Addr}{xs:List V}(I:Inv X pins σ H s)(h:H p=some (.lst xs)) :
  ∃ (its:List Value) (n:Nat),Vals xs its/\s.heap.get? p=some { cls:=.type "list",data:=.seq its.toArray n }/\xs.length<=sizeLine:=by
 obtain ⟨z,its,n,r,e⟩:=I.hok p _ h
 exact ⟨its,n,r,e,z⟩
theorem Inv.lstUpd {pins:List (Addr × Obj)}{σ:St}{H:Hp}{s:Shared}{p:Addr}{xs ys:List V}{its its':List Value}{n n':Nat}{f:Obj->Obj}(I:Inv X pins σ H s)(h:H p=some (.lst xs))
  (ho:s.heap.get? p=some { cls:=.type "list",data:=.seq its.toArray n }) (hf:f { cls:=.type "list",data:=.seq its.toArray n }={ cls:=.type "list",data:=.seq its'.toArray n' }) (r:Vals ys its') (hz:ys.length<=sizeLine) (t:Nat) :
  Inv X pins σ (upd H p (.lst ys)) { s with heap:=s.heap.update p f,toks:=t }:=by
 have e:(s.heap.update p f).get? p=some { cls:=.type "list",data:=.seq its'.toArray n' }:=by
  rw [Heap.get?_update_self f ho (by rw [hf] <;> rfl),hf]
 refine I.write (x:=p) (e:=p) (by rw [h]; trivial) (.inl rfl) (fun b u hb q=>(Heap.get?_update_other _ _ (Ne.symm hb)).trans q) ⟨_,e⟩ ?_
 exact ⟨hz,its',n',r,e⟩
def rSetL:V->V->V->Hp->(Hp->Prop)->Prop:=fun o i v H Q=>∃ p xs k j,o = .ref p/\i = .int k/\H p=some (.lst xs)/\ixN xs.length k=some j/\Q (upd H p (.lst (xs.set j v)))
theorem set_list:PSet X rSetL:=by
 intro pins s σ H o i v ov iv u Q I ro ri rv h
 obtain ⟨p,xs,k,j,rfl,rfl,hp,hj,q⟩:=h
 cases ro
 obtain ⟨t,rfl⟩:=ri
 obtain ⟨its,n,r,ho,hz⟩:=I.lst hp
 obtain ⟨h1,h2,h3,h4⟩:=ixN_seq hj
 have hl:=r.length
 have hn:=line63
 have I':Inv X pins σ (upd H p (.lst (xs.set j v))) { s with heap:=s.heap.update p (Obj.mapSeq (·.setIfInBounds j u)) } :=
  I.lstUpd hp ho (mapSeq_set its n j u) (r.set rv j) (by rw [List.length_set]; exact hz) s.toks
 by_cases h0:0<=k
 ·have hk:k.toNat=j:=by
   rw [seqIndex_of h0 h4] at h1
   exact Option.some.inj h1
  exact PySem.W.ki_setAt ho h0 (by omega) (by rw [List.size_toArray,<- hl]; exact h4) (by rw [hk]; exact ⟨_,I',q⟩)
 ·have hk:(k+(its.toArray.size:Int)).toNat=j:=by
   rw [seqIndex_neg (by omega) h3] at h1
   rw [List.size_toArray,<- hl]
   exact Option.some.inj h1
  exact PySem.W.ki_setBack ho (by omega) (by rw [List.size_toArray,<- hl]; exact h3) (by omega) (by rw [hk]; exact ⟨_,I',q⟩)
theorem slice_bounds (lo hi:Option Int)(n:Nat):(sliceBounds lo hi none n).1=((HT.sIx n 0 lo:Nat):Int)/\(sliceBounds lo hi none n).2.1=((HT.sIx n n hi:Nat):Int)/\(sliceBounds lo hi none n).2.2=1:=by
 refine ⟨?_,?_,rfl⟩
 ·cases lo with
  | none=>simp [sliceBounds,HT.sIx]
  | some i =>
   simp only [sliceBounds,HT.sIx,Option.getD_none,show (1:Int) > 0 by decide,if_true]
   by_cases h:i < 0
   ·simp only [h,if_true] <;> omega
   ·simp only [h,if_false] <;> omega
 ·cases hi with
  | none=>simp [sliceBounds,HT.sIx]
  | some i =>
   simp only [sliceBounds,HT.sIx,Option.getD_none,show (1:Int) > 0 by decide,if_true]
   by_cases h:i < 0
   ·simp only [h,if_true] <;> omega
   ·simp only [h,if_false] <;> omega
theorem slicePick_cut (its:List Value)(lo hi:Option Int):slicePick its.toArray lo hi none=((its.drop (HT.sIx its.length 0 lo)).take (HT.sIx its.length its.length hi - HT.sIx its.length 0 lo)).toArray:=by
 obtain ⟨h1,h2,h3⟩:=slice_bounds lo hi its.toArray.size
 unfold slicePick
 rw [h1,h2,h3]
 simp only [sliceRange_one,pick_run,List.size_toArray] <;> rfl
def rSlL (K:PySem.W.Frag):V->Option Int->Option Int->Hp->VK->Prop:=fun x lo hi H Q=>∃ a xs,x = .ref a/\SqL K H a xs/\∀ p,H p=none->Q (.ref p) (upd H p (.lst (cutV xs lo hi)))
theorem sl_list:SlR X (rSlL X.K):=by
 intro pins s σ H x v vl vu lo hi sl Q I rx hs pl pu h
 obtain ⟨a,xs,rfl,hx,q⟩:=h
 cases rx
 obtain ⟨its,r,ht,hz⟩:=I.list hx
 have hlen:=r.length
 refine ⟨"list",_,slot_list_getitem.lookup,ht.isList.typeIs,?_⟩
 refine wpAny_getItem_list_slice ht.isList hs pl pu .none (by simp) ?_ (by rw [List.size_toArray] <;> omega)
 rw [slicePick_cut,<- hlen]
 refine ⟨.ref s.heap.objs.size,_,I.laid (t':=s.toks) (o:=.lst (cutV xs lo hi)) (fun b ob q=>Heap.get?_push_of_some _ q) (Nat.le_refl _) ?_,rfl,q _ (I.hok.fresh (Nat.le_refl _))⟩
 exact ⟨Nat.le_trans (cutV_length xs lo hi) hz,_,0,(r.drop (HT.sIx xs.length 0 lo)).take (HT.sIx xs.length xs.length hi - HT.sIx xs.length 0 lo),Heap.get?_push_size _ rfl⟩
def flatV:V->Bool
 | .non=>true
 | .bl _=>true
 | .int _=>true
 | .str _=>true
 | _=>false
def eqV:V->V->Bool
 | .non,.non=>true
 | .bl a,.bl b=>a == b
 | .bl a,.int b=>(if a then 1 else 0) == b
 | .int a,.bl b=>a == (if b then 1 else 0)
 | .int a,.int b=>a == b
 | .str a,.str b=>a == b
 | _,_=>false
theorem eqAt_V {A:Around}{s:Shared}{y x:V}{u v:Value}(ry:RelV y u)(rx:RelV x v)(fy:flatV y=true)(fx:flatV x=true):SeqAt.EqAt A s u v (eqV y x):=by
 cases y with
 | non =>
  cases ry
  cases x with
  | non=>cases rx; exact SeqAt.EqAt.same _
  | bl b=>cases rx; exact SeqAt.EqAt.none_bool b
  | int b=>obtain ⟨t,rfl⟩:=rx; exact SeqAt.EqAt.none_int b t
  | str b=>obtain ⟨t,rfl⟩:=rx; exact SeqAt.EqAt.none_str b t
  | _=>exact absurd (show false=true from fx) Bool.false_ne_true
 | bl a =>
  cases ry
  cases x with
  | non=>cases rx; exact SeqAt.EqAt.bool_none a
  | bl b=>cases rx; exact SeqAt.EqAt.bool_bool a b
  | int b=>obtain ⟨t,rfl⟩:=rx; exact SeqAt.EqAt.bool_int a b t
  | str b=>obtain ⟨t,rfl⟩:=rx; exact SeqAt.EqAt.bool_str a b t
  | _=>exact absurd (show false=true from fx) Bool.false_ne_true
 | int a =>
  obtain ⟨t',rfl⟩:=ry
  cases x with
  | non=>cases rx; exact SeqAt.EqAt.int_none a t'
  | bl b=>cases rx; exact SeqAt.EqAt.int_bool a t' b
  | int b=>obtain ⟨t,rfl⟩:=rx; exact SeqAt.EqAt.int_int a t' b t
  | str b=>obtain ⟨t,rfl⟩:=rx; exact SeqAt.EqAt.int_str a t' b t
  | _=>exact absurd (show false=true from fx) Bool.false_ne_true
 | str a =>
  obtain ⟨t',rfl⟩:=ry
  cases x with
  | non=>cases rx; exact SeqAt.EqAt.str_none a t'
  | bl b=>cases rx; exact SeqAt.EqAt.str_bool a t' b
  | int b=>obtain ⟨t,rfl⟩:=rx; exact SeqAt.EqAt.str_int a t' b t
  | str b=>obtain ⟨t,rfl⟩:=rx; exact SeqAt.EqAt.str_str a t' b t
  | _=>exact absurd (show false=true from fx) Bool.false_ne_true
 | _=>exact absurd (show false=true from fy) Bool.false_ne_true
def eqU (x:V)(u:Value):Bool:=match u with
 | .none=>eqV .non x
 | .bool b=>eqV (.bl b) x
 | .int i _=>eqV (.int i) x
 | .str z _=>eqV (.str z) x
 | _=>false
theorem eqU_of {x y:V}{u:Value}(r:RelV y u)(f:flatV y=true):eqU x u=eqV y x:=by
 cases y with
 | non=>cases r; rfl
 | bl b=>cases r; rfl
 | int i=>obtain ⟨t,rfl⟩:=r; rfl
 | str z=>obtain ⟨t,rfl⟩:=r; rfl
 | _=>exact absurd (show false=true from f) Bool.false_ne_true
theorem any_eqU {x:V} : ∀ {xs:List V} {us:List Value},Vals xs us->xs.all flatV=true->us.any (eqU x)=xs.any fun y=>eqV y x
 | _,_,.nil,_=>rfl
 | y :: xs,u :: us,.cons r t,f=>by
  rw [List.all_cons,Bool.and_eq_true] at f
  rw [List.any_cons,List.any_cons,eqU_of r f.1,any_eqU t f.2]
theorem mem_eqAt {A:Around}{s:Shared}{x:V}{v:Value}(rx:RelV x v)(fx:flatV x=true) : ∀ {xs:List V} {us:List Value},Vals xs us->xs.all flatV=true->∀ u ∈ us,SeqAt.EqAt A s u v (eqU x u)
 | _,_,.nil,_=>fun u hu=>by cases hu
 | y :: xs,u :: us,.cons r t,f=>fun u' hu=>by
  rw [List.all_cons,Bool.and_eq_true] at f
  rcases List.mem_cons.mp hu with rfl | hu
  ·rw [eqU_of r f.1]; exact eqAt_V r rx f.1 fx
  ·exact mem_eqAt rx fx t f.2 u' hu
def inV (x:V)(xs:List V):Bool:=xs.any fun y=>eqV y x
def rIn (K:PySem.W.Frag)(neg:Bool):R2:=fun x y H Q=>∃ p xs,y = .ref p/\(SqL K H p xs\/SqT K H p xs)/\flatV x=true/\xs.all flatV=true/\Q (.bl (if neg then !inV x xs else inV x xs)) H
theorem op_in_seq:OpR X (compareOp .In) (rIn X.K false):=by
 intro pins s σ H x y v u Q I rx ry h
 obtain ⟨p,xs,rfl,hq,fx,fs,q⟩:=h
 cases ry
 rcases hq with hq | hq
 ·obtain ⟨its,r,pl,hz⟩:=I.list hq
  refine SeqAt.in_listAt (eqU x) pl.isList (fun w hw=>mem_eqAt rx fx r fs w (by simpa using hw)) ⟨.bl _,H,I,rfl,?_⟩
  rw [show its.toArray.any (eqU x)=its.any (eqU x) by simp,any_eqU r fs]
  exact q
 ·obtain ⟨its,r,pl,hz⟩:=I.tuple hq
  refine SeqAt.in_tupleAt (eqU x) pl (fun w hw=>mem_eqAt rx fx r fs w (by simpa using hw)) ⟨.bl _,H,I,rfl,?_⟩
  rw [show its.toArray.any (eqU x)=its.any (eqU x) by simp,any_eqU r fs]
  exact q
theorem op_notIn_seq:OpR X (compareOp .NotIn) (rIn X.K true):=by
 intro pins s σ H x y v u Q I rx ry h
 obtain ⟨p,xs,rfl,hq,fx,fs,q⟩:=h
 cases ry
 rcases hq with hq | hq
 ·obtain ⟨its,r,pl,hz⟩:=I.list hq
  refine SeqAt.notIn_listAt (eqU x) pl.isList (fun w hw=>mem_eqAt rx fx r fs w (by simpa using hw)) ⟨.bl _,H,I,rfl,?_⟩
  rw [show its.toArray.any (eqU x)=its.any (eqU x) by simp,any_eqU r fs]
  exact q
 ·obtain ⟨its,r,pl,hz⟩:=I.tuple hq
  refine SeqAt.notIn_tupleAt (eqU x) pl (fun w hw=>mem_eqAt rx fx r fs w (by simpa using hw)) ⟨.bl _,H,I,rfl,?_⟩
  rw [show its.toArray.any (eqU x)=its.any (eqU x) by simp,any_eqU r fs]
  exact q
theorem call_len_seq:CallR X (.builtin "len") (fun xs H Q=>∃ p ys,xs=[.ref p]/\(SqL X.K H p ys\/SqT X.K H p ys)/\Q (.int ys.length) H):=by
 intro pins s σ H xs us Q I r h
 obtain ⟨p,ys,rfl,hq,q⟩:=h
 obtain ⟨u,rfl,rx⟩:=vals1 r
 cases rx
 have hn:=line63
 rcases hq with hq | hq
 ·obtain ⟨its,r',pl,hz⟩:=I.list hq
  have hlen:=r'.length
  exact Calls.call_len_list pl.isList (by simp only [List.size_toArray] <;> omega) ⟨.int ys.length,H,I.tok _,⟨s.toks+1,by rw [List.size_toArray,hlen]⟩,q⟩
 ·obtain ⟨its,r',pl,hz⟩:=I.tuple hq
  have hlen:=r'.length
  exact len_tuple pl (by simp only [List.size_toArray] <;> omega) ⟨.int ys.length,H,I.tok _,⟨s.toks+1,by rw [List.size_toArray,hlen]⟩,q⟩
theorem call_list_of:CallR X (.type "list") (fun xs H Q=>∃ p ys,xs=[.ref p]/\(SqL X.K H p ys\/SqT X.K H p ys)/\∀ l,H l=none->Q (.ref l) (upd H l (.lst ys))):=by
 intro pins s σ H xs us Q I r h
 obtain ⟨p,ys,rfl,hq,q⟩:=h
 obtain ⟨u,rfl,rx⟩:=vals1 r
 cases rx
 have fin : ∀ (its:List Value),Vals ys its->ys.length<=sizeLine->∀ (h':Heap) (c':Nat),(∀ b o',s.heap.get? b=some o'->h'.get? b=some o') ->
   h'.get? s.heap.objs.size=some { cls:=.type "list",dict:=none,data:=.seq its.toArray c',slots := #[] }->EP X pins σ Q (.ref s.heap.objs.size) { s with heap:=h' }:=fun its r' hz h' c' kp e =>
  ⟨.ref s.heap.objs.size,_,I.laid (t':=s.toks) kp (Nat.le_refl _) (show ObjOk X.prog X.w _ h' _ (.lst ys) from ⟨hz,its,c',r',e⟩),rfl,q _ (I.hok.fresh (Nat.le_refl _))⟩
 rcases hq with hq | hq
 ·obtain ⟨its,r',pl,hz⟩:=I.list hq
  have hlen:=r'.length
  obtain ⟨o,ho,hc,n,hd⟩:=pl.isList
  exact call_list_seq p (.inl rfl) ho hc hd (fun h' c' kp e=>fin its r' hz h' c' kp e) (by simp only [List.size_toArray] <;> omega)
 ·obtain ⟨its,r',pl,hz⟩:=I.tuple hq
  have hlen:=r'.length
  obtain ⟨o,ho,hc,n,hd⟩:=pl
  exact call_list_seq p (.inr rfl) ho hc hd (fun h' c' kp e=>fin its r' hz h' c' kp e) (by simp only [List.size_toArray] <;> omega)
theorem call_tuple_of:CallR X (.type "tuple") (fun xs H Q=>∃ p ys,xs=[.ref p]/\((SqL X.K H p ys/\∀ l,H l=none->Q (.ref l) (upd H l (.tup ys)))\/(SqT X.K H p ys/\Q (.ref p) H))):=by
 intro pins s σ H xs us Q I r h
 obtain ⟨p,ys,rfl,h⟩:=h
 obtain ⟨u,rfl,rx⟩:=vals1 r
 cases rx
 rcases h with ⟨hq,q⟩ | ⟨hq,q⟩
 ·obtain ⟨its,r',pl,hz⟩:=I.list hq
  have hlen:=r'.length
  refine call_tuple_list pl.isList (fun h' kp => ?_) (by simp only [List.size_toArray] <;> omega)
  have I1:Inv X pins σ H { s with heap:=h' }:=I.kept (t':=s.toks) kp
  have I2:Inv X pins σ (upd H h'.objs.size (.tup ys)) { s with heap:=h'.push { cls:=.type "tuple",data:=.seq its.toArray } } :=
   I1.laid (t':=s.toks) (fun b o e=>Heap.get?_push_of_some _ e) (Nat.le_refl _) (show ObjOk X.prog X.w _ _ _ (.tup ys) from ⟨hz,its,r',IsTup.new _ _⟩)
  exact ⟨.ref h'.objs.size,_,I2,rfl,q _ (I1.hok.fresh (Nat.le_refl _))⟩
 ·obtain ⟨its,r',pl,hz⟩:=I.tuple hq
  exact call_tuple_same pl ⟨.ref p,H,I,rfl,q⟩
def tyV (K:PySem.W.Frag)(T:String)(x:V)(H:Hp):Prop:=match x with
 | .str _=>T = "str"
 | .int _=>T = "int"
 | .ref p=>(T = "list" /\ ∃ xs,SqL K H p xs)\/(T = "tuple" /\ ∃ o,K.lookup p=some o/\o.cls = .type "tuple" /\ o.dict=none) \/
   (T = "dict" /\ ((∃ kvs,H p=some (.dK kvs))\/∃ kvs,H p=some (.dT kvs)))\/(T = "set" /\ ∃ S n,H p=some (.set S n))
 | _=>False
theorem tyV_is {pins:List (Addr × Obj)}{σ:St}{H:Hp}{s:Shared}{T:String}{x:V}{v:Value}(I:Inv X pins σ H s)(r:RelV x v)(ty:tyV X.K T x H) :
  s.TypeIs v T/\∀ a,v = .ref a->∃ ob,s.heap.get? a=some ob/\ob.dict=none:=by
 cases x with
 | str z =>
  obtain ⟨t,rfl⟩:=r
  cases (show T = "str" from ty)
  exact ⟨typeIs_str s z t,fun _ e=>nomatch e⟩
 | int i =>
  obtain ⟨t,rfl⟩:=r
  cases (show T = "int" from ty)
  exact ⟨typeIs_int s i t,fun _ e=>nomatch e⟩
 | ref p =>
  cases r
  rcases ty with ⟨rfl,xs,hq⟩ | ⟨rfl,o,hk,hc,hd⟩ | ⟨rfl,hk⟩ | ⟨rfl,S,n,hk⟩
  ·obtain ⟨its,_,pl,_⟩:=I.list hq
   refine ⟨pl.isList.typeIs,fun a e => ?_⟩
   cases e
   obtain ⟨o,n,e,c,hd,_⟩:=pl
   exact ⟨o,e,hd⟩
  ·refine ⟨⟨o,I.kIn p o hk,hc⟩,fun a e => ?_⟩
   cases e
   exact ⟨o,I.kIn _ o hk,hd⟩
  ·have z : ∃ o,s.heap.get? p=some o/\o.ExactDict:=by
    rcases hk with ⟨kvs,hk⟩ | ⟨kvs,hk⟩
    ·obtain ⟨_,_,_,_,o,_,_,e,ex,_⟩:=I.hok p _ hk
     exact ⟨o,e,ex⟩
    ·obtain ⟨_,_,_,_,o,_,_,e,ex,_⟩:=I.hok p _ hk
     exact ⟨o,e,ex⟩
   obtain ⟨o,e,ex⟩:=z
   refine ⟨⟨o,e,ex.1⟩,fun a e2 => ?_⟩
   cases e2
   exact ⟨o,e,ex.2.1⟩
  ·obtain ⟨o,_,_,_,e,ex,_⟩:=I.hok p _ hk
   refine ⟨⟨o,e,ex.1⟩,fun a e2 => ?_⟩
   cases e2
   exact ⟨o,e,ex.2.1⟩
 | _=>exact False.elim ty
def tBM0 (K:PySem.W.Frag)(T:String)(r:V->List V->Hp->VK->Prop)(to:TE):TE:=fun σ H Q=>to σ H fun x H1=>tyV K T x H1/\r x [] H1 Q
def tBM (K:PySem.W.Frag)(T:String)(r:V->List V->Hp->VK->Prop)(to:TE)(t:TA):TE:=fun σ H Q=>to σ H fun x H1=>tyV K T x H1/\t σ H1 fun xs H2=>r x xs H2 Q
variable {o e:Expr}{es:List Expr}{to:TE}{t:TA}{name:Str}{apos cpos:Pos}{T id:String}{r:V->List V->Hp->VK->Prop}
theorem pe_bm0 (pa:PlainAttrs T)(slot:Slot T name id)(hty:typeOf (.builtin id)=pure (.type "method_descriptor"))(hm:MtR X id r)(ho:PE X o to)
  (hbase:attributeBase o name X.env (eval o X.env)=eval o X.env:=by rfl) (hline:(apos.endLine == cpos.line)=true:=by rfl):PE X (.Call (.Attribute o name apos) [] [] cpos) (tBM0 X.K T r to):=by
 intro pins s σ H Q I h
 refine wpAny_Call_method0_late hbase hline (thn (ho pins s σ H _ I h) fun v s1 ⟨x,H1,I1,r1,ty,q1⟩ => ?_)
 obtain ⟨h1,h2⟩:=tyV_is I1 r1 ty
 exact ⟨T,id,pa,slot,hty,h1,h2,Calls.callWith_builtin rfl (PySem.evalArgs_none (hm pins s1 σ H1 x [] v [] Q I1 r1 .nil q1))⟩
theorem pe_bm (pa:PlainAttrs T)(slot:Slot T name id)(hty:typeOf (.builtin id)=pure (.type "method_descriptor"))(hm:MtR X id r)(ho:PE X o to)(ha:PA X (e :: es) t)
  (hbase:attributeBase o name X.env (eval o X.env)=eval o X.env:=by rfl)
  (hfew:((backTo cpos (starEach (e :: es) X.env)).all (fun x => !x.1) && (backToKw cpos (keywordEach [] X.env)).all (fun x=>x.1.isSome)
   && decide ((e :: es).length+([]:List Keyword).length+(if ([]:List Keyword).isEmpty then 0 else 1) < 30))=true:=by rfl)
  (hline:(apos.endLine == cpos.line)=true:=by rfl) (hs:starEach (e :: es) X.env=(false,eval e X.env) :: starEach es X.env:=by rfl) (hplain:(backTo cpos (starEach es X.env)).any (·.1)=false:=by rfl) :
  PE X (.Call (.Attribute o name apos) (e :: es) [] cpos) (tBM X.K T r to t):=by
 intro pins s σ H Q I h
 refine wpAny_Call_method_late hbase hfew hline rfl (thn (ho pins s σ H _ I h) fun v s1 ⟨x,H1,I1,r1,ty,q1⟩ => ?_)
 obtain ⟨h1,h2⟩:=tyV_is I1 r1 ty
 refine ⟨T,id,pa,slot,hty,h1,h2,?_⟩
 have hA:=ha cpos pins s1 σ H1 _ I1 q1
 rw [hs] at hA ⊢
 refine Calls.callWith_builtin (by show (false || (backTo cpos (starEach es X.env)).any (·.1))=false; rw [hplain] <;> rfl) (Calls.evalArgs_plain ?_)
 exact thn hA fun us s2 ⟨vs,H2,I2,r2,q2⟩=>hm pins s2 σ H2 x vs v us Q I2 r1 r2 q2
end
end L2
namespace L2
open PySem PySem.Spec PyProof.Rows
def MtM (X:Cx)(id:String)(r:V->List V->Hp->VK->Prop):Prop :=
 ∀ (pins:List (Addr × Obj)) (s:Shared) (σ:St) (H:Hp) (x:V) (xs:List V) (v:Value) (us:List Value) (Q:VK),Inv X pins σ H s->RelV x v->Vals xs us->r x xs H Q ->
  wpAny (model X.prog X.w) X.A (call (.builtin id) (v :: us)) (EP X pins σ Q) X.xe s
theorem Vals.one : ∀ {x:V} {us:List Value},Vals [x] us->∃ u,us=[u]/\RelV x u
 | _,_,.cons r .nil=>⟨_,rfl,r⟩
theorem Vals.two : ∀ {x y:V} {us:List Value},Vals [x,y] us->∃ u v,us=[u,v]/\RelV x u/\RelV y v
 | _,_,_,.cons r (.cons q .nil)=>⟨_,_,rfl,r,q⟩
theorem Vals.zero : ∀ {us:List Value},Vals [] us->us=[]
 | _,.nil=>rfl
theorem Vals.dropLast {xs:List V}{us:List Value}(h:Vals xs us):Vals xs.dropLast us.dropLast:=by
 induction h with
 | nil=>exact .nil
 | cons r t ih =>
  cases t with
  | nil=>exact .nil
  | cons q t'=>exact .cons r ih
theorem erase_last {α:Type}(l:List α):l.eraseIdx (l.length - 1)=l.dropLast:=by
 induction l with
 | nil=>rfl
 | cons a r ih =>
  cases r with
  | nil=>rfl
  | cons b r =>
   have e:(a :: b :: r).length - 1=((b :: r).length - 1)+1:=by
    have h1:(a :: b :: r).length=r.length+2:=rfl
    have h2:(b :: r).length=r.length+1:=rfl
    omega
   rw [e,List.eraseIdx_cons_succ,ih]
   all_goals rfl
section
variable {X:Cx}{pins:List (Addr × Obj)}{σ:St}{H:Hp}{s:Shared}{l b:Addr}{xs ys zs:List V}
theorem Inv.lset {its its':List Value}{n:Nat}{f:Array Value->Array Value}{t':Nat}(I:Inv X pins σ H s)(hH:H l=some (.lst xs))
  (e:s.heap.get? l=some { cls:=.type "list",data:=.seq its.toArray n }) (hf:f its.toArray=its'.toArray) (hv:Vals ys its') (hz:ys.length<=sizeLine) :
  Inv X pins σ (upd H l (.lst ys)) { s with heap:=s.heap.update l (Obj.mapSeq f),toks:=t' }:=by
 have q:=PySem.IsL.update e f
 rw [hf] at q
 refine I.write (x:=l) (e:=l) (by rw [hH]; exact trivial) (.inl rfl) (fun b' u hb hu=>(Heap.get?_update_other s.heap (Obj.mapSeq f) (Ne.symm hb)).trans hu) ⟨_,q⟩ ?_
 exact ⟨hz,its',_,hv,q⟩
theorem Inv.lnew {its:List Value}{t':Nat}(I:Inv X pins σ H s)(hv:Vals ys its)(hz:ys.length<=sizeLine) :
  Inv X pins σ (upd H s.heap.objs.size (.lst ys)) { s with heap:=s.heap.push { cls:=.type "list",data:=.seq its.toArray },toks:=t' } :=
 I.laid (fun _ _ q=>Heap.get?_push_of_some _ q) (Nat.le_refl _) ⟨hz,its,0,hv,Heap.get?_push_size _ rfl⟩
theorem Inv.fresh (I:Inv X pins σ H s):H s.heap.objs.size=none:=I.hok.fresh (Nat.le_refl _)
theorem Inv.lstM (I:Inv X pins σ H s)(hH:H l=some (.lst xs)):xs.length<=sizeLine/\∃ (its:List Value) (n:Nat),Vals xs its/\xs.length=its.length/\s.heap.get? l=some { cls:=.type "list",data:=.seq its.toArray n }:=by
 obtain ⟨z,its,n,r,e⟩:=I.hok l _ hH
 exact ⟨z,its,n,r,r.length,e⟩
theorem notLongL {n:Nat}(h:n<=sizeLine):Builtin.List.listTooLong n=false:=by
 unfold Builtin.List.listTooLong
 exact decide_eq_false (by omega)
end
section
variable {X:Cx}
def rAppend:V->List V->Hp->VK->Prop:=fun x vs H Q=>∃ l xs y,x = .ref l/\vs=[y]/\H l=some (.lst xs)/\xs.length < sizeLine/\Q .non (upd H l (.lst (xs ++ [y])))
theorem mt_append:MtM X "list.append" rAppend:=by
 intro pins s σ H x vs v us Q I rx rv h
 obtain ⟨l,xs,y,rfl,rfl,hH,hz,q⟩:=h
 cases rx
 obtain ⟨u,rfl,ru⟩:=rv.one
 obtain ⟨z,its,n,r,hl,e⟩:=I.lstM hH
 refine call_meets F.slot_list_append ⟨_,e,rfl⟩ F.entry_list_append (F.args_list_append_2 _ _) (PySem.list_append l its.toArray n u (by rw [List.size_toArray]; omega)) ⟨e,?_⟩
 refine ⟨.non,_,I.lset (its':=its ++ [u]) hH e (by simp) (r.append (.cons ru .nil)) ?_,rfl,q⟩
 rw [List.length_append,List.length_singleton]
 omega
def rExtend:V->List V->Hp->VK->Prop:=fun x vs H Q=>∃ l b xs zs,x = .ref l/\vs=[.ref b]/\H l=some (.lst xs)/\H b=some (.lst zs)/\xs.length+zs.length<=sizeLine/\Q .non (upd H l (.lst (xs ++ zs)))
theorem mt_extend:MtM X "list.extend" rExtend:=by
 intro pins s σ H x vs v us Q I rx rv h
 obtain ⟨l,b,xs,zs,rfl,rfl,hH,hB,hz,q⟩:=h
 cases rx
 obtain ⟨u,rfl,ru⟩:=rv.one
 cases ru
 obtain ⟨z,its,n,r,hl,e⟩:=I.lstM hH
 obtain ⟨z2,its2,n2,r2,hl2,e2⟩:=I.lstM hB
 have hsz:its.toArray.size+its2.toArray.size<=sizeLine:=by rw [List.size_toArray,List.size_toArray]; omega
 have hlong : ¬ (!its.toArray.isEmpty && Builtin.List.listTooLong (its.toArray.size+its2.toArray.size))=true:=by
  rw [notLongL hsz,Bool.and_false]
  exact Bool.false_ne_true
 refine call_meets F.slot_list_extend ⟨_,e,rfl⟩ F.entry_list_extend (F.args_list_extend_2 _ _)
  (AutoSeq1.list_extend_list_list_0 l its.toArray n b its2.toArray n2 hlong (by rw [List.size_toArray]; omega) (by omega)) ⟨e,e2,?_⟩
 refine ⟨.non,_,I.lset (its':=its ++ its2) hH e (by simp) (r.append r2) ?_,rfl,q⟩
 rw [List.length_append]
 omega
def rPop:V->List V->Hp->VK->Prop:=fun x vs H Q=>∃ l xs y,x = .ref l/\vs=[]/\H l=some (.lst xs)/\xs[xs.length - 1]?=some y/\Q y (upd H l (.lst xs.dropLast))
theorem mt_pop:MtM X "list.pop" rPop:=by
 intro pins s σ H x vs v us Q I rx rv h
 obtain ⟨l,xs,y,rfl,rfl,hH,hy,q⟩:=h
 cases rx
 have hus:=rv.zero
 subst hus
 obtain ⟨z,its,n,r,hl,e⟩:=I.lstM hH
 obtain ⟨u,hu,ru⟩:=r.get hy
 have hy':its.toArray[its.toArray.size - 1]?=some u:=by
  show its.toArray[its.length - 1]?=some u
  rw [<- Array.getElem?_toList,<- hl]
  exact hu
 refine call_meets F.slot_list_pop ⟨_,e,rfl⟩ F.entry_list_pop (F.args_list_pop_1 _) (MeetsSeq.list_pop_last l its.toArray n u hy' (by rw [List.size_toArray]; omega)) ⟨e,?_⟩
 refine ⟨y,_,I.lset (its':=its.dropLast) hH e ?_ r.dropLast ?_,ru,q⟩
 ·show its.toArray.eraseIdxIfInBounds (its.toArray.size - 1)=its.dropLast.toArray
  rw [List.size_toArray,List.eraseIdxIfInBounds_toArray,erase_last]
 ·rw [List.length_dropLast]
  omega
def rPopAt:V->List V->Hp->VK->Prop:=fun x vs H Q=>∃ l xs i k y,x = .ref l/\vs=[.int i]/\H l=some (.lst xs) /\ -(2 ^ 63)<=i/\i < 2 ^ 63/\seqIndex? i xs.length=some k/\xs[k]?=some y/\Q y (upd H l (.lst (xs.eraseIdx k)))
def rReverse:V->List V->Hp->VK->Prop:=fun x vs H Q=>∃ l xs,x = .ref l/\vs=[]/\H l=some (.lst xs)/\Q .non (upd H l (.lst xs.reverse))
def rClear:V->List V->Hp->VK->Prop:=fun x vs H Q=>∃ l xs,x = .ref l/\vs=[]/\H l=some (.lst xs)/\Q .non (upd H l (.lst []))
def rCat:R2:=fun x y H Q=>∃ l b xs zs,x = .ref l/\y = .ref b/\H l=some (.lst xs)/\H b=some (.lst zs)/\xs.length+zs.length<=sizeLine/\∀ p,H p=none->Q (.ref p) (upd H p (.lst (xs ++ zs)))
theorem op_cat:OpR X (binaryOp .Add) rCat:=by
 intro pins s σ H x y v u Q I rx ry h
 obtain ⟨l,b,xs,zs,rfl,rfl,hH,hB,hz,q⟩:=h
 cases rx
 cases ry
 obtain ⟨z,its,n,r,hl,e⟩:=I.lstM hH
 obtain ⟨z2,its2,n2,r2,hl2,e2⟩:=I.lstM hB
 refine PySem.P.add_list e e2 ?_ (by rw [List.size_toArray,List.size_toArray]; omega)
 have ea:its.toArray ++ its2.toArray=(its ++ its2).toArray:=by simp
 rw [ea]
 exact ⟨.ref _,_,I.lnew (t':=s.toks) (r.append r2) (by rw [List.length_append]; omega),rfl,q _ I.fresh⟩
def rRep:R2:=fun x y H Q=>∃ l k xs,x = .ref l/\y = .int k/\H l=some (.lst xs) /\ -(2 ^ 63)<=k/\k < 2 ^ 63/\xs.length*k.toNat<=sizeLine /\
 ∀ p,H p=none->Q (.ref p) (upd H p (.lst (List.replicate k.toNat xs).flatten))
end
section
variable {prog:Program}{w:World}{A:Around}{E:Value->Shared->Prop}{s:Shared}
set_option maxRecDepth 100000 in
end
section
variable {X:Cx}
end
end L2
namespace Att
open PySem PySem.W PySem.Calls PyProof.Rows
theorem ints_of_wellAll {P:Params}{h:Heap} : ∀ (ns:List Int) (vs:List Value),WellAll P h vs (ns.map WData.int)->IntsAre vs ns:=by
 intro ns
 induction ns with
 | nil =>
  intro vs w
  rw [List.map_nil] at w
  cases w
  exact .nil
 | cons n ns ih =>
  intro vs w
  rw [List.map_cons] at w
  cases w with
  | cons a b =>
   cases a
   exact .cons _ _ (ih _ b)
theorem script_of {l:OpenLaw}{n:Nat}(hn:l.most=some n){P:Params}{h:Heap}{args:List WData}{vals:List Value}
  (hpre:l.row.toRowW.claim.pre args=true) (hwl:WellAll P h vals args) :
  ∃ a vs ns,vals=[Value.ref a]/\args=[WData.list (ns.map WData.int)]/\h.get? a=some { cls:=.type "list",data:=.seq vs.toArray }/\IntsAre vs ns/\ns.length<=n:=by
 have hsh:WShape.hasAll [] args [.list .int]=true:=(pre_splitW hpre).1
 have hc:l.pre.holds [] { args:=args }=true:=(pre_splitW hpre).2
 obtain ⟨d,r,rfl,h1,h2⟩:=hasAllW_cons hsh
 obtain rfl:=hasAllW_nil h2
 obtain ⟨xs,rfl,h3⟩:=hasW_list h1
 obtain ⟨ns,rfl⟩:=items_int h3
 have hlen:ns.length<=n:=by
  unfold OpenLaw.pre at hc
  have h4:(WTm.not (.lt (.lit (.int (n:Int))) (.len (.arg 0)))).holds [] { args:=[.list (ns.map .int)] }=true:=by
   have h4:=(holds_andW hc).1
   rw [hn] at h4
   exact h4
  have h5:=condW_of h4 (w_not (w_lt w_lit (w_len_list (w_arg rfl))))
  rw [List.length_map] at h5
  refine Nat.le_of_not_lt fun q => ?_
  have q':(n:Int) < ((ns.length:Nat):Int):=by omega
  first
   | (rw [decide_eq_true q'] at h5; exact absurd h5 (by decide))
   | (simp at h5; omega)
 cases hwl with
 | cons w1 w2 =>
  cases w2
  cases w1 with
  | list ho hall=>exact ⟨_,_,ns,rfl,rfl,ho,ints_of_wellAll ns _ hall,hlen⟩
theorem post_true (l:OpenLaw)(args:List WData):l.row.toRowW.claim.post args (.bool true) args=true :=
 postW_of (r:=l.row.toRowW) (X:=(true == true))
  (show WShape.has [] (.bool true) .bool=true by first | rfl | decide | simp [WShape.has,WShape.arms,WShape.armsAll])
  (show (WTm.eq .res (.lit (.bool true))).value [] { args:=args,res:=some (.bool true),after:=args }=some (.bool (true == true)) from w_eq_bool (w_res rfl) w_lit) rfl
theorem attach_call {l:OpenLaw}{n:Nat}{q:Program}{loose:List Str}{XP:(Str->Option Value)->Heap->Prop}{YP:World->Heap->Prop}{d:DefRec}
  (hn:l.most=some n) (hdf:d.params.defaults=[])
  (call : ∀ (w:World) (s₀ s₁:Shared) (mg mb:Str->Option Value) (fa:Addr) (o:Obj) (pm cd doc:Value) (a:Addr) (vs:List Value) (ns:List Int),
   Ground q loose [] XP w s₀ mg mb s₁.heap->YP w s₁.heap ->
   s₁.heap.get? fa=some o->o.data = .func (docDef d.name d.params d.body d.scope pm cd doc)->s₁.heap.CodeRec cd d.name->mg d.name=some (.ref fa) ->
   s₁.heap.get? a=some { cls:=.type "list",data:=.seq vs.toArray }->IntsAre vs ns->ns.length<=n->s₁.gens = #[] ->
   codeAny (model l.prog w) callerA (.call (.ref fa) ⟨[.ref a],[]⟩) (fun r s'=>r = .ok (.ret (.bool true))/\OldK s₁.heap s'.heap/\s'.os=s₁.os/\AllBare s'.gens) s₁) :
  WalkO q loose XP YP l.row.toRowW d [] (fun f vs=>PySem.call f vs):=by
 intro w s₀ s₁ mg mb G Y fa o pm cd doc dV kV ho hd hcd hD hmg hg args vals as hpre hlay hrd hwl hlo
 obtain rfl:dV = .none:=Dflts.none hD hdf
 obtain rfl:kV = .none:=Dflts.noKw hD
 obtain ⟨a,vs,ns,rfl,rfl,hobj,hints,hlen⟩:=script_of hn hpre hwl
 refine enter_call (codeAny_mono (call w s₀ s₁ mg mb fa o pm cd doc a vs ns G Y ho (fd_plain hd) hcd hmg hobj hints hlen hg) fun r s' hq => ?_)
 obtain ⟨rfl,h2,h3,h4⟩:=hq
 exact ⟨.inl ⟨.bool true,.bool true,[],rfl,fun _=>rfl,.bool true,post_true l _,fun _=>⟨List.Pairwise.nil,fun _ hm=>(nomatch hm)⟩⟩,h2,h3,h4⟩
section
variable {prog:Program}{w:World}{A:Around}{E:Value->Shared->Prop}{s:Shared}{K:Frag}
def noObjs (h:Heap):Heap:={ h with objs := #[] }
def ledger (h:Heap)(L d:Addr):List (Addr × Obj):=(List.range h.objs.size).filterMap fun a=>if a=L\/a=d then none else (h.get? a).map fun o=>(a,o)
end
end Att
namespace L2
open PySem PySem.Spec PyProof.Rows
theorem vals_ints : ∀ {vs:List Value} {ns:List Int},IntsAre vs ns->Vals (ns.map V.int) vs
 | _,_,.nil=>.nil
 | _,_,.cons n t h=>.cons ⟨t,rfl⟩ (vals_ints h)
def Only (H:Hp):Prop:=∀ b,H b=none\/∃ o xs,H b=some (.frz o (.lst xs))
theorem law_call {P:Program}{w:World}{K:PySem.W.Frag}{mg mb:Str->Option Value}{CX:CXT}{k:Nat}{fa a:Addr}{fd:FuncData}{x:Str}{sp:Sp}{s₁:Shared}{vs:List Value}{ns:List Int}
  (KX:K.In s₁.heap) (hns:s₁.heap.Ns mainGlobals mg) (hb:s₁.heap.Ns builtinsNs mb) (hbb : ∀ x:Str,x ≠ "__name__" -> mb x=bootBuiltins x) (hlim:s₁.heap.NoLimit) (hg:s₁.gens = #[])
  (ha:s₁.heap.get? a=some { cls:=.type "list",data:=.seq vs.toArray }) (hi:IntsAre vs ns) (hl:ns.length<=sizeLine) (hr:Room k callerA)
  (F : ∀ base:Heap,K.In base->base.Ns mainGlobals mg->FnOk P w K mg base CX k fa fd [x] sp) (hbind : ∀ (s:Shared) (u:Value),BindsTo s fd ⟨[u],[]⟩ [(x,u)])
  (hsp : ∀ H:Hp,Only H->SqL K H a (ns.map V.int)->sp [.ref a] H (fun v _=>v = .bl true) fun _ _ _=>False)
  (hCX : ∀ H e s',CX [] H s₁ (fun _ _ _=>False) e s'->False) :
  codeAny (model P w) callerA (.call (.ref fa) ⟨[.ref a],[]⟩) (fun r s'=>r = .ok (.ret (.bool true))/\OldK s₁.heap s'.heap/\s'.os=s₁.os/\AllBare s'.gens) s₁:=by
 have rv:=vals_ints hi
 have lenV:=hi.length
 have core : ∀ H:Hp,Only H->SqL K H a (ns.map V.int)->HOk P w H s₁.heap->(∀ b,H b ≠ none->b=a)->(H a ≠ none->K.lookup a=none) ->
   codeAny (model P w) callerA (.call (.ref fa) ⟨[.ref a],[]⟩) (fun r s'=>r = .ok (.ret (.bool true))/\OldK s₁.heap s'.heap/\s'.os=s₁.os/\AllBare s'.gens) s₁:=by
  intro H hO hS hok hA hK
  have base_of : ∀ {b:Addr} {o:Obj},s₁.heap.get? b=some o->H b=none->(hidT s₁.heap H).get? b=some o:=fun e n=>hidT_get e n
  have noA : ∀ {b:Addr} {o:Obj} {es:Array DictEntry} {ep:Nat},s₁.heap.get? b=some o->o.data = .dict es ep->H b=none:=fun {b o es ep} e d=>by
   cases q:H b with
   | none=>rfl
   | some u =>
    have e':b=a:=hA b (by rw [q]; simp)
    subst e'
    rw [ha] at e; cases e
    have d':Data.seq vs.toArray _=Data.dict es ep:=d
    cases d'
  have nsK : ∀ {b:Addr} {m:Str->Option Value},s₁.heap.Ns b m->(hidT s₁.heap H).Ns b m:=fun {b m} ⟨o,es,ep,e,d,r⟩=>⟨o,es,ep,base_of e (noA e d),d,r⟩
  have hKb:K.In (hidT s₁.heap H):=fun b o e=>base_of (KX b o e) (by
   cases q:H b with
   | none=>rfl
   | some u =>
    have e':b=a:=hA b (by rw [q]; simp)
    subst e'
    rw [hK (by rw [q]; simp)] at e; cases e)
  have hM:Mod K mg (hidT s₁.heap H):=⟨hKb,nsK hns,⟨mb,nsK hb,hbb⟩,let ⟨mc,h1,h2⟩:=hlim; ⟨mc,nsK h1,h2⟩⟩
  have e0:Env0 P w K mg (hidT s₁.heap H) callerA [] s₁ H:=⟨rfl,hM,fun b o e=>of_hidT e,Nat.le_of_eq (hidT_size _ _),trivial,fun b hb=>absurd (show b ∈ ([]:List Addr) from hb) (by simp),hok,.of_eq hg⟩
  refine codeAny_mono ((F _ hKb (nsK hns)).run callerA [] s₁ H ⟨[.ref a],[]⟩ [.ref a] [.ref a] _ _ hr e0 (hbind s₁ (.ref a)) (.cons rfl .nil) (hsp H hO hS)) fun r s' h => ?_
  cases r with
  | error e=>exact (hCX H e s' h).elim
  | ok fl =>
   cases fl with
   | next=>exact False.elim h
   | brk=>exact False.elim h
   | cont=>exact False.elim h
   | ret u =>
    obtain ⟨v,H',os,bare,un,hok',r',q⟩:=h
    have q':v = .bl true:=q
    subst q'
    obtain rfl:u=Value.bool true:=r'
    refine ⟨rfl,OldK.of_keep fun b o e => ?_,os,bare⟩
    cases q:H b with
    | none=>exact un.keep b o e q (by intro z; exact absurd (show b ∈ ([]:List Addr) from z) (by simp)) (by simp)
    | some u =>
     rcases hO b with z | ⟨ob,xs,z⟩
     ·rw [q] at z; cases z
     ·have z2:=un.frzs b ob _ z
      obtain ⟨e1,_⟩:=hok b _ z
      obtain ⟨e2,_⟩:=hok' b _ z2
      rw [e] at e1; cases e1
      exact e2
 cases hk:K.lookup a with
 | some o =>
  have e:=KX a o hk
  rw [ha] at e
  cases e
  refine core (fun _=>none) (fun _=>.inl rfl) (.inr ⟨_,vs.toArray,_,hk,rfl,rfl,rfl,by rw [List.size_toArray,lenV]; exact hl,by simpa using rv⟩) (fun b u z=>by have z':(none:Option HO)=some u:=z; cases z') (fun b z=>absurd rfl z) fun z=>absurd rfl z
 | none =>
  refine core (fun b=>if b=a then some (.frz { cls:=.type "list",data:=.seq vs.toArray } (.lst (ns.map V.int))) else none) (fun b => ?_) (.inl (.inr ⟨{ cls:=.type "list",data:=.seq vs.toArray },if_pos rfl⟩)) (fun b u z => ?_) (fun b z => ?_) fun _=>hk
  ·by_cases hb:b=a
   ·exact .inr ⟨_,_,if_pos hb⟩
   ·exact .inl (if_neg hb)
  ·by_cases hb:b=a
   ·have z':=(if_pos hb).symm.trans z
    cases z'
    subst hb
    exact ⟨ha,by rw [List.length_map]; exact hl,vs,_,rv,ha⟩
   ·have z':=(if_neg hb).symm.trans z
    cases z'
  ·by_cases hb:b=a
   ·exact hb
   ·exact absurd (if_neg hb) z
end L2
namespace L2
open PySem PySem.Spec PyProof.Rows
abbrev KOf {K:PySem.W.Frag}{h:Heap}(_:K.In h):PySem.W.Frag:=K
theorem walk_of {l:PySem.W.OpenLaw}{n k:Nat}{q:Program}{loose:List Str}{XP:(Str->Option Value)->Heap->Prop}{YP:World->Heap->Prop}{d:DefRec}{K:Params->PySem.W.Frag}{CX:World->CXT}{sp:World->Sp}{x:Str}
  (hn:l.most=some n) (hn2:n<=sizeLine) (hdf:d.params.defaults=[]) (hr:Room k callerA)
  (hY : ∀ (w:World) (h:Heap),YP w h->(K w.params).In h)
  (F : ∀ (w:World) (mg:Str->Option Value) (fa:Addr) (h:Heap),(K w.params).In h->h.Ns mainGlobals mg->mg d.name=some (.ref fa) ->
   ∃ fd:FuncData,(∀ (s:Shared) (u:Value),BindsTo s fd ⟨[u],[]⟩ [(x,u)]) /\
    ∀ base:Heap,(K w.params).In base->base.Ns mainGlobals mg->FnOk l.prog w (K w.params) mg base (CX w) k fa fd [x] (sp w))
  (hsp : ∀ (w:World) (H:Hp) (a:Addr) (ns:List Int),ns.length<=n->Only H->SqL (K w.params) H a (ns.map V.int)->sp w [.ref a] H (fun v _=>v = .bl true) fun _ _ _=>False)
  (hCX : ∀ (w:World) (H:Hp) (s:Shared) (e:Value) (s':Shared),CX w [] H s (fun _ _ _=>False) e s'->False) :
  PySem.W.WalkO q loose XP YP l.row.toRowW d [] (fun f vs=>PySem.call f vs):=by
 refine Att.attach_call hn hdf fun w s₀ s₁ mg mb fa o pm cd doc a vs ns G Y ho hd hcd hmg hobj hints hlen hg => ?_
 have KX:=hY w _ Y
 obtain ⟨fd,hb,hF⟩:=F w mg fa _ KX G.T.g hmg
 exact law_call KX G.T.g G.T.b G.T.builtins G.T.nolimit hg hobj hints (Nat.le_trans hlen hn2) hr hF hb (fun H hO hS=>hsp w H a ns hlen hO hS) fun H e s'=>hCX w H s₁ e s'
end L2
namespace L2
open PySem PySem.Spec PyProof.Rows
def inClass (s:Stmt)(j:Nat):Stmt:=match s with
 | .ClassDef _ _ _ body _ _ _ _ _ _ _=>body.getD j (.Pass ⟨0,0,0,0⟩)
 | _=>.Pass ⟨0,0,0,0⟩
def defArgs (s:Stmt):Arguments:=match s with
 | .FunctionDef _ a _ _ _ _ _ _ _ _=>a
 | _=>{ posonlyargs:=[],args:=[],vararg:=none,kwonlyargs:=[],kw_defaults:=[],kwarg:=none,defaults:=[] }
def defBody (s:Stmt):List Stmt:=match s with
 | .FunctionDef _ _ b _ _ _ _ _ _ _=>b
 | _=>[]
def defScope (s:Stmt):Scope:=match s with
 | .FunctionDef _ _ _ _ _ _ sc _ _ _=>sc
 | _=>{ kind:=.function,names:=[],isGenerator:=false,isCoroutine:=false }
abbrev CX0:CXT:=fun _ _ _ _ _ _=>False
abbrev E0:XK:=fun _ _ _=>False
theorem pass0 {X:Cx}:Passes CX0 X E0:=fun _ _ _ _ _ _ _ h=>h.elim
structure Fun (K:PySem.W.Frag)(x qual:Str)(st:Stmt)(f:Addr)(fd:FuncData):Prop where
 ex : ∃ (oc:Value) (od:Option Addr) (kV doc pm:Value) (an:Option Addr) (cdv ct:Value) (osl:Array (Option Value)),
  fd=PySem.W.fnOf x qual (defArgs st) (defBody st) (defScope st) .none kV doc pm an cdv ct/\K.lookup f=some ⟨oc,od,.func fd,osl⟩/\PySem.W.codeIn K cdv qual=true
 kp:PySem.W.keepIn K (.ref f)=true
section
variable {P:Program}{w:World}{K:PySem.W.Frag}{mg:Str->Option Value}{base:Heap}
theorem Fun.ok {x qual:Str}{st:Stmt}{f:Addr}{fd:FuncData}{N ps:List Str}{k:Nat}{sp:Sp}(F:Fun K x qual st f fd)(S:FnScope N ps (defScope st))(len : ∀ vs H Q E,sp vs H Q E->vs.length=ps.length)
  (hbody : ∀ (cdv:Value) (A:Around) (outer:List Env) (s:Shared) (H:Hp) (vs:List V) (Q:VK) (E:XK),Room k (A.deeper (envOfC qual (defScope st) s.heap.objs.size f cdv))->sp vs H Q E ->
   ∃ t,PSs (cxOf CX0 P w K mg base N qual (defScope st) f cdv A outer s H E).nox (defBody st) t/\t { nx:=fun _ H'=>Q .non H',rt:=Q } (start N vs) H):FnOk P w K mg base CX0 (k+1) f fd ps sp:=by
 obtain ⟨oc,od,kV,doc,pm,an,cdv,ct,osl,rfl,lk,hcd⟩:=F.ex
 refine fn_of lk hcd S len fun A outer s H vs Q E hr hsp => ?_
 obtain ⟨t,h,q⟩:=hbody cdv A outer s H vs Q E hr hsp
 exact ⟨t,h.nox,q⟩
theorem Fun.binds {x qual:Str}{st:Stmt}{f:Addr}{fd:FuncData}{ps:List Str}(F:Fun K x qual st f fd)
  (h : ∀ (kV doc pm:Value) (an:Option Addr) (cdv ct:Value) (us:List Value),us.length=ps.length->bindArgs (PySem.W.fnOf x qual (defArgs st) (defBody st) (defScope st) .none kV doc pm an cdv ct) ⟨us,[]⟩=pure (ps.zip us)):Binds K fd ps []:=by
 obtain ⟨oc,od,kV,doc,pm,an,cdv,ct,osl,rfl,lk,hcd⟩:=F.ex
 exact .all (h kV doc pm an cdv ct)
theorem fun_mk {x qual:Str}{st:Stmt}{f:Addr}{oc:Value}{od an:Option Addr}{osl:Array (Option Value)}{kV doc pm cdv ct:Value}(l:K.lookup f=some ⟨oc,od,.func (PySem.W.fnOf x qual (defArgs st) (defBody st) (defScope st) .none kV doc pm an cdv ct),osl⟩)
  (c:PySem.W.codeIn K cdv qual=true) (k:PySem.W.keepIn K (.ref f)=true):Fun K x qual st f (PySem.W.fnOf x qual (defArgs st) (defBody st) (defScope st) .none kV doc pm an cdv ct):=⟨⟨oc,od,kV,doc,pm,an,cdv,ct,osl,rfl,l,c⟩,k⟩
end
theorem hu_of {A:Around}{k:Nat}(hr:Room k A):A.units+1 < cLine:=Nat.lt_of_le_of_lt (Nat.add_le_add_left (by decide:1<=64) _) hr.units
theorem small1000 {n:Nat}(h:n<=1000):n < sizeLine:=Nat.lt_of_le_of_lt h (by decide)
section
variable {X:Cx}
theorem pv (i:Nat){x:Str}{pos:Pos}(hN:X.N[i]?=some x:=by rfl)(hv:Vis X.env.scope x:=by first | exact Or.inl rfl | exact Or.inr (Or.inl rfl) | exact Or.inr (Or.inr rfl))(hd:(x == ("__debug__" : Str))=false:=by decide)
  (hcd:(x == ("__classdict__" : Str))=false:=by decide):PE X (.Name x pos) (tVar i):=pe_var hN hv hd hcd
end
theorem iteF {A B:Prop}(h:B):if false=true then A else B:=by
 rw [if_neg Bool.false_ne_true]
 exact h
theorem iteT {A B:Prop}(h:A):if true=true then A else B:=by
 rw [if_pos rfl]
 exact h
theorem ite2 {c A B:Prop}[Decidable c](h1:c->A)(h2 : ¬ c->B):if c then A else B:=by
 by_cases h:c
 ·rw [if_pos h]
  exact h1 h
 ·rw [if_neg h]
  exact h2 h
def Same (H H':Hp):Prop:=∀ b o,H b=some o->H' b=some o
theorem Same.refl (H:Hp):Same H H:=fun _ _ h=>h
theorem Same.trans {H H1 H2:Hp}(a:Same H H1)(b:Same H1 H2):Same H H2:=fun c o h=>b c o (a c o h)
theorem Same.seq {K:PySem.W.Frag}{H H':Hp}{a:Addr}{xs:List V}(e:Same H H')(h:SqL K H a xs):SqL K H' a xs:=by
 rcases h with (h | ⟨o,h⟩) | h
 ·exact .inl (.inl (e _ _ h))
 ·exact .inl (.inr ⟨o,e _ _ h⟩)
 ·exact .inr h
end L2
namespace GM
def G (a b:Int):Int:=(Int.gcd a b:Int)
theorem G_zero {a:Int}(h:0<=a):G a 0=a:=by
 unfold G
 rw [Int.gcd_zero_right]
 omega
theorem G_step (a b:Int):G b (a % b)=G a b:=by
 unfold G
 congr 1
 have e:a % b=a - b*(a / b):=by
  have:=Int.emod_add_mul_ediv a b
  omega
 rw [e,Int.gcd_sub_mul_left_right,Int.gcd_comm]
theorem G_pos {a b:Int}(h:0 < b):0 < G a b:=by
 unfold G
 have:0 < Int.gcd a b:=Int.gcd_pos_of_ne_zero_right a (by omega)
 omega
theorem G_dvd_l (a b:Int):G a b ∣ a:=Int.gcd_dvd_left a b
theorem G_dvd_r (a b:Int):G a b ∣ b:=Int.gcd_dvd_right a b
theorem G_le_r {a b:Int}(h:0 < b):G a b<=b:=Int.le_of_dvd h (G_dvd_r a b)
structure Amt (t b:Int):Prop where
 t0:0<=t
 b1:1<=b
 g:G t b=1
theorem low_amt {t b:Int}(h0:0<=t)(h1:1<=b):Amt (t / G t b) (b / G t b):=by
 have gp:=G_pos (a:=t) (b:=b) (by omega)
 refine ⟨Int.ediv_nonneg h0 (by omega),Int.ediv_pos_of_pos_of_dvd (by omega) (by omega) (G_dvd_r t b),?_⟩
 unfold G at *
 have:=Int.gcd_ediv_gcd_ediv_gcd (i:=t) (j:=b) (by omega)
 omega
theorem low_l (t b:Int):t / G t b*G t b=t:=Int.ediv_mul_cancel (G_dvd_l t b)
theorem low_r (t b:Int):b / G t b*G t b=b:=Int.ediv_mul_cancel (G_dvd_r t b)
theorem dvd_cop {t b x:Int}(h:Amt t b)(d:b ∣ t*x):b ∣ x:=by
 have g1:Int.gcd b t=1:=by have:=h.g; unfold G at this; rw [Int.gcd_comm]; omega
 have:=Int.dvd_gcd_mul_iff_dvd_mul.mpr d
 rw [g1] at this
 simpa using this
theorem amt_unique {t b t' b':Int}(h:Amt t b)(h':Amt t' b')(e:t*b'=t'*b):t=t'/\b=b':=by
 have d1:b ∣ b':=dvd_cop h ⟨t',by rw [e,Int.mul_comm]⟩
 have d2:b' ∣ b:=dvd_cop h' ⟨t,by rw [<- e,Int.mul_comm]⟩
 have p:=h.b1
 have p':=h'.b1
 have eb:b=b':=Int.dvd_antisymm (by omega) (by omega) d1 d2
 subst eb
 exact ⟨Int.eq_of_mul_eq_mul_right (by omega) e,rfl⟩
theorem low_cross (t b:Int):t / G t b*b=t*(b / G t b):=by
 have e1:=low_l t b
 have e2:=low_r t b
 calc t / G t b*b=t / G t b*(b / G t b*G t b):=by rw [e2]
  _=t / G t b*G t b*(b / G t b):=by rw [Int.mul_comm (b / G t b),Int.mul_assoc]
  _=t*(b / G t b):=by rw [e1]
theorem amt_one {t:Int}(h:0<=t):Amt t 1:=by
 refine ⟨h,by omega,?_⟩
 unfold G
 rw [Int.gcd_one_right]
 rfl
theorem low_unique {t b x y:Int}(h0:0<=t)(h1:1<=b)(h:Amt x y)(e:x*b=t*y):t / G t b=x/\b / G t b=y:=by
 have a:=low_amt h0 h1
 refine amt_unique a h ?_
 have c:=low_cross t b
 have gp:=G_pos (a:=t) (b:=b) (by omega)
 have e1:=low_l t b
 have e2:=low_r t b
 refine Int.eq_of_mul_eq_mul_right (a:=G t b) (by omega) ?_
 calc t / G t b*y*G t b=t / G t b*G t b*y:=by rw [Int.mul_assoc,Int.mul_comm y,<- Int.mul_assoc]
  _=x*b:=by rw [e1,e]
  _=x*(b / G t b)*G t b:=by rw [Int.mul_assoc,e2]
end GM
namespace L2
open PySem PySem.Spec PyProof.Rows
inductive Isi (K:PySem.W.Frag)(H:Hp):V->String->Bool->Prop where
 | int_int {n}:Isi K H (.int n) "int" true
 | int_bool {n}:Isi K H (.int n) "bool" false
 | int_tuple {n}:Isi K H (.int n) "tuple" false
 | int_str {n}:Isi K H (.int n) "str" false
 | int_list {n}:Isi K H (.int n) "list" false
 | bl_int {b}:Isi K H (.bl b) "int" true
 | bl_bool {b}:Isi K H (.bl b) "bool" true
 | bl_tuple {b}:Isi K H (.bl b) "tuple" false
 | bl_str {b}:Isi K H (.bl b) "str" false
 | str_int {x}:Isi K H (.str x) "int" false
 | str_bool {x}:Isi K H (.str x) "bool" false
 | str_tuple {x}:Isi K H (.str x) "tuple" false
 | str_str {x}:Isi K H (.str x) "str" true
 | non_int:Isi K H .non "int" false
 | non_str:Isi K H .non "str" false
 | non_tuple:Isi K H .non "tuple" false
 | tup_tuple {a xs}:SqT K H a xs->Isi K H (.ref a) "tuple" true
 | tup_int {a xs}:SqT K H a xs->Isi K H (.ref a) "int" false
 | tup_str {a xs}:SqT K H a xs->Isi K H (.ref a) "str" false
 | tup_list {a xs}:SqT K H a xs->Isi K H (.ref a) "list" false
 | lst_tuple {a xs}:SqL K H a xs->Isi K H (.ref a) "tuple" false
 | lst_int {a xs}:SqL K H a xs->Isi K H (.ref a) "int" false
 | lst_str {a xs}:SqL K H a xs->Isi K H (.ref a) "str" false
 | lst_list {a xs}:SqL K H a xs->Isi K H (.ref a) "list" true
section
variable {X:Cx}
theorem call_isi:CallR X (.builtin "isinstance") (fun xs H Q=>∃ x T b,xs=[x,.ty T]/\Isi X.K H x T b/\Q (.bl b) H):=by
 intro pins s σ H xs us Q I r h
 obtain ⟨x,T,b,rfl,hi,q⟩:=h
 obtain ⟨u,w',rfl,rx,ry⟩:=vals2 r
 cases ry
 have f1:EP X pins σ Q (.bool b) s:=⟨.bl b,H,I,rfl,q⟩
 have f2:EP X pins σ Q (.bool b) { s with toks:=s.toks+1 }:=⟨.bl b,H,I.tok _,rfl,q⟩
 cases hi with
 | int_int=>obtain ⟨t,rfl⟩:=rx; exact IsiPair.int_int f1
 | int_bool=>obtain ⟨t,rfl⟩:=rx; exact IsiPair.int_bool f2
 | int_tuple=>obtain ⟨t,rfl⟩:=rx; exact IsiPair.int_tuple f2
 | int_str=>obtain ⟨t,rfl⟩:=rx; exact IsiPair.int_str f2
 | int_list=>obtain ⟨t,rfl⟩:=rx; exact IsiPair.int_list f2
 | bl_int=>cases rx; exact IsiPair.bool_int f1
 | bl_bool=>cases rx; exact IsiPair.bool_bool f1
 | bl_tuple=>cases rx; exact IsiPair.bool_tuple f2
 | bl_str=>cases rx; exact IsiPair.bool_str f2
 | str_int=>obtain ⟨t,rfl⟩:=rx; exact IsiPair.str_int f2
 | str_bool=>obtain ⟨t,rfl⟩:=rx; exact IsiPair.str_bool f2
 | str_tuple=>obtain ⟨t,rfl⟩:=rx; exact IsiPair.str_tuple f2
 | str_str=>obtain ⟨t,rfl⟩:=rx; exact IsiPair.str_str f1
 | non_int=>cases rx; exact IsiPair.NoneType_int f2
 | non_str=>cases rx; exact IsiPair.NoneType_str f2
 | non_tuple=>cases rx; exact IsiPair.NoneType_tuple f2
 | tup_tuple hq=>cases rx; obtain ⟨its,_,⟨o,e,c,_⟩,_⟩:=I.tuple hq; exact IsiPair.tuple_tuple e c f1
 | tup_int hq=>cases rx; obtain ⟨its,_,⟨o,e,c,_⟩,_⟩:=I.tuple hq; exact IsiPair.tuple_int e c f2
 | tup_str hq=>cases rx; obtain ⟨its,_,⟨o,e,c,_⟩,_⟩:=I.tuple hq; exact IsiPair.tuple_str e c f2
 | tup_list hq=>cases rx; obtain ⟨its,_,⟨o,e,c,_⟩,_⟩:=I.tuple hq; exact IsiPair.tuple_list e c f2
 | lst_tuple hq=>cases rx; obtain ⟨its,_,⟨o,n,e,c,_⟩,_⟩:=I.list hq; exact IsiPair.list_tuple e c f2
 | lst_int hq=>cases rx; obtain ⟨its,_,⟨o,n,e,c,_⟩,_⟩:=I.list hq; exact IsiPair.list_int e c f2
 | lst_str hq=>cases rx; obtain ⟨its,_,⟨o,n,e,c,_⟩,_⟩:=I.list hq; exact IsiPair.list_str e c f2
 | lst_list hq=>cases rx; obtain ⟨its,_,⟨o,n,e,c,_⟩,_⟩:=I.list hq; exact IsiPair.list_list e c f1
inductive DEq (K:PySem.W.Frag)(H:Hp):Nat->V->V->Bool->Prop where
 | flat {n x y}:flatV x=true->flatV y=true->DEq K H n x y (eqV x y)
 | same {n a}:DEq K H n (.ref a) (.ref a) true
 | tup {n a b xs ys} {e:Nat->Bool}:a ≠ b->SqT K H a xs->SqT K H b ys->(∀ (j:Nat) x y,xs[j]?=some x->ys[j]?=some y->DEq K H n x y (e j)) ->
   DEq K H (n+1) (.ref a) (.ref b) ((List.range (min xs.length ys.length)).all e && xs.length == ys.length)
 | lst {n a b xs ys} {e:Nat->Bool}:a ≠ b->SqL K H a xs->SqL K H b ys->(∀ (j:Nat) x y,xs[j]?=some x->ys[j]?=some y->DEq K H n x y (e j)) ->
   DEq K H (n+1) (.ref a) (.ref b) ((List.range (min xs.length ys.length)).all e && xs.length == ys.length)
theorem tups_at {pins:List (Addr × Obj)}{σ:St}{H:Hp}{s:Shared}(I:Inv X pins σ H s){A:Around}{a b:Addr}{xs ys:List V}{e:Nat->Bool}(hx:SqT X.K H a xs)(hy:SqT X.K H b ys)(hu:A.units < cLine)
  (hd : ∀ (j:Nat) x y u v,xs[j]?=some x->ys[j]?=some y->RelV x u->RelV y v->SeqAt.EqAt A.in1 s u v (e j)) :
  SeqAt.RcAt A s (.ref a) (.ref b) ((List.range (min xs.length ys.length)).all e && xs.length == ys.length):=by
 obtain ⟨its,r,tx,_⟩:=I.tuple hx
 obtain ⟨its',r',ty,_⟩:=I.tuple hy
 have l1:=r.length
 have l2:=r'.length
 have q:=SeqAt.RcAt.tuples (A:=A) (e:=e) tx ty hu (fun j h1 h2 => ?_)
 ·rw [List.size_toArray,List.size_toArray,<- l1,<- l2] at q
  exact q
 ·rw [List.size_toArray] at h1 h2
  obtain ⟨x,hxj⟩ : ∃ x,xs[j]?=some x:=⟨_,List.getElem?_eq_getElem (by omega)⟩
  obtain ⟨y,hyj⟩ : ∃ y,ys[j]?=some y:=⟨_,List.getElem?_eq_getElem (by omega)⟩
  obtain ⟨u1,hu1,ru1⟩:=r.get hxj
  obtain ⟨u2,hu2,ru2⟩:=r'.get hyj
  have e1:its.toArray[j]=u1:=by
   have:=(List.getElem?_eq_some_iff.mp hu1).2
   simpa using this
  have e2:its'.toArray[j]=u2:=by
   have:=(List.getElem?_eq_some_iff.mp hu2).2
   simpa using this
  rw [e1,e2]
  exact hd j x y u1 u2 hxj hyj ru1 ru2
theorem isList_of {h:Heap}{a:Addr}{its:Array Value}(p:PlainL h a its):h.IsList a its:=by
 obtain ⟨o,n,e,c,_,d⟩:=p
 exact ⟨o,e,c,n,d⟩
theorem lsts_at {pins:List (Addr × Obj)}{σ:St}{H:Hp}{s:Shared}(I:Inv X pins σ H s){A:Around}{a b:Addr}{xs ys:List V}{e:Nat->Bool}(hx:SqL X.K H a xs)(hy:SqL X.K H b ys)(hu:A.units < cLine)
  (hd : ∀ (j:Nat) x y u v,xs[j]?=some x->ys[j]?=some y->RelV x u->RelV y v->SeqAt.EqAt A.in1 s u v (e j)) :
  SeqAt.RcAt A s (.ref a) (.ref b) ((List.range (min xs.length ys.length)).all e && xs.length == ys.length):=by
 obtain ⟨its,r,tx,_⟩:=I.list hx
 obtain ⟨its',r',ty,_⟩:=I.list hy
 have l1:=r.length
 have l2:=r'.length
 by_cases hl:xs.length=ys.length
 ·have q:=SeqAt.RcAt.lists (A:=A) (e:=e) (isList_of tx) (isList_of ty) (by rw [List.size_toArray,List.size_toArray]; omega) hu (fun j h1 h2 => ?_)
  ·rw [List.size_toArray,<- l1] at q
   have e1:((List.range (min xs.length ys.length)).all e && xs.length == ys.length)=(List.range xs.length).all e:=by
    rw [<- hl,Nat.min_self,beq_self_eq_true,Bool.and_true]
   rw [e1]
   exact q
  ·rw [List.size_toArray] at h1 h2
   obtain ⟨x,hxj⟩ : ∃ x,xs[j]?=some x:=⟨_,List.getElem?_eq_getElem (by omega)⟩
   obtain ⟨y,hyj⟩ : ∃ y,ys[j]?=some y:=⟨_,List.getElem?_eq_getElem (by omega)⟩
   obtain ⟨u1,hu1,ru1⟩:=r.get hxj
   obtain ⟨u2,hu2,ru2⟩:=r'.get hyj
   have e1:its.toArray[j]=u1:=by
    have:=(List.getElem?_eq_some_iff.mp hu1).2
    simpa using this
   have e2:its'.toArray[j]=u2:=by
    have:=(List.getElem?_eq_some_iff.mp hu2).2
    simpa using this
   rw [e1,e2]
   exact hd j x y u1 u2 hxj hyj ru1 ru2
 ·have q:=SeqAt.RcAt.lists_lengths (A:=A) (isList_of tx) (isList_of ty) (by rw [List.size_toArray,List.size_toArray,<- l1,<- l2,bne_iff_ne]; exact hl) hu
  have e1:((List.range (min xs.length ys.length)).all e && xs.length == ys.length)=false:=by
   rw [beq_eq_false_iff_ne.mpr hl,Bool.and_false]
  rw [e1]
  exact q
theorem DEq.at {pins:List (Addr × Obj)}{σ:St}{H:Hp}{s:Shared}(I:Inv X pins σ H s){n:Nat}{x y:V}{k:Bool}(d:DEq X.K H n x y k) : ∀ {A:Around} {u v:Value},A.units+n < cLine->RelV x u->RelV y v->SeqAt.EqAt A s u v k:=by
 induction d with
 | flat fx fy=>intro A u v _ rx ry; exact eqAt_V rx ry fx fy
 | same=>intro A u v _ rx ry; cases rx; cases ry; exact SeqAt.EqAt.same _
 | @tup n a b xs ys e hne hx hy hd ih =>
  intro A u v hu rx ry
  cases rx; cases ry
  exact SeqAt.EqAt.of_refs hne (tups_at I hx hy (by omega) fun j x y u v h1 h2 r1 r2=>ih j x y h1 h2 (by show A.units+1+n < cLine; omega) r1 r2)
 | @lst n a b xs ys e hne hx hy hd ih =>
  intro A u v hu rx ry
  cases rx; cases ry
  exact SeqAt.EqAt.of_refs hne (lsts_at I hx hy (by omega) fun j x y u v h1 h2 r1 r2=>ih j x y h1 h2 (by show A.units+1+n < cLine; omega) r1 r2)
def rEqT (K:PySem.W.Frag):R2:=fun x y H Q=>∃ a b xs ys,∃ e:Nat->Bool,x = .ref a/\y = .ref b/\SqT K H a xs/\SqT K H b ys/\(∀ (j:Nat) x y,xs[j]?=some x->ys[j]?=some y->DEq K H 40 x y (e j)) /\
 Q (.bl ((List.range (min xs.length ys.length)).all e && xs.length == ys.length)) H
def rNeT (K:PySem.W.Frag):R2:=fun x y H Q=>∃ a b xs ys,∃ e:Nat->Bool,x = .ref a/\y = .ref b/\SqT K H a xs/\SqT K H b ys/\(∀ (j:Nat) x y,xs[j]?=some x->ys[j]?=some y->DEq K H 40 x y (e j)) /\
 Q (.bl (!((List.range (min xs.length ys.length)).all e && xs.length == ys.length))) H
theorem op_eqT (hu:X.A.units+64 < cLine):OpR X (compareOp .Eq) (rEqT X.K):=by
 intro pins s σ H x y v u Q I rx ry h
 obtain ⟨a,b,xs,ys,e,rfl,rfl,hx,hy,hd,q⟩:=h
 cases rx; cases ry
 exact tups_at I hx hy (by omega) (fun j x y u v h1 h2 r1 r2=>(hd j x y h1 h2).at I (by show X.A.units+1+40 < cLine; omega) r1 r2) X.prog X.w X.xe _ ⟨.bl _,H,I,rfl,q⟩
end
end L2
namespace L2
open PySem PySem.Spec PyProof.Rows
theorem compLoop_gen {prog:Program}{w:World}{A:Around}{R:Result->Shared->Prop}{s:Shared}{elt target iter:Expr}{ifs:List Expr}{scope:Scope}{pos:Pos}{it acc:Value}{env:Env}(I:Nat->Shared->Prop)
  (turn : ∀ n s,I n s->wpAny (model prog w) A (pyNext it) (fun r s₁=>match r with
   | none=>R (.ok .next) s₁
   | some v=>wpAny (model prog w) A (letOwnedTupleGo target it v) (fun _ s₁'=>wpAny (model prog w) A (assign target env v) (fun _ s₂ =>
     wpAny (model prog w) A (forIn ifs true fun c r=>if r=true then do let ok <- isTrue c env (eval c env); pure (ForInStep.yield ok) else pure (ForInStep.yield r)) (fun ok s₃ =>
      if ok=true then wpAny (model prog w) A (eval elt env) (fun x s₄ =>
       wpAny (model prog w) A (call (.builtin "list.append") [acc,x]) (fun _ s₅=>∃ m,m < n/\I m s₅) (fun _ _=>False) s₄) (fun _ _=>False) s₃
      else ∃ m,m < n/\I m s₃) (fun _ _=>False) s₂) (fun _ _=>False) s₁') (fun _ _=>False) s₁) (fun _ _=>False) s)
  (n:Nat) (h:I n s):codeAny (model prog w) A (.compLoop (.ListComp elt [⟨target,iter,ifs,0⟩] scope pos) 0 it acc env) R s:=by
 refine codeAny_loop rfl I (fun n s hI => ?_) n h
 show wpAny _ A ((compTurn (.ListComp elt [⟨target,iter,ifs,0⟩] scope pos) 0 it acc env).onRaise (fun x=>do noteFrame x env; theTreesLotGoes x)) _ _ s
 refine wpAny_noted ?_
 rw [compTurn_list]
 refine wpAny_bind (wpAny_standAt (wpAny_bind (wpAny_mono (turn n s hI) (fun r s₁ h₁ => ?_) fun _ _ z=>z.elim)))
 cases r with
 | none=>exact wpAny_pure h₁
 | some v =>
  refine wpAny_bind (wpAny_mono h₁ (fun _ s₁' h₁' => ?_) fun _ _ z=>z.elim)
  refine wpAny_bind (wpAny_mono h₁' (fun _ s₂ h₂=>wpAny_bind (wpAny_mono h₂ (fun ok s₃ h₃ => ?_) fun _ _ z=>z.elim)) fun _ _ z=>z.elim)
  cases ok with
  | false=>exact wpAny_pure ⟨rfl,h₃⟩
  | true =>
   exact wpAny_bind (wpAny_bind (wpAny_mono h₃ (fun x s₄ h₄=>wpAny_bind (wpAny_mono h₄ (fun _ s₅ h₅=>wpAny_pure (wpAny_pure ⟨rfl,h₅⟩)) fun _ _ z=>z.elim)) fun _ _ z=>z.elim))
def blk (X:Cx)(N':List Str)(scope:Scope)(cl:List (Str × Addr))(C:Addr)(s₀:Shared)(H₀:Hp)(ex:List Addr)(pn:List (Addr × Obj)):Cx where
 prog:=X.prog
 w:=X.w
 K:=X.K
 mg:=X.mg
 base:=X.base
 A:=X.A
 N:=N'
 s₀:=s₀
 H₀:=H₀
 env:=compEnvC scope cl C X.env
 outer:=X.stack
 stack:=X.stack
 ex:=ex
 fn:=fun _=>false
 calm:=X.calm
 pn:=pn
 xe:=fun _ _=>False
structure ClOk (X:Cx)(scope:Scope)(cl:List (Str × Addr)):Prop where
 run:closureFor scope X.env=pure cl
 sub : ∀ x c,cl.lookup x=some c->X.env.cells.lookup x=some c
 has : ∀ x,((relabel scope X.env).names.lookup x=some .cell\/(relabel scope X.env).names.lookup x=some .free)->∃ c,cl.lookup x=some c
structure BlkN (X:Cx)(N':List Str)(scope:Scope)(cl:List (Str × Addr))(σ σ':St):Prop where
 len:σ'.length=N'.length
 from' : ∀ (i:Nat) (x:Str) (v:V),N'[i]?=some x->σ'[i]?=some (some v)->∃ j:Nat,X.N[j]?=some x/\σ[j]?=some (some v)/\Vis X.env.scope x/\X.env.kindOf x ≠ some .local /\
  ((relabel scope X.env).names.lookup x=some .cell\/(relabel scope X.env).names.lookup x=some .free)
section
variable {X:Cx}{pins:List (Addr × Obj)}{σ σ':St}{H:Hp}{s:Shared}
theorem blk_start {N':List Str}{scope:Scope}{cl:List (Str × Addr)}{fp:List Addr}{h₁:Heap}{t':Nat}(I:Inv X pins σ H s)(hkind:scope.kind = .function)(hcl:ClOk X scope cl)(hN:BlkN X N' scope cl σ σ')(hf : ∀ b ∈ fp,FpOk X pins H b)(hfo : ∀ b ∈ fp,b < s.heap.objs.size)
  (hns:h₁.Ns s.heap.objs.size (fun _=>none)) (hk : ∀ b o,s.heap.get? b=some o->h₁.get? b=some o) :
  Inv (blk X N' scope cl s.heap.objs.size s H fp (X.pn ++ pins)) [] σ' H { s with heap:=h₁,toks:=t' }:=by
 have hfs : ∀ b,b ∉ (X.env.locals :: X.fs)->b ∉ frs X.stack:=fun b hb z=>hb (I.stkSub b z)
 refine ⟨⟨I.ok.mod,hkind,I.ok.glob,I.ok.blt,Nat.le_refl _,?_,hcl.has,fun _ _ h=>absurd h (by intro z; cases z),I.ok.hd,I.ok.frames,.inl rfl,?_,I.bs,Nat.le_trans I.ok.bsz I.sz,?_,?_,I.stack,I.stkFree⟩,
  rfl,I.bare,Un.kept hk,⟨_,hns,?_⟩,?_,I.hok.fresh (Nat.le_refl _),fun x c e=>I.freeC x c (hcl.sub x c e),?_,I.hok.kept hk,hN.len⟩
 ·intro x y c h1 h2
  exact I.ok.inj x y c (hcl.sub x c h1) (hcl.sub y c h2)
 ·intro b hb
  exact ⟨Nat.ne_of_lt (hfo b hb),fun x c e=>(hf b hb).2.2.2.2.1 x c (hcl.sub x c e)⟩
 ·intro b o e hb
  rcases (hf b hb).2.2.2.1 with q | q
  ·exact I.ok.noex b o e q
  ·exact absurd (Nat.lt_of_lt_of_le (Heap.lt_size e) (Nat.le_trans I.ok.bsz q)) (Nat.lt_irrefl _)
 ·intro b hb
  refine hfs b fun z => ?_
  rcases List.mem_cons.mp z with z | z
  ·exact (hf b hb).2.1 z
  ·exact (hf b hb).2.2.1 z
 ·intro i x v h1 h2 _
  obtain ⟨j,hj,hσ,hv,hnl,hk'⟩:=hN.from' i x v h1 h2
  obtain ⟨m,hn,hl⟩:=I.loc
  obtain ⟨u,r,l⟩:=hl j x v hj hσ hv
  refine ⟨u,r,.inr ⟨hk',?_⟩⟩
  obtain ⟨c,hc⟩:=hcl.has x hk'
  rcases l with ⟨hloc,_⟩ | ⟨_,c',hc',hcell⟩
  ·exact absurd hloc hnl
  ·have e:=hcl.sub x c hc
   rw [hc'] at e
   cases e
   obtain ⟨o,ho,hd⟩:=hcell
   exact ⟨_,hc,o,hk _ _ ho,hd⟩
 ·intro x c e
  obtain ⟨v,o,ho,hd⟩:=I.cell x c (hcl.sub x c e)
  exact ⟨v,o,hk _ _ ho,hd⟩
 ·intro p hp
  rw [show (blk X N' scope cl s.heap.objs.size s H fp (X.pn ++ pins)).pn=X.pn ++ pins from rfl,List.append_nil] at hp
  obtain ⟨a1,a2,a3,a4,a5⟩:=I.pin p hp
  refine ⟨hk _ _ a1,a2,Nat.ne_of_lt (Heap.lt_size a1),hfs _ fun z => ?_,a5⟩
  rcases List.mem_cons.mp z with z | z
  ·exact a3 z
  ·exact a4 z
theorem blk_end {N':List Str}{scope:Scope}{cl:List (Str × Addr)}{fp:List Addr}{pl:List (Addr × Obj)}{H':Hp}{s':Shared}{h'':Heap}(I:Inv X pins σ H s)(hf : ∀ b ∈ fp,FpOk X pins H b)
  (J:Inv (blk X N' scope cl s.heap.objs.size s H fp (X.pn ++ pins)) pl σ' H' s') (hs:Heap.SameBut s.heap.objs.size s'.heap h''):Inv X pins σ H' { s' with heap:=h'' }:=by
 have hne : ∀ b o,s.heap.get? b=some o->b ≠ s.heap.objs.size:=fun b o e=>Nat.ne_of_lt (Heap.lt_size e)
 have hC:H' s.heap.objs.size=none:=J.free
 have ub:Un (frs X.stack) fp H H' s.heap s'.heap:=J.base
 have u:Un (frs X.stack) fp H H' s.heap h'':={
  keep:=fun b o e n hb hx=>hs.extBut b o (hne b o e) (ub.keep b o e n hb hx)
  slot:=fun b o e n hb hx=>by
   obtain ⟨sl,q⟩:=ub.slot b o e n hb hx
   exact ⟨sl,hs.extBut b _ (hne b o e) q⟩
  free:=ub.free
  there:=fun b o e hx=>by
   obtain ⟨o',q⟩:=ub.there b o e hx
   exact ⟨o',hs.extBut b _ (hne b o e) q⟩
  tups:=ub.tups
  frzs:=ub.frzs
  tbls:=ub.tbls }
 have hok:HOk X.prog X.w H' h'':=fun a o e=>(J.hok a o e).stay (fun b ob hb q=>hs.extBut b ob (fun z=>by
  rw [z] at hb
  rcases hb with hb | hb
  ·rw [<- hb,hC] at e; cases e
  ·rw [hC] at hb; cases hb) q) (fun _ h=>h) (fun _ _ h=>h)
 exact I.call' (s':={ s' with heap:=h'' }) J.os u hok J.bare fun b hb=>by
  obtain ⟨f0,f1,f2,f3,f4,f5⟩:=hf b hb
  exact ⟨f3,f1,f4,f5⟩
end
end L2
namespace L2
open PySem PySem.Spec PyProof.Rows
def PIfs (X:Cx)(ifs:List Expr)(t:TT):Prop :=
 ∀ (pins:List (Addr × Obj)) (s:Shared) (σ:St) (H:Hp) (Q:Bool->Hp->Prop),Inv X pins σ H s->t σ H Q ->
  wpAny (model X.prog X.w) X.A (forIn ifs true fun c r=>if r=true then do let ok <- isTrue c X.env (eval c X.env); pure (ForInStep.yield ok) else pure (ForInStep.yield r)) (TP X pins σ Q) X.xe s
def tNoIf:TT:=fun _ H Q=>Q true H
theorem pifs_nil {X:Cx}:PIfs X [] tNoIf:=fun _ _ _ H _ I h=>wpAny_tests_nil ⟨H,I,h⟩
theorem pifs_one {X:Cx}{c:Expr}{t:TT}(h:PT X c t):PIfs X [c] t:=fun pins s σ H Q I hw=>wpAny_tests_one (h pins s σ H Q I hw)
structure Keep (σa σb:St):Prop where
 len:σb.length=σa.length
 at' : ∀ (i:Nat) (v:V),σa[i]?=some (some v)->σb[i]?=some (some v)
theorem Keep.refl (σ:St):Keep σ σ:=⟨rfl,fun _ _ h=>h⟩
theorem Keep.set {σa σb:St}{i:Nat}{v:V}(k:Keep σa σb)(h:σa[i]?=some none):Keep σa (σb.set i (some v)):=by
 refine ⟨by rw [List.length_set]; exact k.len,fun j u e => ?_⟩
 have hj:i ≠ j:=by
  rintro rfl
  rw [h] at e
  cases e
 rw [List.getElem?_set_ne hj]
 exact k.at' j u e
def tComp (σf:St->St)(wi:TI)(g:TG)(tt:TT)(te:TE):TE:=fun σ H Q=>wi σ H fun J H1=>∀ D,H1 D=none->∃ W:Nat->Nat->List V->Hp->Prop,(∃ m,W 0 m [] (upd H1 D (.lst []))) /\
 ∀ i m ys H,W i m ys H->H D=some (.lst ys)/\ys.length < sizeLine /\
  ((J.stop i H/\Q (.ref D) H)\/(J.go i H/\∀ x H',J.yld i H x H'->g x (σf σ) H' fun σ2 H2=>Keep (σf σ) σ2/\tt σ2 H2 fun b H3 =>
   if b=true then te σ2 H3 fun y H4=>H4 D=some (.lst ys)/\∃ m',m' < m/\W (i+1) m' (ys ++ [y]) (upd H4 D (.lst (ys ++ [y]))) else ∃ m',m' < m/\W (i+1) m' ys H3))
theorem pe_comp {X:Cx}{elt tg iter:Expr}{ifs:List Expr}{scope:Scope}{pos:Pos}{N':List Str}{cl:List (Str × Addr)}{wi:TI}{g:TG}{tt:TT}{te:TE}(σf:St->St)
  (hc:X.calm=true) (hkind:scope.kind = .function) (hcell : ∀ y ∈ scope.names,y.2 ≠ .cell) (hnames : ∀ y ∈ scope.names,y.2 = .local->scope.names.lookup y.1=some .local) (hcl:ClOk X scope cl)
  (hN : ∀ σ:St,σ.length=X.N.length->BlkN X N' scope cl σ (σf σ)) (hi:PI X tg iter wi)
  (hg : ∀ C s₀ H₀ ex pn,PG (blk X N' scope cl C s₀ H₀ ex pn) tg g) (ht : ∀ C s₀ H₀ ex pn,PIfs (blk X N' scope cl C s₀ H₀ ex pn) ifs tt) (he : ∀ C s₀ H₀ ex pn,PE (blk X N' scope cl C s₀ H₀ ex pn) elt te)
  (hs : ∀ x,foldedSetIterable iter X.env x=pure x:=by intro _; rfl):PE X (.ListComp elt [⟨tg,iter,ifs,0⟩] scope pos) (tComp σf wi g tt te):=by
 intro pins s σ H Q I h
 rw [eval_ListComp]
 refine wpAny_comprehension_free (use:=none) rfl hs hcl.run hkind hnames (thn (hi pins s σ H _ I h) fun v s1 h1=>thn h1 fun itv s2 h2 => ?_)
 obtain ⟨it,fp,tn,J,H2,rfl,I2,T,st2,f2,q⟩:=h2
 refine wpAny_newObj_type (wpAny_newFunctionEnv hcell (by intro y hy; simp at hy) (fun h₁ hns₁ hsb₁ => ?_) hkind)
 dsimp only at hns₁ hsb₁ ⊢
 have hfo : ∀ b ∈ fp,b < s2.heap.objs.size:=fun b hb=>by
  obtain ⟨o,e,_⟩:=T.obj _ _ st2 b hb
  exact Heap.lt_size e
 have hDf:H2 s2.heap.objs.size=none:=I2.hok.fresh (Nat.le_refl _)
 obtain ⟨W,⟨m0,w0⟩,turn⟩:=q s2.heap.objs.size hDf
 have I3:Inv X pins σ (upd H2 s2.heap.objs.size (.lst [])) { s2 with heap:=s2.heap.push { cls:=.type "list",data:=.seq ([]:List Value).toArray } }:=I2.lnew (its:=[]) (t':=s2.toks) .nil (Nat.zero_le _)
 have f3 : ∀ b ∈ fp,FpOk X pins (upd H2 s2.heap.objs.size (.lst [])) b:=fun b hb=>⟨by rw [upd_ne (Nat.ne_of_lt (hfo b hb))]; exact (f2 b hb).1,(f2 b hb).2⟩
 generalize hD:s2.heap.objs.size=D at *
 generalize hs3:({ s2 with heap:=s2.heap.push { cls:=.type "list",data:=.seq ([]:List Value).toArray } }:Shared)=s3 at *
 have hh3:s3.heap=s2.heap.push { cls:=.type "list",data:=.seq ([]:List Value).toArray }:=by rw [<- hs3]
 have hsz3:s2.heap.objs.size < s3.heap.objs.size:=by rw [hh3,Heap.size_push]; exact Nat.lt_succ_self _
 have e3 : ∀ h t,({ s2 with heap:=h,toks:=t }:Shared)={ s3 with heap:=h,toks:=t }:=fun h t=>by rw [<- hs3]
 rw [<- hh3] at hns₁ hsb₁ ⊢
 have hk3 : ∀ b o,s3.heap.get? b=some o->h₁.get? b=some o:=fun b o e=>hsb₁.extBut b o (Nat.ne_of_lt (Heap.lt_size e)) (Heap.get?_push_of_some _ e)
 have I4:=blk_start (t':=s3.toks) I3 hkind hcl (hN σ I.len) f3 (fun b hb=>Nat.lt_trans (hfo b hb) (hD ▸ hsz3)) (hns:=by simpa using hns₁) hk3
 generalize hB:blk X N' scope cl s3.heap.objs.size s3 (upd H2 D (.lst [])) fp (X.pn ++ pins)=B at *
 have hBp:B.prog=X.prog:=by rw [<- hB]; rfl
 have hBw:B.w=X.w:=by rw [<- hB]; rfl
 have hBK:B.K=X.K:=by rw [<- hB]; rfl
 have hBA:B.A=X.A:=by rw [<- hB]; rfl
 have hBc:B.calm=true:=by rw [<- hB]; exact hc
 have hBe:B.env=compEnvC scope cl s3.heap.objs.size X.env:=by rw [<- hB]; rfl
 have hBx:B.xe=fun _ _=>False:=by rw [<- hB]; rfl
 have hGB:PG B tg g:=hB ▸ hg _ _ _ _ _
 have hTB:PIfs B ifs tt:=hB ▸ ht _ _ _ _ _
 have hEB:PE B elt te:=hB ▸ he _ _ _ _ _
 have stat : ∀ {H':Hp},(∀ b ∈ fp,H' b=none)->∀ b ∈ fp,FpOk B [] H' b:=fun {H'} hn b hb=>by
  obtain ⟨f0,f1,f2',f3',f4,f5⟩:=f3 b hb
  rw [<- hB]
  refine ⟨hn b hb,Nat.ne_of_lt (Nat.lt_trans (hfo b hb) (hD ▸ hsz3)),fun z => ?_,.inl hb,fun x c e=>f4 x c (hcl.sub x c e),fun p hp => ?_⟩
  ·rcases List.mem_cons.mp (I.stkSub b z) with z | z
   ·exact f1 z
   ·exact f2' z
  ·rw [show (blk X N' scope cl s3.heap.objs.size s3 (upd H2 D (.lst [])) fp (X.pn ++ pins)).pn=X.pn ++ pins from rfl,List.append_nil] at hp
   exact f5 p hp
 have loop : ∀ s4:Shared,Inv B [] (σf σ) (upd H2 D (.lst [])) s4->tn 0 s4.heap ->
   codeAny (model X.prog X.w) X.A (.compLoop (.ListComp elt [⟨tg,iter,ifs,0⟩] scope pos) 0 (.ref it) (.ref D) (compEnvC scope cl s3.heap.objs.size X.env)) (compPost (model X.prog X.w) X.A X.xe none (EP X pins σ Q) (.ref D) s3.heap.objs.size) s4:=by
  intro s4 I4 st4
  refine compLoop_gen (I:=fun n s'=>∃ i ys H',Inv B [] (σf σ) H' s'/\tn i s'.heap/\(∀ b ∈ fp,H' b=none)/\W i n ys H') ?_ m0 ⟨0,[],_,I4,st4,fun b hb=>(f3 b hb).1,w0⟩
  rintro n s5 ⟨i,ys,H5,I5,st5,fr5,w5⟩
  obtain ⟨hD5,hlen5,alt⟩:=turn i n ys H5 w5
  rcases alt with ⟨stop,qn⟩ | ⟨go,step⟩
  ·have z:=T.done B hBp hBw hBK hBc i [] s5 (σf σ) H5 (fun _ _=>False) I5 (stat fr5) st5 stop
   rw [hBA] at z
   refine thn z fun r s6 ⟨hr,I6⟩ => ?_
   subst hr
   obtain ⟨m6,hn6,_⟩:=I6.loc
   rw [hBe] at hn6
   refine ⟨m6,hn6,fun h' hs' => ?_⟩
   subst hB
   exact ⟨.ref D,H5,blk_end I3 f3 I6 hs',rfl,qn⟩
  ·have z:=T.item B hBp hBw hBK hBc i [] s5 (σf σ) H5 (fun _ _=>False) I5 (stat fr5) st5 go
   rw [hBA] at z
   refine thn z fun r s6 ⟨u,hr,h6⟩ => ?_
   subst hr
   refine thn h6 fun _ s7 ⟨x,H7,I7,r7,y7,st7,fr7⟩ => ?_
   have I7':=I7.pinned (stat fr7) (T.obj _ _ st7)
   have z8:=hGB _ s7 (σf σ) H7 x u _ I7' r7 (step x H7 y7)
   rw [hBp,hBw,hBA,hBe,hBx] at z8
   refine thn z8 fun _ s8 ⟨σ8,H8,I8,k8,q8⟩ => ?_
   have z9:=hTB _ s8 σ8 H8 _ I8 q8
   rw [hBp,hBw,hBA,hBe,hBx] at z9
   refine thn z9 fun ok s9 ⟨H9,I9,q9⟩ => ?_
   have again : ∀ {ys':List V} {H':Hp} {s':Shared},Inv B ([] ++ pinsAt fp s7.heap) σ8 H' s'->(∃ m',m' < n/\W (i+1) m' ys' H')->∃ m,m < n/\∃ i ys H',Inv B [] (σf σ) H' s'/\tn i s'.heap/\(∀ b ∈ fp,H' b=none)/\W i m ys H':=fun {ys' H' s'} J ⟨m',hm,w'⟩=>by
    refine ⟨m',hm,i+1,ys',H',J.unpinned.weak k8.len.symm k8.at',T.keep _ _ _ st7 fun b hb o e=>(J.pin (b,o) (List.mem_append_right _ (List.mem_append_right _ (mem_pinsAt hb e)))).1,fun b hb => ?_,w'⟩
    obtain ⟨o,e,d⟩:=T.obj _ _ st7 b hb
    exact (J.pin (b,o) (List.mem_append_right _ (List.mem_append_right _ (mem_pinsAt hb e)))).2.1
   cases ok with
   | false=>exact again I9 q9
   | true =>
    have z10:=hEB _ s9 σ8 H9 _ I9 q9
    rw [hBp,hBw,hBA,hBe,hBx] at z10
    refine thn z10 fun y10 s10 ⟨y,H10,I10,r10,hD10,q10⟩ => ?_
    have z11:=mt_append (X:=B) _ s10 σ8 H10 (.ref D) [y] (.ref D) [y10] (fun _ H'=>∃ m',m' < n/\W (i+1) m' (ys ++ [y]) H') I10 rfl (.cons r10 .nil) ⟨D,ys,y,rfl,rfl,hD10,hlen5,q10⟩
    rw [hBp,hBw,hBA,hBx] at z11
    refine thn z11 fun _ s11 ⟨_,H11,I11,_,q11⟩=>again I11 q11
 have st4:tn 0 ({ s3 with heap:=h₁,toks:=s3.toks }:Shared).heap:=T.keep _ _ _ st2 fun b hb o e=>hk3 b o (by rw [hh3]; exact Heap.get?_push_of_some _ e)
 have L4:=loop _ I4 st4
 subst hs3
 exact codeAny_compStart_list L4 (T.self _ 0 _ _ _ st4 L4)
end L2
namespace L2
open PySem PySem.Spec PyProof.Rows
def Bt (n:Nat)(x:Int):Prop:=x.natAbs < 2 ^ n
theorem Bt.bits {n:Nat}{x:Int}(h:Bt n x):Builtin.Int.intBits x<=n:=intBits_le_iff.mpr h
theorem Bt.of_bits {n:Nat}{x:Int}(h:Builtin.Int.intBits x<=n):Bt n x:=intBits_le_iff.mp h
theorem Bt.mono {m n:Nat}{x:Int}(h:Bt m x)(hn:m<=n):Bt n x:=Nat.lt_of_lt_of_le h (Nat.pow_le_pow_right (by decide) hn)
theorem Bt.mul {m n:Nat}{x y:Int}(h:Bt m x)(h':Bt n y):Bt (m+n) (x*y):=.of_bits (intBits_mul_le h.bits h'.bits)
theorem Bt.add {m:Nat}{x y:Int}(h:Bt m x)(h':Bt m y):Bt (m+1) (x+y):=.of_bits (by have:=intBits_add_le h.bits h'.bits; rwa [Nat.max_self] at this)
theorem Bt.le {m:Nat}{x y:Int}(h:Bt m y)(h0:0<=x)(hy:x<=y):Bt m x:=by
 unfold Bt at *
 omega
theorem log_of {n:Nat}{x:Int}(h:Bt n x)(hp:0 < x)(hn:n<=9000):x.natAbs.log2 < 9000:=by
 have:x.natAbs.log2 < n:=(Nat.log2_lt (by omega)).mpr h
 omega
def CMulB (i j:Int):Prop:=Bt 1000000 i/\Bt 1000000 j
def CDivB (_i j:Int):Prop:=0 < j/\Bt 9000 j
def CPowB (i j:Int):Prop:=0<=j/\j<=1000/\Bt 1000 i
section
variable {X:Cx}
theorem op_mulB:OpR X (binaryOp .Mult) (rI CMulB fun i j=>.int (i*j)):=opI fun _ _ _ _ _ _ _ hc q=>mul_int q (.of_bits (Nat.le_trans hc.1.bits (by decide)) (Nat.le_trans hc.2.bits (by decide)))
theorem op_fdivB:OpR X (binaryOp .FloorDiv) (rI CDivB fun i j=>.int (i / j)):=opI fun i j _ _ _ _ _ hc q=>by
 have h1:(0:Int) < j:=hc.1
 rw [<- Int.fdiv_eq_ediv_of_nonneg i (Int.le_of_lt h1)] at q
 exact floordiv_int (by omega) q (.inl (PyProof.noPylong_of_log2 (log_of hc.2 h1 (Nat.le_refl _))))
theorem op_powB:OpR X (binaryOp .Pow) (rI CPowB fun i j=>.int (i ^ j.toNat)):=opI fun i j _ _ _ _ _ hc q=>by
 obtain ⟨h0,h1,h2⟩:=hc
 refine PyProof.Rows.pow_int h0 ?_ q
 have b:=h2.bits
 have e:(2:Int) ^ 27=134217728:=by decide
 have:=Int.mul_le_mul (show (Builtin.Int.intBits i:Int)<=1000 by omega) h1 h0 (by decide)
 omega
theorem deq_ints {K:PySem.W.Frag}{H:Hp}{n:Nat}(ns ms:List Int) : ∀ (j:Nat) x y,(ns.map V.int)[j]?=some x->(ms.map V.int)[j]?=some y->DEq K H n x y (ns[j]? == ms[j]?):=by
 intro j x y h1 h2
 rw [List.getElem?_map] at h1 h2
 cases e1:ns[j]? with
 | none=>rw [e1] at h1; cases h1
 | some a =>
  cases e2:ms[j]? with
  | none=>rw [e2] at h2; cases h2
  | some b =>
   rw [e1] at h1
   rw [e2] at h2
   cases h1
   cases h2
   have:(some a == some b)=eqV (V.int a) (V.int b):=by
    show (a == b)=(a == b)
    rfl
   rw [this]
   exact DEq.flat rfl rfl
theorem all_ints : ∀ (ns ms:List Int),((List.range (min ns.length ms.length)).all (fun j=>ns[j]? == ms[j]?) && ns.length == ms.length)=decide (ns=ms):=by
 intro ns ms
 rw [Bool.eq_iff_iff]
 simp only [Bool.and_eq_true,List.all_eq_true,List.mem_range,beq_iff_eq,decide_eq_true_eq]
 constructor
 ·rintro ⟨h,hl⟩
  refine List.ext_getElem? fun i => ?_
  by_cases hi:i < ns.length
  ·exact h i (by omega)
  ·rw [List.getElem?_eq_none (by omega),List.getElem?_eq_none (by omega)]
 ·rintro rfl
  exact ⟨fun _ _=>rfl,rfl⟩
def rEqI (K:PySem.W.Frag):R2:=fun x y H Q=>∃ a b,∃ ns ms:List Int,x = .ref a/\y = .ref b/\SqT K H a (ns.map V.int)/\SqT K H b (ms.map V.int)/\Q (.bl (decide (ns=ms))) H
def rNeI (K:PySem.W.Frag):R2:=fun x y H Q=>∃ a b,∃ ns ms:List Int,x = .ref a/\y = .ref b/\SqT K H a (ns.map V.int)/\SqT K H b (ms.map V.int)/\Q (.bl (!decide (ns=ms))) H
theorem op_eqI (hu:X.A.units+64 < cLine):OpR X (compareOp .Eq) (rEqI X.K):=by
 intro pins s σ H x y v u Q I rx ry h
 obtain ⟨a,b,ns,ms,rfl,rfl,hx,hy,q⟩:=h
 refine op_eqT hu pins s σ H _ _ v u Q I rx ry ⟨a,b,_,_,fun j=>ns[j]? == ms[j]?,rfl,rfl,hx,hy,deq_ints ns ms,?_⟩
 rw [List.length_map,List.length_map,all_ints]
 exact q
theorem nes_at {pins:List (Addr × Obj)}{σ:St}{H:Hp}{s:Shared}(I:Inv X pins σ H s){A:Around}{a b:Addr}{xs ys:List V}{e:Nat->Bool}(hx:SqT X.K H a xs)(hy:SqT X.K H b ys)(hu:A.units < cLine)
  (hd : ∀ (j:Nat) x y u v,xs[j]?=some x->ys[j]?=some y->RelV x u->RelV y v->SeqAt.EqAt A.in1 s u v (e j)) :
  SeqAt.RcNeAt A s (.ref a) (.ref b) (!((List.range (min xs.length ys.length)).all e && xs.length == ys.length)):=by
 obtain ⟨its,r,tx,_⟩:=I.tuple hx
 obtain ⟨its',r',ty,_⟩:=I.tuple hy
 have l1:=r.length
 have l2:=r'.length
 have q:=SeqAt.RcNeAt.tuples (A:=A) (e:=e) tx ty hu (fun j h1 h2 => ?_)
 ·rw [List.size_toArray,List.size_toArray,<- l1,<- l2] at q
  exact q
 ·rw [List.size_toArray] at h1 h2
  obtain ⟨x,hxj⟩ : ∃ x,xs[j]?=some x:=⟨_,List.getElem?_eq_getElem (by omega)⟩
  obtain ⟨y,hyj⟩ : ∃ y,ys[j]?=some y:=⟨_,List.getElem?_eq_getElem (by omega)⟩
  obtain ⟨u1,hu1,ru1⟩:=r.get hxj
  obtain ⟨u2,hu2,ru2⟩:=r'.get hyj
  have e1:its.toArray[j]=u1:=by
   have:=(List.getElem?_eq_some_iff.mp hu1).2
   simpa using this
  have e2:its'.toArray[j]=u2:=by
   have:=(List.getElem?_eq_some_iff.mp hu2).2
   simpa using this
  rw [e1,e2]
  exact hd j x y u1 u2 hxj hyj ru1 ru2
theorem op_neT (hu:X.A.units+64 < cLine):OpR X (compareOp .NotEq) (rNeT X.K):=by
 intro pins s σ H x y v u Q I rx ry h
 obtain ⟨a,b,xs,ys,e,rfl,rfl,hx,hy,hd,q⟩:=h
 cases rx; cases ry
 exact nes_at I hx hy (by omega) (fun j x y u v h1 h2 r1 r2=>(hd j x y h1 h2).at I (by show X.A.units+1+40 < cLine; omega) r1 r2) X.prog X.w X.xe _ ⟨.bl _,H,I,rfl,q⟩
end
end L2
namespace L2
open PySem PySem.Spec PyProof.Rows
section
variable {X:Cx}
theorem call_sum (hc:X.calm=true):CallR X (.builtin "sum") (fun xs H Q=>∃ p,∃ ns:List Int,xs=[.ref p]/\SqL X.K H p (ns.map V.int)/\Q (.int ns.sum) H):=by
 intro pins s σ H xs us Q I r h
 obtain ⟨p,ns,rfl,hq,q⟩:=h
 obtain ⟨u,rfl,rx⟩:=vals1 r
 cases rx
 obtain ⟨its,r',pl,hz⟩:=I.list hq
 have hi:=intsAre_of r'
 obtain ⟨ys,e⟩:=(hi.allInts).items
 have hl:s.heap.IsList p (intItems ys):=e ▸ pl.isList
 refine sum_intListG (I.ok.hd hc) hl fun h' tk t' hk => ?_
 refine ⟨.int ns.sum,H,I.kept hk,⟨t',?_⟩,q⟩
 have e1:numsOf its=ns:=hi.numsOf
 have e2:numsOf (intItems ys).toList=numsOf its:=by rw [<- e]
 rw [nums_intItems,e1] at e2
 rw [preSum_eq,List.take_of_length_le (by simp),e2]
def tIt (K:PySem.W.Frag)(i k:Nat):TE:=fun σ H Q=>∃ p xs v,σ[i]?=some (some (.ref p))/\SqT K H p xs/\xs[k]?=some v/\Q v H
theorem pit (i k:Nat){x:Str}{p q:Pos}{j:Nat}(hN:X.N[i]?=some x:=by rfl)(hv:Vis X.env.scope x:=by first | exact Or.inl rfl | exact Or.inr (Or.inl rfl) | exact Or.inr (Or.inr rfl))(hd:(x == ("__debug__" : Str))=false:=by decide)
  (hcd:(x == ("__classdict__" : Str))=false:=by decide) {pos:Pos}:PE X (.Subscript (.Name x p) (.Constant (.int (k:Int)) j q) pos) (tIt X.K i k):=by
 intro pins s σ H Q I h
 obtain ⟨a,xs,v,e,hs,hk,q⟩:=h
 exact pe_ix ix_tup (pe_var hN hv hd hcd) pe_int (fun _ _=>rfl) pins s σ H Q I ⟨_,e,a,xs,(k:Int),v,rfl,rfl,hs,atI_nat hk,q⟩
structure Cal (P:Program)(w:World)(K:PySem.W.Frag)(mg:Str->Option Value)(base:Heap)(CX:CXT)(k:Nat)(x:Str)(ps:List Str)(sp:Sp):Prop where
 ex : ∃ (f:Addr) (fd:FuncData),mg x=some (.ref f)/\PySem.W.keepIn K (.ref f)=true/\Binds K fd ps []/\FnOk P w K mg base CX k f fd ps sp
theorem pe_cal {CX:CXT}{k:Nat}{x:Str}{ps:List Str}{sp:Sp}{E:XK}{e:Expr}{es:List Expr}{t:TA}{p pos:Pos}(C:Cal X.prog X.w X.K X.mg X.base CX k x ps sp)(hr:Room k X.A)(hg:Gl X x)(hx:Passes CX X E)
  (ha:PA X (e :: es) t) (hdb:(x == ("__debug__" : Str))=false:=by decide) (he:starEach (e :: es) X.env=(false,eval e X.env) :: starEach es X.env:=by rfl) (hpl:(backTo pos (starEach es X.env)).any (·.1)=false:=by rfl) :
  PE X (.Call (.Name x p) (e :: es) [] pos) (tCall sp [] E t):=by
 obtain ⟨f,fd,hm,hk,hb,F⟩:=C.ex
 exact pe_call F hr hg hm hk hb .nil hx ha hdb he hpl
theorem Cal.mono {P:Program}{w:World}{K:PySem.W.Frag}{mg:Str->Option Value}{base:Heap}{CX:CXT}{j k:Nat}{x:Str}{ps:List Str}{sp:Sp}(C:Cal P w K mg base CX j x ps sp)(h:j<=k):Cal P w K mg base CX k x ps sp:=by
 obtain ⟨f,fd,hm,hk,hb,F⟩:=C.ex
 exact ⟨f,fd,hm,hk,hb,F.mono h⟩
end
theorem Same.tup {K:PySem.W.Frag}{H H':Hp}{a:Addr}{xs:List V}(e:Same H H')(h:SqT K H a xs):SqT K H' a xs:=by
 rcases h with (h | ⟨o,h⟩) | h
 ·exact .inl (.inl (e _ _ h))
 ·exact .inl (.inr ⟨o,e _ _ h⟩)
 ·exact .inr h
theorem Same.upd {H:Hp}{a:Addr}{o:HO}(h:H a=none):Same H (upd H a o):=fun b u e=>by
 rw [upd_ne (ne_of_none e h)]
 exact e
def RetT (H:Hp)(Q:VK)(ns:List Int):Prop:=∀ p H',Same H H'->H' p=some (.tup (ns.map V.int))->Q (.ref p) H'
end L2
namespace L2
open PySem PySem.Spec PyProof.Rows PySem.W
structure ExK (K:Frag)(C:Addr):Prop where
 ga:findIn K (.ref C) "__getattribute__" = some (some (.builtin "BaseException.__getattribute__"))
 gt:findIn K (.ref C) "__getattr__" = some none
 cl:findIn K (.ref C) "__class__" = some (some (.builtin "object.__class__"))
 sb:subIn K (.ref C) (.type "BaseException")=some true
 so:subIn K (.ref C) (.type "object")=some true
 ci:(clsIn K C).isSome=true
structure ExAt (h:Heap)(a:Addr)(o:Obj)(C:Addr):Prop where
 at_:h.get? a=some o
 cls:o.cls = .ref C
theorem ExAt.type {M:Model}{h:Heap}{a C:Addr}{o:Obj}(I:ExAt h a o C):Looks M h (typeOf (.ref a)) (.ref C):=by
 rw [<- I.cls]
 exact (Looks.ld I.at_).andThen .now
section
variable {prog:Program}{w:World}{A:Around}{E:Value->Shared->Prop}{h:Heap}{g:Array GenState}{d:Drawn}{t:Nat}{os:OsState}{a C:Addr}{o:Obj}{K:Frag}
theorem exc_class_get {R:Result->Shared->Prop}(X:K.In h)(F:ExK K C)(I:ExAt h a o C)(hq:R (.ok (.ret (.ref C))) ⟨h,g,d,t,os⟩) :
  codeAny (model prog w) A (.call (.builtin "getset_descriptor.__get__") ⟨[.builtin "object.__class__",.ref a,.ref C],[]⟩) R ⟨h,g,d,t,os⟩:=by
 have hT5:(⟨h,g,d,t,os⟩:Shared).TypeIs (.builtin "object.__class__") "getset_descriptor" := PySem.F.typeOf_object_class
 have hx:=I.at_
 have hc:=I.cls
 have L1:=looks_subIn (M:=model prog w) X F.so
 rw [<- PySem.F.owner_object_class] at L1
 refine codeAny_call_builtin PySem.F.slot_gs_get.plain PySem.F.entry_gs_get (PySem.F.slot_gs_get.check _ _ _ _ _ _ _ _ hT5 (PySem.F.args_gs_get _ _ _) ?_)
 repeat (any_goals (first | assumption | (with_reducible refine wpAny_loadPart_at hx ?_; rw [hc]) | with_reducible refine L1.at ?_ | wp_step))
 refine ⟨Code.quiet_builtin _ (by decide +kernel),codeAny_builtin PySem.F.entry_object_class ?_⟩
 repeat (any_goals (first | assumption | (with_reducible refine wpAny_loadPart_at hx ?_; rw [hc]) | wp_step))
theorem exc_class_entry {tk:Tok}{Q:Fin->Shared->Prop}(X:K.In h)(F:ExK K C)(I:ExAt h a o C)(hq:Q (.done (.ret (.ref C))) ⟨h,g,d,t,os⟩) :
  wpAny (model prog w) A (Builtin.«object.__getattribute__» ⟨[.ref a,.str "__class__" tk],[]⟩) Q E ⟨h,g,d,t,os⟩:=by
 have L1:=looks_findIn (M:=model prog w) X F.cl
 have hT5:(⟨h,g,d,t,os⟩:Shared).TypeIs (.builtin "object.__class__") "getset_descriptor" := PySem.F.typeOf_object_class
 have f5:=PySem.F.typeOf_object_class
 have f6:=PySem.F.slot_gs_get.lookup
 have f7:=PySem.F.slot_gs_set.lookup
 have hx:=I.at_
 have hc:=I.cls
 repeat (any_goals (first | assumption | (with_reducible refine wpAny_loadPart_at hx ?_; rw [hc]) | with_reducible refine L1.at ?_ | wp_step))
 refine exc_class_get X F I ?_
 repeat (any_goals (first | assumption | wp_step))
theorem exc_check_ga {M:Model}{nameV:Value}{Q:Unit->Shared->Prop}(X:K.In h)(F:ExK K C)(I:ExAt h a o C)(hq:Q () ⟨h,g,d,t,os⟩):wpAny M A (checkBuiltinCall "BaseException.__getattribute__" ⟨[.ref a,nameV],[]⟩) Q E ⟨h,g,d,t,os⟩:=by
 have hk:builtinKind "BaseException.__getattribute__" = some .slot:=by decide +kernel
 have hsplit:splitId "BaseException.__getattribute__" = some ("BaseException","__getattribute__"):=by decide +kernel
 have L2':=looks_subIn (M:=M) X F.sb
 have ha:=PySem.F.args_bexc_ga (.ref a) nameV
 have hx:=I.at_
 have hc:=I.cls
 simp only [checkBuiltinCall,hk,hsplit]
 refine wpAny_bind ?_
 ·unfold isInstance
  repeat (first | (with_reducible refine wpAny_loadPart_at hx ?_; rw [hc]) | with_reducible refine L2'.at ?_ | wp_step)
  exact hq
theorem exc_class_call {tk:Tok}{R:Result->Shared->Prop}(X:K.In h)(F:ExK K C)(I:ExAt h a o C)(hq:R (.ok (.ret (.ref C))) ⟨h,g,d,t,os⟩) :
  codeAny (model prog w) A (.call (.builtin "BaseException.__getattribute__") ⟨[.ref a,.str "__class__" tk],[]⟩) R ⟨h,g,d,t,os⟩ :=
 codeAny_call_builtin PySem.F.attr_ValueError.ga.plain PySem.F.entry_bexc_ga (exc_check_ga X F I (exc_class_entry X F I hq))
theorem exc_class_by {tk:Tok}{fill expr:Bool}{Q:Value->Shared->Prop}(X:K.In h)(F:ExK K C)(I:ExAt h a o C)(hq:Q (.ref C) ⟨h,g,d,t,os⟩) :
  wpAny (model prog w) A (getAttrBy (.ref a) (.str "__class__" tk) fill expr) Q E ⟨h,g,d,t,os⟩:=by
 have f3:=PySem.F.attr_ValueError.ga.bind (.ref a)
 have hx0:(expr && onTheHeap (Value.builtin "BaseException.__getattribute__"))=false:=by cases expr <;> rfl
 have hx2:(Value.builtin "BaseException.__getattribute__" == Value.builtin "object.__getattribute__")=false:=by decide +kernel
 have hx1:(onTheHeap (Value.ref C) && Value.builtin "BaseException.__getattribute__" == Value.builtin "object.__getattribute__")=false:=by rw [hx2]; rfl
 have L1:=looks_findIn (M:=model prog w) X F.ga
 have L2':=looks_findIn (M:=model prog w) X F.gt
 have hx:=I.at_
 have hc:=I.cls
 repeat (any_goals (first | assumption | (with_reducible refine wpAny_loadPart_at hx ?_; rw [hc]) | with_reducible refine L1.at ?_ | with_reducible refine L2'.at ?_ | wp_step))
 refine exc_class_call X F I ?_
 repeat (any_goals (first | assumption | wp_step))
theorem exc_class_attr {Q:Option Value->Shared->Prop}(X:K.In h)(F:ExK K C)(I:ExAt h a o C)(hq:Q (some (.ref C)) ⟨h,g,d,t+1,os⟩) :
  wpAny (model prog w) A (getAttr? (.ref a) "__class__") Q E ⟨h,g,d,t,os⟩:=by
 unfold getAttr? getAttrBy?
 repeat (any_goals (first | assumption | with_reducible apply exc_class_by X F I | wp_step))
end
theorem kitx_exc {K:Frag}{a C:Addr}{o:Obj}(F:ExK K C):KitX K (.ref a) (.ref C) (fun h=>ExAt h a o C) where
 ty:=fun M h X I=>I.type
 it:=fun M h X I=>by
  have hcD:=F.ci
  unfold clsIn at hcD
  split at hcD
  ·rename_i c' d' cd' sl' ho
   intro A' Q' E' s' k q
   unfold isType loadHead
   exact wpAny_bind (wpAny_loadPart (k _ _ (X _ _ ho)) (wpAny_pure q))
  ·cases hcD
 ne:=fun h tp dd its n sl X htp=>by
  have hcD:=F.ci
  refine Bool.eq_false_iff.mpr fun q => ?_
  have e:C=tp:=Value.ref.inj (beq_iff_eq.mp q)
  subst e
  unfold clsIn at hcD
  split at hcD
  ·rename_i c' d' cd' sl' ho
   have:=X _ _ ho
   rw [htp] at this
   cases this
  ·cases hcD
 ca:=fun {prog w A E Q s} X I hq=>by
  obtain ⟨hh,g,d,t,os⟩:=s
  exact exc_class_attr X F I hq
def excO (a C:Addr):HO:=.ext fun h=>∃ o,ExAt h a o C
section
variable {X:Cx}
end
end L2
namespace L2
open PySem PySem.Spec PyProof.Rows PySem.W
theorem dict_mf (o:Obj)(f:Array Value->Array Value):(Obj.mapFields f o).dict=o.dict:=by
 unfold Obj.mapFields
 split <;> rfl
def TrD (h base:Heap)(e:Addr)(cls:Value)(dd:Option Addr)(fl:Value):Prop :=
 ∃ (ob tb:Obj) (us ts:Array Value) (T:Addr),(h.get? e=some ob/\ob.data = .fields us/\ob.cls=cls/\ob.dict=dd)/\us[1]?=some (.ref T)/\(base.get? T=none/\T ≠ e)/\h.get? T=some tb/\tb.data = .fields ts/\ts[3]?=some fl
structure FlyD (base:Heap)(l:List Env)(e:Addr)(cls:Value)(dd:Option Addr)(fl:Value)(h:Heap):Prop where
 st:base.StaysIn h
 no:base.get? e=none
 fr:h.FunFrames base l
 tr:TrD h base e cls dd fl
theorem FlyD.at {base h:Heap}{l:List Env}{e:Addr}{cls fl:Value}{dd:Option Addr}(x:FlyD base l e cls dd fl h) : ∃ ob us,h.get? e=some ob/\ob.cls=cls/\ob.dict=dd/\ob.data = .fields us:=by
 obtain ⟨ob,_,us,_,_,⟨a,b,c,d⟩,_⟩:=x.tr
 exact ⟨ob,us,a,c,d,b⟩
section
variable {M:Model}{A:Around}{E:Value->Shared->Prop}{s:Shared}{base:Heap}{env:Env}{outer:List Env}{L e:Addr}{Q:Unit->Shared->Prop}{cls:Value}{dd:Option Addr}
theorem entryD {ob:Obj}{us:Array Value}{head:Value}{had:Bool}(frs:A.frames=some (env :: outer))(ff:s.heap.FunFrames base (env :: outer))(fL:env.frame=some L)
  (ge:s.heap.get? e=some ob) (st:base.StaysIn s.heap) (no:base.get? e=none) (du:ob.data = .fields us) (sz:1 < us.size)
  (k : ∀ h',FlyD base (env :: outer) e ob.cls ob.dict (rawInt L) h'->s.heap.UpToSlots h'->Q () { s with heap:=h' }) :
  wpAny M A (do let fo <- frameOf env; let pl <- entryPlaceOf L had; let row <- EntryCells.newEntry head fo .none (rawInt L) .none pl; setField (.ref e) 1 row) Q E s:=by
 have eNot:e ∉ (env :: outer).filterMap (·.frame):=fun mem=>by
  obtain ⟨_,o',g',nf⟩:=ff.mem mem
  cases ge.symm.trans g'
  exact nf us du
 refine wpAny_bind (wpAny_frameOf_fun frs ff fL fun h1 only=>wpAny_bind (wpAny_entryPlaceOf fun pl plOk => ?_))
 unfold EntryCells.newEntry newFields
 refine wpAny_bind (wpAny_newObj_type ?_ (plOk.sizeOk5 _ _ _ _ _))
 have g1:h1.get? e=some ob:=(only.2.1 e eNot).trans ge
 have st1:base.StaysIn h1:=fun b o q=>(only.2.1 b fun mem=>by
  rw [(ff.mem mem).1] at q
  cases q).trans (st b o q)
 generalize hrow:({ cls:=.type "traceback",dict:=none,data:=.fields ([head,.ref L,.none,rawInt L,.none] ++ (if pl.isEmpty then List.replicate 6 Value.none else pl)).toArray }:Obj)=row
 have g2:(h1.push row).get? e=some ob:=Heap.get?_push_of_some row g1
 have Tne:h1.objs.size ≠ e:=Nat.ne_of_gt (Heap.lt_size g1)
 have du':=Obj.data_mapFields du (·.setIfInBounds 1 (Value.ref h1.objs.size))
 have gT:(h1.push row).get? h1.objs.size=some row:=Heap.get?_push_size h1 (by rw [<- hrow]; rfl)
 have old : ∀ b o,b ≠ e->h1.get? b=some o->((h1.push row).update e (Obj.mapFields (·.setIfInBounds 1 (Value.ref h1.objs.size)))).get? b=some o:=fun b o nb q=>by
  rw [Heap.get?_update_other _ _ (Ne.symm nb)]
  exact Heap.get?_push_of_some row q
 have nofld : ∀ b o,s.heap.get? b=some o->(∀ vs,o.data ≠ .fields vs)->b ≠ e:=fun b o q nf z=>by
  subst z
  cases ge.symm.trans q
  exact nf us du
 refine wpAny_setField g2 du sz (k _ ⟨fun b o q=>old b o ?_ (st1 b o q),no,ff.of_keeps fun b o q nf => ?_,?_⟩ fun b o q nf => ?_)
 ·rintro rfl
  rw [no] at q
  cases q
 ·obtain ⟨sl,z⟩:=only.2.2 b o q
  exact ⟨_,old b _ (nofld b o q nf) z,rfl⟩
 ·refine ⟨_,row,_,([head,.ref L,.none,rawInt L,.none] ++ (if pl.isEmpty then List.replicate 6 Value.none else pl)).toArray,h1.objs.size,⟨Heap.get?_update_self _ g2 (Obj.isFreed_of_fields du'),du',Obj.cls_mapFields _ _,dict_mf _ _⟩,by simp [sz],⟨?_,Tne⟩,?_,by rw [<- hrow],by simp⟩
  ·cases z:base.get? h1.objs.size with
   | none=>rfl
   | some o=>exact absurd (Heap.lt_size (st1 _ _ z)) (Nat.lt_irrefl _)
  ·rw [Heap.get?_update_other _ _ (Ne.symm Tne)]
   exact gT
 ·obtain ⟨sl,z⟩:=only.2.2 b o q
  exact ⟨sl,old b _ (nofld b o q nf) z⟩
theorem flightD {l:List Env}{fl:Value}(F:FlyD base l e cls dd fl s.heap)(k : ∀ h',FlyD base l e cls dd .none h'->s.heap.UpToSlots h'->Q () { s with heap:=h' }):wpAny M A (setFlight (.ref e) none) Q E s:=by
 obtain ⟨st,no,ff,ob,tb,us,ts,T,⟨ge,du,cc,cd⟩,u1,⟨nT,Tne⟩,gT,dt,t3⟩:=F
 unfold setFlight
 refine wpAny_bind (wpAny_field ge du u1 ?_)
 rw [if_pos (show (Value.ref T != Value.none)=true from rfl)]
 have z3:3 < ts.size:=(Array.getElem?_eq_some_iff.mp t3).1
 have dt':=Obj.data_mapFields dt (·.setIfInBounds 3 ((none:Option Addr).elim Value.none fun f=>rawInt f))
 have old : ∀ b,b ≠ T->(s.heap.update T (Obj.mapFields (·.setIfInBounds 3 ((none:Option Addr).elim Value.none fun f=>rawInt f)))).get? b=s.heap.get? b:=fun b nb=>Heap.get?_update_other _ _ (Ne.symm nb)
 have nofld : ∀ b o,s.heap.get? b=some o->(∀ vs,o.data ≠ .fields vs)->b ≠ T:=fun b o q nf z=>by
  subst z
  cases gT.symm.trans q
  exact nf ts dt
 refine wpAny_setField gT dt z3 (k _ ⟨fun b o q => ?_,no,ff.of_keeps fun b o q nf=>⟨o,(old b (nofld b o q nf)).trans q,rfl⟩,?_⟩ fun b o q nf=>⟨o.slots,(old b (nofld b o q nf)).trans q⟩)
 ·refine (old b ?_).trans (st b o q)
  rintro rfl
  rw [nT] at q
  cases q
 ·exact ⟨ob,_,us,_,T,⟨(old e (Ne.symm Tne)).trans ge,du,cc,cd⟩,u1,⟨nT,Tne⟩,Heap.get?_update_self _ gT (Obj.isFreed_of_fields dt'),dt',by simp [z3]⟩
theorem note1D {ob:Obj}{us:Array Value}(frs:A.frames=some (env :: outer))(ff:s.heap.FunFrames base (env :: outer))(fL:env.frame=some L)
  (ge:s.heap.get? e=some ob) (st:base.StaysIn s.heap) (no:base.get? e=none) (du:ob.data = .fields us) (u1:us[1]?=some .none)
  (k : ∀ h',FlyD base (env :: outer) e ob.cls ob.dict (rawInt L) h'->s.heap.UpToSlots h'->Q () { s with heap:=h' }):wpAny M A (noteFrame (.ref e) env) Q E s:=by
 unfold noteFrame
 simp only [fL]
 refine wpAny_bind (wpAny_field ge du u1 ?_)
 rw [if_neg (by decide)]
 exact entryD frs ff fL ge st no du (Array.getElem?_eq_some_iff.mp u1).1 k
theorem noteD (frs:A.frames=some (env :: outer))(fL:env.frame=some L)(F:FlyD base (env :: outer) e cls dd .none s.heap)
  (k : ∀ h',FlyD base (env :: outer) e cls dd (rawInt L) h'->s.heap.UpToSlots h'->Q () { s with heap:=h' }):wpAny M A (noteFrame (.ref e) env) Q E s:=by
 obtain ⟨st,no,ff,ob,tb,us,ts,T,⟨ge,du,cc,cd⟩,u1,⟨nT,Tne⟩,gT,dt,t3⟩:=F
 subst cc cd
 unfold noteFrame
 simp only [fL]
 refine wpAny_bind (wpAny_field ge du u1 ?_)
 rw [if_pos (show (Value.ref T != Value.none)=true from rfl)]
 refine wpAny_bind (wpAny_field gT dt t3 ?_)
 rw [if_neg (show ¬ ((Value.none == rawInt L)=true) from by simp [rawInt])]
 have z3:3 < ts.size:=(Array.getElem?_eq_some_iff.mp t3).1
 have old : ∀ b,b ≠ T->(s.heap.update T (Obj.mapFields (·.setIfInBounds 3 Value.none))).get? b=s.heap.get? b:=fun b nb=>Heap.get?_update_other _ _ (Ne.symm nb)
 have nofld : ∀ b o,s.heap.get? b=some o->(∀ vs,o.data ≠ .fields vs)->b ≠ T:=fun b o q nf z=>by
  subst z
  cases gT.symm.trans q
  exact nf ts dt
 refine wpAny_bind (wpAny_setField gT dt z3 ?_)
 refine entryD frs (ff.of_keeps fun b o q nf=>⟨o,(old b (nofld b o q nf)).trans q,rfl⟩) fL ((old e (Ne.symm Tne)).trans ge) (fun b o q => ?_) no du (Array.getElem?_eq_some_iff.mp u1).1 fun h' F' up=>k h' F' fun b o q nf=>up b o ((old b (nofld b o q nf)).trans q) nf
 refine (old b ?_).trans (st b o q)
 rintro rfl
 rw [nT] at q
 cases q
theorem FlyD.tail {h:Heap}{fl:Value}(F:FlyD base (env :: outer) e cls dd fl h):FlyD base outer e cls dd fl h:=⟨F.st,F.no,F.fr.2.2,F.tr⟩
theorem leave1D {ob:Obj}{us:Array Value}(frs:A.frames=some (env :: outer))(ff:s.heap.FunFrames base (env :: outer))(fL:env.frame=some L)
  (ge:s.heap.get? e=some ob) (st:base.StaysIn s.heap) (no:base.get? e=none) (du:ob.data = .fields us) (u1:us[1]?=some .none)
  (k : ∀ h',FlyD base outer e ob.cls ob.dict .none h'->s.heap.UpToSlots h'->Q () { s with heap:=h' }):wpAny M A (leaving env (.ref e)) Q E s:=by
 unfold leaving
 exact wpAny_bind (note1D frs ff fL ge st no du u1 fun h' F' up=>flightD F' fun h'' F'' up'=>k h'' F''.tail (up.trans up'))
theorem leaveD (frs:A.frames=some (env :: outer))(fL:env.frame=some L)(F:FlyD base (env :: outer) e cls dd .none s.heap)
  (k : ∀ h',FlyD base outer e cls dd .none h'->s.heap.UpToSlots h'->Q () { s with heap:=h' }):wpAny M A (leaving env (.ref e)) Q E s:=by
 unfold leaving
 exact wpAny_bind (noteD frs fL F fun h' F' up=>flightD F' fun h'' F'' up'=>k h'' F''.tail (up.trans up'))
end
end L2
namespace L2
open PySem PySem.Spec PyProof.Rows PySem.W
structure Flx (P:Program)(w:World)(outer:List Env)(H:Hp)(s:Shared)(H':Hp)(ea:Addr)(cls:Value)(dd:Option Addr)(s':Shared):Prop where
 os:s'.os=s.os
 bare:AllBare s'.gens
 un:Un (frs outer) [] H H' s.heap s'.heap
 fl : ∃ B:Heap,HOk P w H' B/\FlyD B outer ea cls dd .none s'.heap/\(∀ b o,s.heap.get? b=some o->H b=none->b ∉ frs outer->B.get? b=some o)/\(∀ b o,s.heap.get? b=some o->b ∉ frs outer->∃ o',B.get? b=some o')
def CXg (P:Program)(w:World):CXT:=fun outer H s E e s'=>∃ (ea C:Addr) (dd:Option Addr) (H':Hp),e = .ref ea/\Flx P w outer H s H' ea (.ref C) dd s'/\E (.ref C) dd H'
structure OwnF (X:Cx):Prop where
 stk:X.stack=X.env :: X.outer
 fr:X.env.frame=some X.env.locals
 ex:X.ex=[]
section
variable {X:Cx}{pins:List (Addr × Obj)}{σ:St}{H H':Hp}{s s':Shared}
theorem notStk (O:OwnF X)(I:Inv X pins σ H s){b:Addr}{o:Obj}(e:X.s₀.heap.get? b=some o)(hb:b ∉ frs X.outer):b ∉ frs X.stack:=by
 rw [O.stk]
 intro z
 unfold frs at z hb
 rw [List.filterMap_cons,O.fr] at z
 rcases List.mem_cons.mp z with z | z
 ·exact absurd (Nat.lt_of_lt_of_le (Heap.lt_size e) I.ok.above) (by rw [z]; exact Nat.lt_irrefl _)
 ·exact hb z
theorem inStk (O:OwnF X){b:Addr}(hb:b ∈ frs X.outer):b ∈ frs X.stack:=by
 rw [O.stk]
 unfold frs at *
 rw [List.filterMap_cons,O.fr]
 exact List.mem_cons_of_mem _ hb
theorem un_of (O:OwnF X)(I:Inv X pins σ H s){B h':Heap}(u:Un (frs X.stack) [] H H' s.heap s'.heap)(bk : ∀ b o,X.s₀.heap.get? b=some o->X.H₀ b=none->b ∉ frs X.outer->B.get? b=some o)
  (th : ∀ b o,X.s₀.heap.get? b=some o->b ∉ frs X.outer->∃ o',B.get? b=some o') (st:B.StaysIn h') (up:s'.heap.UpToSlots h'):Un (frs X.outer) [] X.H₀ H' X.s₀.heap h':=by
 have noex : ∀ b:Addr,b ∉ X.ex:=fun b z=>by rw [O.ex] at z; cases z
 have slot : ∀ b o,X.s₀.heap.get? b=some o->X.H₀ b=none->b ∈ frs X.outer->∃ sl,h'.get? b=some { o with slots:=sl }:=fun b o e n hb=>by
  obtain ⟨sl,e1⟩:=I.base.slot b o e n hb (noex b)
  have n1:=I.base.free b o e n (noex b)
  obtain ⟨sl2,e2⟩:=u.slot b _ e1 n1 (inStk O hb) (by simp)
  obtain ⟨_,o',ho',hnf⟩:=I.ok.funs.mem hb
  rw [e] at ho'
  cases ho'
  obtain ⟨sl3,e3⟩:=up b _ e2 (fun vs q=>hnf vs q)
  exact ⟨sl3,e3⟩
 refine ⟨fun b o e n hb _=>st b o (bk b o e n hb),fun b o e n hb _=>slot b o e n hb,fun b o e n _ => ?_,fun b o e _ => ?_,fun b xs e=>u.tups _ _ (I.base.tups _ _ e),fun b o x e=>u.frzs _ _ _ (I.base.frzs _ _ _ e),fun b ps e => ?_⟩
 ·obtain ⟨o1,e1⟩:=I.base.there b o e (noex b)
  exact u.free b o1 e1 (I.base.free b o e n (noex b)) (by simp)
 ·by_cases hb:b ∈ frs X.outer
  ·obtain ⟨sl,q⟩:=slot b o e (I.ok.frf b hb) hb
   exact ⟨_,q⟩
  ·obtain ⟨o2,e2⟩:=th b o e hb
   exact ⟨o2,st b o2 e2⟩
 ·obtain ⟨m1,e1⟩:=I.base.tbls b ps e
  obtain ⟨m2,e2⟩:=u.tbls _ _ e1
  exact ⟨m1 ++ m2,by rw [e2,Array.append_assoc]⟩
theorem fly_B (I:Inv X pins σ H s){ea:Addr}(hea:H ea=none):HOk X.prog X.w H (hideAll s.heap (ea :: frs X.stack)):=fun a o e=>(I.hok a o e).stay (fun b u hb q=>hideAll_get _ q fun z=>by
 have n:H b=none:=by
  rcases List.mem_cons.mp z with z | z
  ·rw [z]; exact hea
  ·exact I.stkFree b z
 rcases hb with hb | hb
 ·rw [<- hb] at e; rw [e] at n; cases n
 ·rw [hb] at n; cases n) (fun _ h=>h) (fun _ _ h=>h)
theorem fly_raise (O:OwnF X)(I:Inv X pins σ H s){ea C:Addr}{dd:Option Addr}{ob:Obj}{us:Array Value}{E':Value->Shared->Prop}{Q:Unit->Shared->Prop}(hea:H ea=none)(n0:X.s₀.heap.get? ea=none)(ge:s.heap.get? ea=some ob)
  (hc:ob.cls = .ref C) (hdd:ob.dict=dd) (du:ob.data = .fields us) (u1:us[1]?=some .none)
  (k : ∀ h',Flx X.prog X.w X.outer X.H₀ X.s₀ H ea (.ref C) dd { s with heap:=h' }->Q () { s with heap:=h' }):wpAny (model X.prog X.w) X.A (leaving X.env (.ref ea)) Q E' s:=by
 have nfr:ea ∉ frs X.stack:=fun z=>by
  obtain ⟨_,o',ho',hnf⟩:=I.stack.mem z
  rw [ge] at ho'
  cases ho'
  exact hnf us du
 have hin : ∀ env ∈ X.stack,∀ b,env.frame=some b->b ∈ ea :: frs X.stack:=fun env he b hb=>List.mem_cons_of_mem _ (List.mem_filterMap.mpr ⟨env,he,hb⟩)
 have hfr:X.A.frames=some (X.env :: X.outer):=by rw [<- O.stk]; exact I.ok.frames
 have hl:s.heap.FunFrames (hideAll s.heap (ea :: frs X.stack)) (X.env :: X.outer):=by rw [<- O.stk]; exact funFrames_hide I.stack hin
 have nB:(hideAll s.heap (ea :: frs X.stack)).get? ea=none:=hideAll_none _ (List.mem_cons_self ..)
 have bk : ∀ b o,X.s₀.heap.get? b=some o->X.H₀ b=none->b ∉ frs X.outer->(hideAll s.heap (ea :: frs X.stack)).get? b=some o:=fun b o e n hb=>by
  refine hideAll_get _ (I.base.keep b o e n hb (by rw [O.ex]; simp)) fun z => ?_
  rcases List.mem_cons.mp z with z | z
  ·rw [z,n0] at e; cases e
  ·exact notStk O I e hb z
 have th : ∀ b o,X.s₀.heap.get? b=some o->b ∉ frs X.outer->∃ o',(hideAll s.heap (ea :: frs X.stack)).get? b=some o':=fun b o e hb=>by
  obtain ⟨o1,e1⟩:=I.base.there b o e (by rw [O.ex]; simp)
  refine ⟨o1,hideAll_get _ e1 fun z => ?_⟩
  rcases List.mem_cons.mp z with z | z
  ·rw [z,n0] at e; cases e
  ·exact notStk O I e hb z
 refine leave1D (base:=hideAll s.heap (ea :: frs X.stack)) hfr hl O.fr ge (fun b o q=>of_hideAll _ q) nB du u1 fun h' F' up=>k h' ⟨I.os,I.bare,?_,hideAll s.heap (ea :: frs X.stack),fly_B I hea,by rw [<- hc,<- hdd]; exact F',bk,th⟩
 exact un_of (s':=s) O I Un.refl bk th F'.st up
theorem fly_on (O:OwnF X)(I:Inv X pins σ H s){ea C:Addr}{dd:Option Addr}{E':Value->Shared->Prop}{Q:Unit->Shared->Prop}(F:Flx X.prog X.w X.stack H s H' ea (.ref C) dd s')
  (k : ∀ h',Flx X.prog X.w X.outer X.H₀ X.s₀ H' ea (.ref C) dd { s' with heap:=h' }->Q () { s' with heap:=h' }):wpAny (model X.prog X.w) X.A (leaving X.env (.ref ea)) Q E' s':=by
 obtain ⟨B,hok,fl,bk,th⟩:=F.fl
 have hfr:X.A.frames=some (X.env :: X.outer):=by rw [<- O.stk]; exact I.ok.frames
 have fl':FlyD B (X.env :: X.outer) ea (.ref C) dd .none s'.heap:=by rw [<- O.stk]; exact fl
 have bk0 : ∀ b o,X.s₀.heap.get? b=some o->X.H₀ b=none->b ∉ frs X.outer->B.get? b=some o:=fun b o e n hb =>
  bk b o (I.base.keep b o e n hb (by rw [O.ex]; simp)) (I.base.free b o e n (by rw [O.ex]; simp)) (notStk O I e hb)
 have th0 : ∀ b o,X.s₀.heap.get? b=some o->b ∉ frs X.outer->∃ o',B.get? b=some o':=fun b o e hb=>by
  obtain ⟨o1,e1⟩:=I.base.there b o e (by rw [O.ex]; simp)
  exact th b o1 e1 (notStk O I e hb)
 exact leaveD hfr O.fr fl' fun h' F' up=>k h' ⟨F.os.trans I.os,F.bare,un_of O I F.un bk0 th0 F'.st up,B,hok,F',bk0,th0⟩
end
abbrev cxF (P:Program)(w:World)(K:Frag)(mg:Str->Option Value)(base:Heap)(N:List Str)(qual:Str)(scope:Scope)(f:Addr)(cd:Value)(A:Around)(outer:List Env)(s:Shared)(H:Hp)(E:XK):Cx:=cxOf (CXg P w) P w K mg base N qual scope f cd A outer s H E
section
variable {P:Program}{w:World}{K:Frag}{mg:Str->Option Value}{base:Heap}{N:List Str}{qual:Str}{scope:Scope}{f:Addr}{cd:Value}{A:Around}{outer:List Env}{s:Shared}{H:Hp}{E:XK}
theorem ownF_of:OwnF (cxF P w K mg base N qual scope f cd A outer s H E):=⟨rfl,rfl,rfl⟩
theorem pass_f:Passes (CXg P w) (cxF P w K mg base N qual scope f cd A outer s H E) E:=by
 intro pins σ Hc sc e s' I h
 obtain ⟨ea,C,dd,H',rfl,F,hE⟩:=h
 exact fly_on (X:=cxF P w K mg base N qual scope f cd A outer s H E) ownF_of I F fun h' F'=>⟨ea,C,dd,H',rfl,F',hE⟩
def XeOk (X:Cx)(E:XK):Prop:=∀ (pins:List (Addr × Obj)) (σ:St) (H:Hp) (s:Shared) (ea C:Addr) (ob:Obj) (us:Array Value),Inv X pins σ H s->H ea=none->X.s₀.heap.get? ea=none->s.heap.get? ea=some ob->ob.cls = .ref C->ob.data = .fields us->us[1]?=some .none->E (.ref C) ob.dict H->X.xe (.ref ea) s
theorem xe_f:XeOk (cxF P w K mg base N qual scope f cd A outer s H E) E:=by
 intro pins σ Hc sc ea C ob us I hea n0 ge hc du u1 hE
 exact fly_raise (X:=cxF P w K mg base N qual scope f cd A outer s H E) ownF_of I hea n0 ge hc rfl du u1 fun h'' F'=>⟨ea,C,ob.dict,Hc,rfl,F',hE⟩
theorem Fun.okF {x:Str}{st:Stmt}{fd:FuncData}{ps:List Str}{k:Nat}{sp:Sp}(F:Fun K x qual st f fd)(S:FnScope N ps (defScope st))(len : ∀ vs H Q E,sp vs H Q E->vs.length=ps.length)
  (hbody : ∀ (cdv:Value) (A:Around) (outer:List Env) (s:Shared) (H:Hp) (vs:List V) (Q:VK) (E:XK),Room k (A.deeper (envOfC qual (defScope st) s.heap.objs.size f cdv))->sp vs H Q E ->
   ∃ t,PSs (cxF P w K mg base N qual (defScope st) f cdv A outer s H E) (defBody st) t/\t { nx:=fun _ H'=>Q .non H',rt:=Q } (start N vs) H):FnOk P w K mg base (CXg P w) (k+1) f fd ps sp:=by
 obtain ⟨oc,od,kV,doc,pm,an,cdv,ct,osl,rfl,lk,hcd⟩:=F.ex
 exact fn_of lk hcd S len fun A outer s H vs Q E hr hsp=>hbody cdv A outer s H vs Q E hr hsp
end
end L2
namespace L2
open PySem PySem.Spec PyProof.Rows PySem.W
structure CtK (K:Frag)(D:Addr):Prop where
 ty:typeIn K (.ref D)=some (.type "type")
 ci:(clsIn K D).isSome=true
 sb:subIn K (.ref D) (.type "BaseException")=some true
theorem exc_matches {M:Model}{A:Around}{E:Value->Shared->Prop}{h:Heap}{g:Array GenState}{d:Drawn}{t:Nat}{os:OsState}{e C D:Addr}{o:Obj}{K:Frag}{Q:Bool->Shared->Prop}(X:K.In h)(I:ExAt h e o C)(F:CtK K D)(hs:subIn K (.ref C) (.ref D)=some true)
  (hq:Q true ⟨h,g,d,t,os⟩):wpAny M A (excMatches (.ref e) (.ref D)) Q E ⟨h,g,d,t,os⟩:=by
 have L1:=looks_typeIn (M:=M) X F.ty
 have L2':Looks M h (isType (.ref D)) true:=by
  have hcD:=F.ci
  unfold clsIn at hcD
  split at hcD
  ·rename_i c' d' cd' sl' ho
   intro A' Q' E' s' k q
   unfold isType loadHead
   exact wpAny_bind (wpAny_loadPart (k _ _ (X _ _ ho)) (wpAny_pure q))
  ·cases hcD
 have L3:=looks_subIn (M:=M) X F.sb
 have L4:=looks_subIn (M:=M) X hs
 have L5:=I.type (M:=M)
 have f:=tc_notTuple
 unfold excMatches isInstance
 repeat (first | with_reducible refine L1.at ?_ | with_reducible refine L2'.at ?_ | with_reducible refine L3.at ?_ | with_reducible refine L4.at ?_ | with_reducible refine L5.at ?_ | wp_step)
 exact hq
abbrev bmV:List Value:=[.type "ValueError",.type "Exception",.type "BaseException",.type "object"]
structure ClsObj (h:Heap)(C:Addr)(bmB:List Value)(newId:String):Prop where
 ex : ∃ (nm q:Str) (N:Addr) (bs bm:List Value) (hdct:Bool) (sn:List Str) (sub:List Value) (ab:Bool) (col:Option Bool) (dd:Option Addr) (k0 k1 k2 k3 k5:Option Value) (mN:Str->Option Value),
  h.get? C=some (excClassObj nm q C N bs bm hdct sn sub ab col dd k0 k1 k2 k3 k5 newId)/\h.Ns N mN/\mN "__init__" = none/\OwnTail h bmB bm
theorem objThere {P:Program}{w:World}{H:Hp}{h:Heap}{a:Addr}{o:HO}(x:ObjOk P w H h a o) : ∃ ob,h.get? a=some ob:=by
 cases o with
 | lst xs=>obtain ⟨_,_,_,_,e⟩:=x; exact ⟨_,e⟩
 | tup xs=>obtain ⟨_,_,_,ob,e,_⟩:=x; exact ⟨_,e⟩
 | dK kvs=>obtain ⟨_,_,_,_,ob,_,_,e,_⟩:=x; exact ⟨_,e⟩
 | dT kvs=>obtain ⟨_,_,_,_,ob,_,_,e,_⟩:=x; exact ⟨_,e⟩
 | set S n=>obtain ⟨ob,_,_,_,e,_⟩:=x; exact ⟨_,e⟩
 | ins C dx fs=>obtain ⟨_,_,_,e,_⟩:=x; exact ⟨_,e⟩
 | own y=>obtain ⟨_,e⟩:=x; exact ⟨_,e⟩
 | xd fs=>obtain ⟨_,⟨_,_,_,e,_⟩,_⟩:=x; exact ⟨_,e⟩
 | rng lo hi=>obtain ⟨_,_,_,e⟩:=x; exact ⟨_,e⟩
 | frz ob u=>obtain ⟨e,_⟩:=x; exact ⟨_,e⟩
 | tbl ps=>exact ⟨_,(show h.get? a=some _ from x)⟩
 | met f y=>exact ⟨_,(show h.get? a=some _ from x)⟩
 | ext φ=>obtain ⟨_,⟨_,e⟩,_⟩:=x; exact ⟨_,e⟩
def excD (a C:Addr)(dd:Option Addr):HO:=.ext fun h=>∃ o,ExAt h a o C/\o.dict=dd/\∃ us,o.data = .fields us
theorem Inv.absent0 {X:Cx}{pins:List (Addr × Obj)}{σ:St}{H:Hp}{s:Shared}(I:Inv X pins σ H s){e:Addr}(hex:X.ex=[])(n:s.heap.get? e=none):X.s₀.heap.get? e=none:=by
 cases q:X.s₀.heap.get? e with
 | none=>rfl
 | some o =>
  obtain ⟨ob,z⟩:=I.base.there e o q (by rw [hex]; simp)
  rw [n] at z
  cases z
def tRaise (C:Addr)(E:XK)(t:TA):TS:=fun _ σ H=>t σ H fun vs H1=>vs.length<=sizeLine/\E (.ref C) none H1
section
variable {X:Cx}
theorem call_isiY:CallR X (.builtin "isinstance") (fun xs H Q=>∃ a C dd c v b,xs=[.ref a,v]/\H a=some (excD a C dd)/\ExK X.K C/\RelV v c/\kitOne X.K (.ref C) c=some b/\Q (.bl b) H):=by
 intro pins s σ H xs us Q I r h
 obtain ⟨a,C,dd,c,v,b,rfl,hH,F,rc,hk,q⟩:=h
 obtain ⟨u,w',rfl,rx,ry⟩:=vals2 r
 cases rx
 obtain ⟨⟨o,hi,_⟩,_⟩:=I.hok a _ hH
 have e:w'=c:=by
  have:=ry
  cases v with
  | ref z=>cases ry; cases rc; rfl
  | ty z=>cases ry; cases rc; rfl
  | non=>cases ry; cases rc; rfl
  | bl z=>cases ry; cases rc; rfl
  | int z=>obtain ⟨_,rfl⟩:=rc; simp [kitOne,kitCls] at hk
  | str z=>obtain ⟨_,rfl⟩:=rc; simp [kitOne,kitCls] at hk
  | byt z=>obtain ⟨_,rfl⟩:=rc; simp [kitOne,kitCls] at hk
  | flt z=>obtain ⟨_,rfl⟩:=rc; simp [kitOne,kitCls] at hk
 subst e
 exact kia_one (kitx_exc F) I.kIn hi hk (by intro z; cases z) fun tk=>⟨.bl b,H,I.tok _,rfl,q⟩
end
abbrev Cx.within (X:Cx)(v:Value):Cx:={ X with A:=X.A.mark (some v),calm:=false,xe:=fun _ _=>False }
abbrev Cx.trying (X:Cx)(pins:List (Addr × Obj))(E:Value->Shared->Prop):Cx:={ X with pn:=X.pn ++ pins,xe:=E }
section
variable {X:Cx}{pins:List (Addr × Obj)}{σ:St}{H H':Hp}{s s':Shared}
theorem Inv.within (I:Inv X pins σ H s)(v:Value):Inv (X.within v) pins σ H s :=
 ⟨⟨I.ok.mod,I.ok.kind,I.ok.glob,I.ok.blt,I.ok.above,I.ok.inj,I.ok.has,I.ok.cab,(fun h=>(by cases h)),I.ok.frames,I.ok.stk,I.ok.exf,I.ok.bs,I.ok.bsz,I.ok.noex,I.ok.exfs,I.ok.funs,I.ok.frf⟩,I.os,I.bare,I.base,I.loc,I.cell,I.free,I.freeC,I.pin,I.hok,I.len⟩
theorem Inv.without {v:Value}(ok:X.Ok)(I:Inv (X.within v) pins σ H s):Inv X pins σ H s:=⟨ok,I.os,I.bare,I.base,I.loc,I.cell,I.free,I.freeC,I.pin,I.hok,I.len⟩
theorem Inv.trying (I:Inv X pins σ H s)(E:Value->Shared->Prop):Inv (X.trying pins E) [] σ H s :=
 ⟨⟨I.ok.mod,I.ok.kind,I.ok.glob,I.ok.blt,I.ok.above,I.ok.inj,I.ok.has,I.ok.cab,I.ok.hd,I.ok.frames,I.ok.stk,I.ok.exf,I.ok.bs,I.ok.bsz,I.ok.noex,I.ok.exfs,I.ok.funs,I.ok.frf⟩,I.os,I.bare,I.base,I.loc,I.cell,I.free,I.freeC,fun p hp=>I.pin p (by rwa [List.append_nil] at hp),I.hok,I.len⟩
theorem Inv.tried {E:Value->Shared->Prop}{pl:List (Addr × Obj)}(I:Inv (X.trying pins E) pl σ H s):Inv X pins σ H s :=
 ⟨⟨I.ok.mod,I.ok.kind,I.ok.glob,I.ok.blt,I.ok.above,I.ok.inj,I.ok.has,I.ok.cab,I.ok.hd,I.ok.frames,I.ok.stk,I.ok.exf,I.ok.bs,I.ok.bsz,I.ok.noex,I.ok.exfs,I.ok.funs,I.ok.frf⟩,I.os,I.bare,I.base,I.loc,I.cell,I.free,I.freeC,fun p hp=>I.pin p (List.mem_append_left _ hp),I.hok,I.len⟩
theorem SP.tried {E:Value->Shared->Prop}{D:Ends}{f:Flow}(h:SP (X.trying pins E) [] D f s):SP X pins D f s:=by
 cases f with
 | next=>obtain ⟨σ',H',I,q⟩:=h; exact ⟨σ',H',I.tried,q⟩
 | brk=>obtain ⟨σ',H',I,q⟩:=h; exact ⟨σ',H',I.tried,q⟩
 | cont=>obtain ⟨σ',H',I,q⟩:=h; exact ⟨σ',H',I.tried,q⟩
 | ret u=>obtain ⟨v,σ',H',I,r,q⟩:=h; exact ⟨v,σ',H',I.tried,r,q⟩
theorem Inv.track (I:Inv X pins σ H s){a:Addr}{u:HO}(hn:H a=none)(h0:X.s₀.heap.get? a=none)(hL:a ≠ X.env.locals)(hc : ∀ x c,X.env.cells.lookup x=some c->c ≠ a)(hp : ∀ p ∈ X.pn ++ pins,p.1 ≠ a)
  (ok:ObjOk X.prog X.w (upd H a u) s.heap a u):Inv X pins σ (upd H a u) s:=by
 have old : ∀ b o,X.s₀.heap.get? b=some o->b ≠ a:=fun b o e z=>by rw [z,h0] at e; cases e
 have trk : ∀ b o,H b=some o->b ≠ a:=fun b o e=>ne_of_none e hn
 refine ⟨I.ok,I.os,I.bare,⟨I.base.keep,I.base.slot,fun b o e n hx => ?_,I.base.there,fun b xs e => ?_,fun b o x e => ?_,fun b ps e => ?_⟩,I.loc,I.cell,?_,fun x c e => ?_,fun p q => ?_,fun b o e => ?_,I.len⟩
 ·rw [upd_ne (old b o e)]
  exact I.base.free b o e n hx
 ·have z:=I.base.tups b xs e
  rw [upd_ne (trk _ _ z)]
  exact z
 ·have z:=I.base.frzs b o x e
  rw [upd_ne (trk _ _ z)]
  exact z
 ·obtain ⟨m,z⟩:=I.base.tbls b ps e
  exact ⟨m,by rw [upd_ne (trk _ _ z)]; exact z⟩
 ·rw [upd_ne (Ne.symm hL)]
  exact I.free
 ·rw [upd_ne (hc x c e)]
  exact I.freeC x c e
 ·obtain ⟨a1,a2,a3⟩:=I.pin p q
  exact ⟨a1,by rw [upd_ne (hp p q)]; exact a2,a3⟩
 ·by_cases hb:b=a
  ·subst hb
   rw [upd_same] at e
   cases e
   exact ok
  ·rw [upd_ne hb] at e
   exact (I.hok b o e).stay (fun _ _ _ q=>q) (fun c q=>by rw [upd_ne (trk _ _ q)]; exact q) (fun c xs q=>by rw [upd_ne (trk _ _ q)]; exact q)
theorem un_here (I:Inv X pins σ H s){B h':Heap}(u:Un (frs X.stack) [] H H' s.heap s'.heap)(bk : ∀ b o,s.heap.get? b=some o->H b=none->b ∉ frs X.stack->B.get? b=some o)
  (th : ∀ b o,s.heap.get? b=some o->b ∉ frs X.stack->∃ o',B.get? b=some o') (st:B.StaysIn h') (up:s'.heap.UpToSlots h'):Un (frs X.stack) [] H H' s.heap h':=by
 have slot : ∀ b o,s.heap.get? b=some o->H b=none->b ∈ frs X.stack->∃ sl,h'.get? b=some { o with slots:=sl }:=fun b o e n hb=>by
  obtain ⟨sl,e1⟩:=u.slot b o e n hb (by simp)
  obtain ⟨_,o',ho',hnf⟩:=I.stack.mem hb
  rw [e] at ho'
  cases ho'
  obtain ⟨sl3,e3⟩:=up b _ e1 (fun vs q=>hnf vs q)
  exact ⟨sl3,e3⟩
 refine ⟨fun b o e n hb _=>st b o (bk b o e n hb),fun b o e n hb _=>slot b o e n hb,u.free,fun b o e _ => ?_,u.tups,u.frzs,u.tbls⟩
 by_cases hb:b ∈ frs X.stack
 ·obtain ⟨sl,q⟩:=slot b o e (I.stkFree b hb) hb
  exact ⟨_,q⟩
 ·obtain ⟨o2,e2⟩:=th b o e hb
  exact ⟨o2,st b o2 e2⟩
theorem name_gone {M:Model}{A:Around}{E:Value->Shared->Prop}{i:Nat}{n:Str}{pos:Pos}{Q:Unit->Shared->Prop}(I:Inv X pins σ H s)(hN:X.N.Nodup)(hi:X.N[i]?=some n)(hk:X.env.scope.names.lookup n=some .local)
  (h : ∀ s',Inv X pins (σ.set i none) H s'->Q () s'):wpAny M A (do bindName X.env n .none; unbindBehindTheSuite X.env n pos) Q E s:=by
 obtain ⟨m,hn,hl⟩:=id I.loc
 have hcls:(X.env.scope.kind == .class || (X.env.scope.kind == .module && X.env.locals != X.env.globals))=false:=by rw [I.ok.kind]; rfl
 have hiσ:i < σ.length:=by rw [I.len]; exact (List.getElem?_eq_some_iff.mp hi).1
 refine wpAny_nameGoes_keeps hk hn hcls fun h' v hn' hs => ?_
 have ne : ∀ b o,X.s₀.heap.get? b=some o->b ≠ X.env.locals:=fun b o e=>Nat.ne_of_lt (Nat.lt_of_lt_of_le (Heap.lt_size e) I.ok.above)
 refine h _ ⟨I.ok,I.os,I.bare,⟨fun b o e n hb hx=>(hs.2 b (ne b o e)).trans (I.base.keep b o e n hb hx),fun b o e n hb hx => ?_,I.base.free,fun b o e hx => ?_,I.base.tups,I.base.frzs,I.base.tbls⟩,⟨_,hn',fun j y v' e1 e2 e3 => ?_⟩,fun y c e => ?_,I.free,I.freeC,fun p hp => ?_,fun b ob e => ?_,by rw [List.length_set]; exact I.len⟩
 ·obtain ⟨sl,e1⟩:=I.base.slot b o e n hb hx
  exact ⟨sl,(hs.2 b (ne b o e)).trans e1⟩
 ·obtain ⟨o',e1⟩:=I.base.there b o e hx
  exact ⟨o',(hs.2 b (ne b o e)).trans e1⟩
 ·by_cases hj:j=i
  ·subst hj
   rw [List.getElem?_set_self hiσ] at e2
   cases e2
  ·rw [List.getElem?_set_ne (Ne.symm hj)] at e2
   obtain ⟨u',r',q⟩:=hl j y v' e1 e2 e3
   refine ⟨u',r',?_⟩
   rcases q with ⟨k,e⟩ | ⟨k,c,e,z⟩
   ·refine .inl ⟨k,?_⟩
    have ny:y ≠ n:=fun e=>hj (nodup_ix hN e1 (e ▸ hi))
    simp [ny,e]
   ·exact .inr ⟨k,c,e,z.sameBut hs (I.cne y c e)⟩
 ·obtain ⟨v',q⟩:=I.cell y c e
  exact ⟨v',q.sameBut hs (I.cne y c e)⟩
 ·obtain ⟨a1,a2,a3,a4⟩:=I.pin p hp
  exact ⟨(hs.2 p.1 a3).trans a1,a2,a3,a4⟩
 ·refine (I.hok b ob e).stay (fun c w' hc q=>(hs.2 c ?_).trans q) (fun _ q=>q) fun _ _ q=>q
  intro z
  rw [z] at hc
  rcases hc with hc | hc
  ·rw [<- hc,I.free] at e
   cases e
  ·rw [I.free] at hc
   cases hc
def tTry (K:Frag)(N j:Nat)(Dc:Addr)(tb:XK->TS):TS:=fun D σ H=>tb (fun cls dd H'=>∃ C,cls = .ref C/\ExK K C/\subIn K (.ref C) (.ref Dc)=some true/\∀ a,H' a=none->D.nx ((List.replicate N none).set j (some (.ref a))) (upd H' a (excD a C dd))) D σ H
end
end L2
namespace L2
open PySem PySem.Spec PyProof.Rows PySem.W
def xiIn (K:Frag)(C P f:Addr):Bool:=match K.lookup C with
 | some ⟨.type "type",_,.cls cd,sl⟩=>(match cd.mro,sl.toList with
  | .ref C' :: .ref P' :: bm,[_,_,_,_,some (.builtin n),_]=>C' == C && P' == P && n == "ValueError.__new__" && !cd.hasDel && cd.hasDict && tailIn K bmV (.ref P' :: bm) && nsOkIn K cd.ns && nsIn K cd.ns "__init__" == some (some (.ref f)) && bm == bmV
  | _,_=>false)
 | _=>false
structure ClsI (h:Heap)(C P f:Addr):Prop where
 ex : ∃ (nm q:Str) (N:Addr) (bs:List Value) (sn:List Str) (sub:List Value) (ab:Bool) (col:Option Bool) (dd:Option Addr) (k0 k1 k2 k3 k5:Option Value) (mN:Str->Option Value),
  h.get? C=some (excClassObj nm q C N bs (.ref P :: bmV) true sn sub ab col dd k0 k1 k2 k3 k5 "ValueError.__new__")/\h.Ns N mN/\mN "__init__" = some (.ref f)/\OwnTail h bmV (.ref P :: bmV)
theorem nsMap_some_of_in {K:Frag}{h:Heap}{N:Addr}{x:Str}{v:Value}(X:K.In h)(hok:nsOkIn K N=true)(e:nsIn K N x=some (some v)):h.nsMap N x=some v:=by
 have G:h.Ns N (h.nsMap N):=.of_isNs (isNs_of_in X hok)
 obtain ⟨o,es,ep,ho,hd,_,hf⟩:=G
 unfold nsIn at e
 split at e
 ·rename_i c d es' n' sl q
  have z:=X _ _ q
  rw [ho] at z
  cases z
  cases hd
  split at e
  ·rename_i en he
   cases e
   rw [<- hf]
   unfold nsFind findBy
   rw [<- Array.find?_toList,he]
   rfl
  ·split at e <;> cases e
 ·cases e
theorem clsI_of {K:Frag}{h:Heap}{C P f:Addr}(X:K.In h)(q:xiIn K C P f=true):ClsI h C P f:=by
 unfold xiIn at q
 split at q
 case h_2=>cases q
 case h_1 dd cd sl ho =>
  split at q
  case h_2=>cases q
  case h_1 C' P' bm k0 k1 k2 k3 n k5 hm hs =>
   simp only [Bool.and_eq_true,beq_iff_eq,Bool.not_eq_true'] at q
   obtain ⟨⟨⟨⟨⟨⟨⟨⟨e1,e0⟩,e2⟩,hdel⟩,hdi⟩,ht⟩,hok⟩,hni⟩,e3⟩:=q
   cases e1
   cases e0
   cases e2
   cases e3
   obtain ⟨nm,bs,mro,ns,qn,hd,sn,sub,ab,col,del⟩:=cd
   obtain ⟨sl⟩:=sl
   dsimp only at hm hdel hok hni hs hdi
   subst hm hdel hs hdi
   exact ⟨nm,qn,ns,bs,sn,sub,ab,col,dd,k0,k1,k2,k3,k5,_,X _ _ ho,.of_isNs (isNs_of_in X hok),nsMap_some_of_in X hok hni,tail_of_in X ht⟩
section
variable {prog:Program}{w:World}{A:Around}{E:Value->Shared->Prop}{h:Heap}{g:Array GenState}{d:Drawn}{t:Nat}{os:OsState}{K:Frag}{C P f:Addr}
abbrev excNew (h:Heap)(C:Addr)(rest:List Value):Heap:=(h.push { cls:=.type "tuple",data:=.seq rest.toArray }).push { cls:=.ref C,data:=.fields #[.ref h.objs.size,.none,.none,.none,.bool false,.none] }
theorem exi_type_call {rest:List Value}{Q:Fin->Shared->Prop}(X:K.In h)(I:ClsI h C P f)(hf:typeIn K (.ref f)=some (.type "function"))(hrest:rest.length<=sizeLine)
  (hq:codeAny (model prog w) A (.call (.ref f) ⟨.ref (h.objs.size+1) :: rest,[]⟩) (fun r s'=>match r with
   | .ok (.ret v)=>v = .none/\Q (.done (.ret (.ref (h.objs.size+1)))) s'
   | .ok _=>False
   | .error e=>E e s') ⟨excNew h C rest,g,d,t,os⟩) :
  wpAny (model prog w) A (Builtin.«type.__call__» ⟨.ref C :: rest,[]⟩) Q E ⟨h,g,d,t,os⟩:=by
 obtain ⟨nm,q,N,bs,sn,sub,ab,col,dd,k0,k1,k2,k3,k5,mN,hC,hn,hni,T⟩:=I.ex
 have F:=PySem.F.excBase_ValueError
 repeat (first | with_reducible refine wpAny_loadPart_at hC ?_ | with_reducible refine wpAny_madeBy_exc hC ?_ | wp_step)
 refine codeAny_call_builtin_code (Code.quiet_builtin _ F.quiet) (wpAny_check_new_subU F F.hasB T hC ?_)
 refine codeAny_exc_new_subU F F.hasB F T hC ?_ hrest
 show wpAny _ _ _ _ _ _
 have keep : ∀ b o,h.get? b=some o->(excNew h C rest).get? b=some o:=fun b o e=>Heap.get?_push_of_some _ (Heap.get?_push_of_some _ e)
 have hC1:=keep _ _ hC
 have hn1:(excNew h C rest).Ns N mN:=hn.keeps keep
 have hget:(excNew h C rest).get? (h.objs.size+1)=some { cls:=.ref C,data:=.fields #[.ref h.objs.size,.none,.none,.none,.bool false,.none] }:=by unfold excNew; heap_get
 have hcC:(Value.ref C :: Value.ref P :: bmV).contains (.ref C)=true:=by simp
 have T1:=T.keeps keep
 have B1:=bind_fn (M:=model prog w) (X.keeps keep) (.ref (h.objs.size+1)) hf
 unfold isInstance
 repeat (first | with_reducible refine wpAny_loadPart_at hget ?_ | (with_reducible refine wpAny_isSubtype_exc hC1 ?_; rw [hcC]) | wp_step)
 show wpAny _ _ (typeLookup (.ref C) _) _ _ _
 refine wpAny_typeLookup_tail hC1 hn1 T1 F.mroIs F.init.lookup ?_
 rw [hni]
 refine wpAny_holding (wpAny_bind (B1.at ?_))
 refine wpAny_bind (wpAny_call (codeAny_mono hq fun r s' z => ?_))
 cases r with
 | error e=>exact z
 | ok fl =>
  cases fl with
  | ret v =>
   obtain ⟨rfl,z⟩:=z
   exact wpAny_pure (wpAny_pure z)
  | next=>exact z.elim
  | brk=>exact z.elim
  | cont=>exact z.elim
theorem exi_call {rest:List Value}{R:Result->Shared->Prop}(X:K.In h)(I:ClsI h C P f)(hf:typeIn K (.ref f)=some (.type "function"))(hrest:rest.length<=sizeLine)
  (hq:codeAny (model prog w) (A.under (.builtin "type.__call__" ⟨.ref C :: rest,[]⟩)) (.call (.ref f) ⟨.ref (h.objs.size+1) :: rest,[]⟩) (InitBack (h.objs.size+1) R) ⟨excNew h C rest,g,d,t,os⟩) :
  codeAny (model prog w) A (.call (.ref C) ⟨rest,[]⟩) R ⟨h,g,d,t,os⟩:=by
 obtain ⟨nm,q,N,bs,sn,sub,ab,col,dd,k0,k1,k2,k3,k5,mN,hC,hn,hni,T⟩:=id I.ex
 have f1:=tc_lookup
 have f2:=tc_bind (.ref C)
 have hT:(⟨h,g,d,t,os⟩:Shared).TypeIs (.ref C) "type" := ⟨_,hC,rfl⟩
 refine codeAny_of_tree ?_
 show wpAny _ _ (callAny (.ref C) _) _ _ _
 repeat (any_goals (first | assumption | with_reducible refine wpAny_loadPart_at hC ?_ | wp_step))
 refine ⟨rfl,?_⟩
 refine codeAny_call_builtin_at (Code.quiet_builtin _ (by decide +kernel)) entry_typeCall (wpAny_check_type_call_sub hC (exi_type_call X I hf hrest (codeAny_mono hq fun r s' z => ?_)))
 cases r with
 | error e=>exact z
 | ok fl =>
  cases fl with
  | ret v=>exact z
  | next=>exact z.elim
  | brk=>exact z.elim
  | cont=>exact z.elim
end
end L2
namespace L2
open PySem PySem.Spec PyProof.Rows PySem.W
def exN (a C:Addr)(dd:Option Addr):HO:=.ext fun h=>∃ o t,(h.get? a=some o/\o.cls = .ref C/\o.dict=dd)/\o.data = .fields #[t,.none,.none,.none,.bool false,.none]
def rem (H:Hp)(a:Addr):Hp:=fun b=>if b=a then none else H b
theorem rem_ne {H:Hp}{a b:Addr}(h:b ≠ a):rem H a b=H b:=by unfold rem; rw [if_neg h]
theorem rem_same {H:Hp}{a:Addr}:rem H a a=none:=by unfold rem; rw [if_pos rfl]
section
variable {X:Cx}{pins:List (Addr × Obj)}{σ:St}{H:Hp}{s:Shared}
theorem Inv.drop (I:Inv X pins σ H s){a:Addr}{φ:Heap->Prop}(ha:H a=some (.ext φ)):Inv X pins σ (rem H a) s:=by
 have nn : ∀ b,H b=none->rem H a b=none:=fun b h=>by
  by_cases z:b=a
  ·rw [z]; exact rem_same
  ·rw [rem_ne z]; exact h
 have oo : ∀ b o,H b=some o->(∀ ψ,o ≠ .ext ψ)->rem H a b=some o:=fun b o h n=>by
  by_cases z:b=a
  ·subst z; rw [h] at ha; cases ha; exact absurd rfl (n φ)
  ·rw [rem_ne z]; exact h
 refine ⟨I.ok,I.os,I.bare,⟨I.base.keep,I.base.slot,fun b o e n hx=>nn b (I.base.free b o e n hx),I.base.there,fun b xs e=>oo b _ (I.base.tups b xs e) (fun _ z=>by cases z),fun b o x e=>oo b _ (I.base.frzs b o x e) (fun _ z=>by cases z),fun b ps e => ?_⟩,I.loc,I.cell,nn _ I.free,fun x c e=>nn _ (I.freeC x c e),fun p hp => ?_,fun b o e => ?_,I.len⟩
 ·obtain ⟨m,z⟩:=I.base.tbls b ps e
  exact ⟨m,oo b _ z (fun _ q=>by cases q)⟩
 ·obtain ⟨a1,a2,a3⟩:=I.pin p hp
  exact ⟨a1,nn _ a2,a3⟩
 ·by_cases z:b=a
  ·rw [z,rem_same] at e; cases e
  ·rw [rem_ne z] at e
   exact (I.hok b o e).stay (fun _ _ _ q=>q) (fun c q=>oo c _ q (fun _ z=>by cases z)) (fun c xs q=>oo c _ q (fun _ z=>by cases z))
theorem Inv.exnew (I:Inv X pins σ H s)(C:Addr)(us:List Value):Inv X pins σ (upd H (s.heap.objs.size+1) (exN (s.heap.objs.size+1) C none)) { s with heap:=excNew s.heap C us }:=by
 refine I.laid (a:=s.heap.objs.size+1) (t':=s.toks) (fun b u e=>Heap.get?_push_of_some _ (Heap.get?_push_of_some _ e)) (Nat.le_succ _) ?_
 have hget:(excNew s.heap C us).get? (s.heap.objs.size+1)=some { cls:=.ref C,data:=.fields #[.ref s.heap.objs.size,.none,.none,.none,.bool false,.none] }:=by unfold excNew; heap_get
 exact ⟨⟨_,_,⟨hget,rfl,rfl⟩,rfl⟩,⟨_,hget⟩,fun h1 h2 ⟨o,t,⟨e1,e2,e3⟩,e4⟩ k=>⟨o,t,⟨k o e1,e2,e3⟩,e4⟩⟩
theorem raise_made {M:Model}{A:Around}{E:Value->Shared->Prop}{env:Env}{x:Sem Value}{C:Addr}{K:Frag}{s:Shared}{Q:Flow->Shared->Prop}(hh:A.handled=none)(F:ExK K C)(hk : ∃ oC,K.lookup C=some oC/\oC.cls = .type "type")
  (h:wpAny M A x (fun v s₁=>K.In s₁.heap/\∃ e ob us,v = .ref e/\s₁.heap.get? e=some ob/\ob.cls = .ref C/\ob.data = .fields us/\us[1]?=some .none/\E (.ref e) s₁) E s):wpAny M A (raiseStmt env (some x) none) Q E s:=by
 unfold raiseStmt
 refine wpAny_bind (wpAny_mono h (fun v s₁ h₁ => ?_) fun _ _ x=>x)
 obtain ⟨KX,e,ob,us,rfl,he,hc,hd,h1,hE⟩:=h₁
 obtain ⟨hp,g,d,tk,os⟩:=s₁
 have L1:=looks_subIn (M:=M) KX F.sb
 obtain ⟨⟨cC,dC,tC,sC⟩,hkC,hkc⟩:=hk
 have hC:=KX _ _ hkC
 dsimp only at hkc
 subst hkc
 obtain ⟨oc,od,odt,osl⟩:=ob
 dsimp only at hc hd
 subst hc hd
 have h1':=h1
 repeat (first | with_reducible refine wpAny_loadPart_at he ?_ | with_reducible refine wpAny_loadPart_at hC ?_ | with_reducible refine L1.at ?_ | wp_step)
 rw [h1]
 refine wpAny_pure ?_
 rw [if_neg (by decide)]
 exact wpAny_pure (wpAny_raiseNew_none hh hE)
end
theorem xiIn_obj {K:Frag}{C P f:Addr}(q:xiIn K C P f=true) : ∃ oC,K.lookup C=some oC/\oC.cls = .type "type" := by
 unfold xiIn at q
 split at q
 ·rename_i ho
  exact ⟨_,ho,rfl⟩
 ·cases q
structure ExI (K:Frag)(C P f:Addr):Prop where
 xi:xiIn K C P f=true
 fn:typeIn K (.ref f)=some (.type "function")
 kp:keepIn K (.ref C)=true
 k:ExK K C
def tRaiseI (C:Addr)(sp:Sp)(E:XK)(t:TA):TS:=fun _ σ H=>t σ H fun vs H1=>vs.length<=sizeLine/\∀ e,H1 e=none ->
 sp (.ref e :: vs) (upd H1 e (exN e C none)) (fun v H2=>v = .non/\∃ dd,H2 e=some (exN e C dd)/\E (.ref C) dd (rem H2 e)) E0
section
variable {X:Cx}
theorem ps_raiseI {x:Str}{C P f:Addr}{fd:FuncData}{ps:List Str}{sp:Sp}{k:Nat}{e₀:Expr}{es:List Expr}{t:TA}{E:XK}{np cpos pos:Pos}(hex:X.ex=[])(hX:XeOk X E)(hc:X.calm=true)(hr:Room (k+1) X.A)(hg:Gl X x)(hm:X.mg x=some (.ref C))(hei:ExI X.K C P f)
  (F:FnOk X.prog X.w X.K X.mg X.base CX0 k f fd ps sp) (hb:Binds X.K fd ps []) (ha:PA X (e₀ :: es) t)
  (hdb:(x == ("__debug__" : Str))=false:=by decide) (he:starEach (e₀ :: es) X.env=(false,eval e₀ X.env) :: starEach es X.env:=by rfl) (hpl:(backTo cpos (starEach es X.env)).any (·.1)=false:=by rfl) :
  PS X (.Raise (some (.Call (.Name x np) (e₀ :: es) [] cpos)) none pos) (tRaiseI C sp E t):=by
 intro pins s σ H D I h
 rw [arm_exec_Raise]
 refine wpAny_bind (wpAny_standAt (raise_made (C:=C) (K:=X.K) (I.ok.hd hc) hei.k (xiIn_obj hei.xi) ?_))
 refine wpAny_bind (thn (Q:=fun v s₁=>X.K.In s₁.heap/\∃ e ob us,v=Value.ref e/\s₁.heap.get? e=some ob/\ob.cls = .ref C/\ob.data = .fields us/\us[1]?=some .none/\X.xe (.ref e) s₁) ?_ fun v s1 q=>wpAny_bind (wpAny_standAt (wpAny_pure q)))
 refine wpAny_Call_Name_kw (ld_glob I hg hm ?_ hdb)
 refine PySem.W.callWith_K (h₀:=X.base) I.ok.mod.kin hei.kp (thn (ha cpos pins s σ H _ I h) fun us s1 ⟨vs,H1,I1,r,hl,q⟩=>⟨I1.kIn,?_⟩) he hpl
 have hn:H1 (s1.heap.objs.size+1)=none:=I1.hok.fresh (Nat.le_succ _)
 have hq:=q (s1.heap.objs.size+1) hn
 have I2:=I1.exnew C us
 have r2:Vals (V.ref (s1.heap.objs.size+1) :: vs) (Value.ref (s1.heap.objs.size+1) :: us):=.cons rfl r
 have hlen:(Value.ref (s1.heap.objs.size+1) :: us ++ []).length=ps.length:=by
  have e:=r2.length
  rw [F.len _ _ _ _ hq] at e
  rw [List.append_nil]
  exact e.symm
 have n0:X.s₀.heap.get? (s1.heap.objs.size+1)=none:=I1.absent0 hex (Heap.get?_none_of_le (Nat.le_succ _))
 obtain ⟨hh,g,d,tk,os⟩:=s1
 refine wpAny_call (exi_call (f:=f) (P:=P) I1.kIn (clsI_of I1.kIn hei.xi) hei.fn (by show us.length<=sizeLine; rw [<- r.length]; exact hl) (codeAny_mono (F.run _ X.stack _ _ ⟨Value.ref (hh.objs.size+1) :: us,[]⟩ (Value.ref (hh.objs.size+1) :: us) _ _ E0 (hr.make C us [])
  (I2.env0.make C us []) (by have z:=hb _ (Value.ref (hh.objs.size+1) :: us) I2.kIn hlen; rw [List.append_nil] at z; exact z) r2 hq) fun r s' hq' => ?_))
 cases r with
 | error e=>exact hq'.elim
 | ok fl =>
  cases fl with
  | ret u =>
   obtain ⟨v,H',I3,rv,ev,dd,hd,hE⟩:=I2.after hq'
   subst ev
   refine ⟨rv,?_⟩
   obtain ⟨⟨o,t',⟨o1,o2,o3⟩,o4⟩,_⟩:=I3.hok _ _ hd
   exact ⟨I3.kIn,_,o,_,rfl,o1,o2,o4,rfl,hX pins σ _ s' _ C o _ (I3.drop hd) rem_same n0 o1 o2 o4 rfl (by rw [o3]; exact hE)⟩
  | next=>exact hq'.elim
  | brk=>exact hq'.elim
  | cont=>exact hq'.elim
end
end L2
namespace L2
open PySem PySem.Spec PyProof.Rows PySem.W PySem.Builtin PySem.Builtin.ObjectAttr
theorem refuse_exc (self:Value):refuseLoop self "__setattr__" bmV=pure ():=by
 kernel_rfl
section
variable {prog:Program}{w:World}{A:Around}{E:Value->Shared->Prop}{h:Heap}{g:Array GenState}{d:Drawn}{t:Nat}{os:OsState}{K:Frag}{C P f a:Addr}{o:Obj}{name:Str}{v:Value}
theorem exi_set_open {Q:Unit->Shared->Prop}(X:K.In h)(I:ClsI h C P f)(F:ExK K C)(sa:findIn K (.ref C) "__setattr__" = some (some (.builtin "object.__setattr__")))(nn:findIn K (.ref C) name=some none)(O:ExAt h a o C)
  (hq : ∀ A' tk,wpAny (model prog w) A' (storeInOwnDict (.ref a) (.ref C) (.str name tk) name v false) (fun fin s'=>∃ u,fin = .done (.ret u)/\Q () s') (fun _ _=>False) ⟨h,g,d,t+1,os⟩) :
  wpAny (model prog w) A (setAttr (.ref a) name v) Q E ⟨h,g,d,t,os⟩:=by
 obtain ⟨nm,q,N,bs,sn,sub,ab,col,dd,k0,k1,k2,k3,k5,mN,hC,hn,hni,T⟩:=I.ex
 have SF:=PySem.F.store_object
 have L1:=O.type (M:=model prog w)
 have L2':=looks_findIn (M:=model prog w) X sa
 have L3:=looks_findIn (M:=model prog w) X nn
 have L4:Looks (model prog w) h (isInstance (.ref a) (.type "object")) true:=L1.andThen (looks_subIn X F.so)
 refine wpAny_bind (wpAny_mkText (wpAny_bind (wpAny_bind (wpAny_bind (L1 _ _ _ _ (fun _ _ e=>e) (L2' _ _ _ _ (fun _ _ e=>e) (wpAny_holding ?_)))))))
 rw [SF.slot.bind]
 refine wpAny_bind (wpAny_pure (wpAny_bind (wpAny_call ?_)))
 refine codeAny_call_builtin SF.slot.plain SF.entry (@check_slot (model prog w) _ _ _ "object.__setattr__" "object" "__setattr__" (.ref a) [.str name t,v] [] _ SF.kind SF.split L4 (SF.args (.ref a) (.str name t) v) ?_)
 show wpAny _ _ (Builtin.«object.__setattr__» ⟨[.ref a,.str name t,v],[]⟩) _ _ _
 rw [osa_eq,refuse_eq]
 refine wpAny_bind (wpAny_bind (L1.here (wpAny_bind (wpAny_mroOf_exc hC ?_))))
 rw [refuseLoop_ref,refuseLoop_ref,refuse_exc]
 refine wpAny_pure (wpAny_bind (L1.here (wpAny_bind (L3.here (wpAny_bind (wpAny_pure ?_))))))
 refine wpAny_mono (hq _ t) (fun fin s' z => ?_) fun _ _ z=>z.elim
 obtain ⟨u,rfl,z⟩:=z
 exact wpAny_pure (wpAny_pure z)
theorem idict_new {Q:Option Addr->Shared->Prop}(I:ClsI h C P f)(O:ExAt h a o C)(hd:o.dict=none){us:Array Value}(hf:o.data = .fields us)
  (hq:Q (some h.objs.size) ⟨(h.push { cls:=.type "dict",data:=.dict #[] }).update a fun ob=>{ ob with dict:=some h.objs.size },g,d,t,os⟩):wpAny (model prog w) A (instanceDict a true) Q E ⟨h,g,d,t,os⟩:=by
 obtain ⟨nm,q,N,bs,sn,sub,ab,col,dd,k0,k1,k2,k3,k5,mN,hC,hn,hni,T⟩:=I.ex
 have hx:=O.at_
 obtain ⟨oc,od,odt,osl⟩:=o
 have hc:=O.cls
 dsimp only at hd hf hc
 subst hd hf hc
 have hx1:(h.push { cls:=.type "dict",data:=.dict #[] }).get? a=some ⟨.ref C,none,.fields us,osl⟩:=Heap.get?_push_of_some _ hx
 unfold instanceDict
 repeat (first | with_reducible refine wpAny_loadPart_at hx ?_ | with_reducible refine wpAny_loadPart_at hC ?_ | wp_step)
 exact hq
theorem idict_old {Q:Option Addr->Shared->Prop}{dx:Addr}(I:ClsI h C P f)(O:ExAt h a o C)(hd:o.dict=some dx)(hq:Q (some dx) ⟨h,g,d,t,os⟩)(b:Bool):wpAny (model prog w) A (instanceDict a b) Q E ⟨h,g,d,t,os⟩:=by
 obtain ⟨nm,q,N,bs,sn,sub,ab,col,dd,k0,k1,k2,k3,k5,mN,hC,hn,hni,T⟩:=I.ex
 have hx:=O.at_
 obtain ⟨oc,od,odt,osl⟩:=o
 have hc:=O.cls
 dsimp only at hd hc
 subst hd hc
 unfold instanceDict
 repeat (first | with_reducible refine wpAny_loadPart_at hx ?_ | with_reducible refine wpAny_loadPart_at hC ?_ | wp_step)
 exact hq
theorem store_in {Q:Fin->Shared->Prop}{dx:Addr}{mA:Str->Option Value}{ns:List Str}{tk:Tok}(hn:h.Ns1 dx mA)(hw:Within mA ns)(hz:ns.length<=100)
  (hq : ∀ h' tk',h'.Ns1 dx (fun y=>if y=name then some v else mA y)->(∀ b ob,b ≠ dx->h.get? b=some ob->h'.get? b=some ob)->Q (.done (.ret .none)) ⟨h',g,d,tk',os⟩) :
  wpAny (model prog w) A (storeInDict dx (.str name tk) name v) Q E ⟨h,g,d,t,os⟩:=by
 unfold storeInDict newKeyGuard
 refine wpAny_bind (wpAny_pure (wpAny_bind (wpAny_nsSet1 hn fun h' hn' hs => ?_)))
 obtain ⟨oD,esD,epD,hoD,hdD,hcD⟩:=hn'.count (Within.cons name v hw)
 refine wpAny_bind (wpAny_lookBehind hoD (by rw [hdD]; exact pastItsLine_dict (Nat.le_trans hcD (by rw [List.length_cons,sizeLine_eq]; omega))) ?_)
 exact wpAny_pure (hq h' _ hn' fun b ob nb q=>(hs.2 b nb).trans q)
theorem exi_set_new {Q:Unit->Shared->Prop}(X:K.In h)(I:ClsI h C P f)(F:ExK K C)(sa:findIn K (.ref C) "__setattr__" = some (some (.builtin "object.__setattr__")))(nn:findIn K (.ref C) name=some none)(O:ExAt h a o C)(hd:o.dict=none){us:Array Value}(hf:o.data = .fields us)
  (hq : ∀ h' tk,h'.Ns1 h.objs.size (fun y=>if y=name then some v else none)->h'.get? a=some { o with dict:=some h.objs.size }->(∀ b ob,b ≠ a->h.get? b=some ob->h'.get? b=some ob)->Q () ⟨h',g,d,tk,os⟩) :
  wpAny (model prog w) A (setAttr (.ref a) name v) Q E ⟨h,g,d,t,os⟩:=by
 refine exi_set_open X I F sa nn O fun A' tk => ?_
 have hx:=O.at_
 have ne:a ≠ h.objs.size:=Nat.ne_of_lt (Heap.lt_size hx)
 have hx1:(h.push { cls:=.type "dict",data:=.dict #[] }).get? a=some o:=Heap.get?_push_of_some _ hx
 unfold storeInOwnDict
 refine wpAny_bind (wpAny_pure ?_)
 show wpAny _ _ (ownDictForStores (.ref a) >>= _) _ _ _
 refine wpAny_bind (idict_new I O hd hf ?_)
 have hgd:((h.push { cls:=.type "dict",data:=.dict #[] }).update a fun ob=>{ ob with dict:=some h.objs.size }).get? h.objs.size=some { cls:=.type "dict",data:=.dict #[] } :=
  (Heap.get?_update_other _ _ ne).trans (Heap.get?_push_at rfl rfl)
 have hga:((h.push { cls:=.type "dict",data:=.dict #[] }).update a fun ob=>{ ob with dict:=some h.objs.size }).get? a=some { o with dict:=some h.objs.size }:=by
  refine Heap.get?_update_self _ hx1 ?_
  obtain ⟨oc,od,odt,osl⟩:=o
  dsimp only at hf
  subst hf
  rfl
 have hnd:((h.push { cls:=.type "dict",data:=.dict #[] }).update a fun ob=>{ ob with dict:=some h.objs.size }).Ns h.objs.size (fun _=>none):=⟨_,#[],_,hgd,rfl,fun e he=>absurd he (by simp),fun _=>rfl⟩
 refine store_in (Heap.Ns1.of_empty hnd) (ns:=[]) Within.nil (by decide) fun h' tk' hn' hk=>⟨_,rfl,hq h' tk' hn' (hk a _ ne hga) fun b ob nb q=>hk b ob (Nat.ne_of_lt (Heap.lt_size q)) ?_⟩
 exact (Heap.get?_update_other _ _ (Ne.symm nb)).trans (Heap.get?_push_of_some _ q)
theorem exi_set_more {Q:Unit->Shared->Prop}{dx:Addr}{mA:Str->Option Value}{ns:List Str}(X:K.In h)(I:ClsI h C P f)(F:ExK K C)(sa:findIn K (.ref C) "__setattr__" = some (some (.builtin "object.__setattr__")))(nn:findIn K (.ref C) name=some none)(O:ExAt h a o C)(hd:o.dict=some dx)
  (hn:h.Ns1 dx mA) (hw:Within mA ns) (hz:ns.length<=100)
  (hq : ∀ h' tk,h'.Ns1 dx (fun y=>if y=name then some v else mA y)->(∀ b ob,b ≠ dx->h.get? b=some ob->h'.get? b=some ob)->Q () ⟨h',g,d,tk,os⟩) :
  wpAny (model prog w) A (setAttr (.ref a) name v) Q E ⟨h,g,d,t,os⟩:=by
 refine exi_set_open X I F sa nn O fun A' tk => ?_
 unfold storeInOwnDict
 refine wpAny_bind (wpAny_pure ?_)
 show wpAny _ _ (ownDictForStores (.ref a) >>= _) _ _ _
 refine wpAny_bind (idict_old I O hd ?_ true)
 exact store_in hn hw hz fun h' tk' hn' hk=>⟨_,rfl,hq h' tk' hn' hk⟩
theorem exi_get_entry {tk:Tok}{dx:Addr}{mA:Str->Option Value}{Q:Fin->Shared->Prop}(X:K.In h)(I:ClsI h C P f)(nn:findIn K (.ref C) name=some none)(O:ExAt h a o C)(hd:o.dict=some dx){us:Array Value}(hf:o.data = .fields us)(hn:h.Ns dx mA)(hv:mA name=some v)
  (hq:Q (.done (.ret v)) ⟨h,g,d,t,os⟩):wpAny (model prog w) A (Builtin.«object.__getattribute__» ⟨[.ref a,.str name tk],[]⟩) Q E ⟨h,g,d,t,os⟩:=by
 have L1:=O.type (M:=model prog w)
 have L3:=looks_findIn (M:=model prog w) X nn
 have hx:=O.at_
 have hc:=O.cls
 refine wpAny_bind (wpAny_pure (wpAny_bind (wpAny_pure ?_)))
 refine wpAny_bind (L1.here (wpAny_bind ?_))
 unfold find
 refine wpAny_bind (L3.here ?_)
 refine wpAny_bind (wpAny_pure ?_)
 refine wpAny_bind (wpAny_pure ?_)
 unfold ownThenClass inOwnDict ObjectAttr.ownDict
 refine wpAny_bind (wpAny_bind ?_)
 refine wpAny_bind (wpAny_loadPart_at hx ?_)
 rw [hf]
 refine idict_old I O hd ?_ false
 refine wpAny_nsGet hn ?_
 rw [hv]
 exact wpAny_bind (wpAny_rule (wpAny_pure (wpAny_pure hq)))
theorem exi_get_call {tk:Tok}{dx:Addr}{mA:Str->Option Value}{R:Result->Shared->Prop}(X:K.In h)(I:ClsI h C P f)(F:ExK K C)(nn:findIn K (.ref C) name=some none)(O:ExAt h a o C)(hd:o.dict=some dx){us:Array Value}(hf:o.data = .fields us)(hn:h.Ns dx mA)(hv:mA name=some v)
  (hq:R (.ok (.ret v)) ⟨h,g,d,t,os⟩):codeAny (model prog w) A (.call (.builtin "BaseException.__getattribute__") ⟨[.ref a,.str name tk],[]⟩) R ⟨h,g,d,t,os⟩ :=
 codeAny_call_builtin PySem.F.attr_ValueError.ga.plain PySem.F.entry_bexc_ga (exc_check_ga X F O (exi_get_entry X I nn O hd hf hn hv hq))
theorem exi_get_by {tk:Tok}{fill expr:Bool}{dx:Addr}{mA:Str->Option Value}{Q:Value->Shared->Prop}(X:K.In h)(I:ClsI h C P f)(F:ExK K C)(nn:findIn K (.ref C) name=some none)(O:ExAt h a o C)(hd:o.dict=some dx){us:Array Value}(hf:o.data = .fields us)(hn:h.Ns dx mA)(hv:mA name=some v)(hh:handedIn v=true)
  (hq:Q v ⟨h,g,d,t,os⟩):wpAny (model prog w) A (getAttrBy (.ref a) (.str name tk) fill expr) Q E ⟨h,g,d,t,os⟩:=by
 have f3:=PySem.F.attr_ValueError.ga.bind (.ref a)
 have hx0:(expr && onTheHeap (Value.builtin "BaseException.__getattribute__"))=false:=by cases expr <;> rfl
 have hx2:(Value.builtin "BaseException.__getattribute__" == Value.builtin "object.__getattribute__")=false:=by decide +kernel
 have hx1:(onTheHeap (Value.ref C) && Value.builtin "BaseException.__getattribute__" == Value.builtin "object.__getattribute__")=false:=by rw [hx2]; rfl
 have L1:=looks_findIn (M:=model prog w) X F.ga
 have L2':=looks_findIn (M:=model prog w) X F.gt
 have hx:=O.at_
 have hc:=O.cls
 repeat (any_goals (first | assumption | (with_reducible refine wpAny_loadPart_at hx ?_; rw [hc]) | with_reducible refine L1.at ?_ | with_reducible refine L2'.at ?_ | wp_step))
 refine exi_get_call X I F nn O hd hf hn hv ?_
 repeat (any_goals (first | assumption | exact handed_on hh hq | wp_step))
end
structure ExF (K:Frag)(C P f:Addr)(x:Str):Prop where
 i:ExI K C P f
 sa:findIn K (.ref C) "__setattr__" = some (some (.builtin "object.__setattr__"))
 nn:findIn K (.ref C) x=some none
def xdE (a:Addr)(fs:List (Str × V)):HO:=.ext fun h=>∃ mA,h.Ns1 a mA/\(∀ g,RelO (fs.lookup g) (mA g))/\Within mA (fs.map (·.1))
theorem xdE_ok {P:Program}{w:World}{H:Hp}{h:Heap}{a:Addr}{fs:List (Str × V)}{mA:Str->Option Value}(n:h.Ns1 a mA)(r : ∀ g,RelO (fs.lookup g) (mA g))(wi:Within mA (fs.map (·.1))):ObjOk P w H h a (xdE a fs):=by
 obtain ⟨o,es,ep,e,q⟩:=id n
 exact ⟨⟨mA,n,r,wi⟩,⟨o,e⟩,fun h1 h2 ⟨m,n1,r1,w1⟩ k=>⟨m,n1.at k,r1,w1⟩⟩
theorem exN_ok {P:Program}{w:World}{H:Hp}{h:Heap}{a C:Addr}{dd:Option Addr}{o:Obj}{t:Value}(e:h.get? a=some o)(c:o.cls = .ref C)(dq:o.dict=dd)(fd:o.data = .fields #[t,.none,.none,.none,.bool false,.none]):ObjOk P w H h a (exN a C dd) :=
 ⟨⟨o,t,⟨e,c,dq⟩,fd⟩,⟨o,e⟩,fun h1 h2 ⟨o,t,⟨e1,e2,e3⟩,e4⟩ k=>⟨o,t,⟨k o e1,e2,e3⟩,e4⟩⟩
section
variable {X:Cx}{pins:List (Addr × Obj)}{σ:St}{H:Hp}{s:Shared}{o e value:Expr}{x:Str}{pos pos':Pos}{ta tv:TE}{C P f:Addr}
theorem Inv.trackNew {s':Shared}{H':Hp}(I:Inv X pins σ H s)(I':Inv X pins σ H' s'){a:Addr}{u:HO}(hex:X.ex=[])(n:s.heap.get? a=none)(hn:H' a=none)(ok:ObjOk X.prog X.w (upd H' a u) s'.heap a u):Inv X pins σ (upd H' a u) s':=by
 refine I'.track hn (I.absent0 hex n) (fun z => ?_) (fun y c q z => ?_) (fun p q z => ?_) ok
 ·obtain ⟨m,⟨oL,_,_,hoL,_⟩,_⟩:=I.loc
  rw [<- z,n] at hoL
  cases hoL
 ·obtain ⟨v,o,ho,_⟩:=I.cell y c q
  rw [z,n] at ho
  cases ho
 ·have:=(I.pin p q).1
  rw [z,n] at this
  cases this
def sExN (K:Frag)(C P f:Addr)(ta tv:TE)(x:Str):TS:=fun D σ H=>tv σ H fun y H1=>ta σ H1 fun z H2=>∃ a,z = .ref a/\H2 a=some (exN a C none)/\ExF K C P f x /\
 ∀ dx,H2 dx=none->dx ≠ a->D.nx σ (upd (upd H2 a (exN a C (some dx))) dx (xdE dx [(x,y)]))
theorem ps_exN (hex:X.ex=[])(ha:PE X o ta)(hv:PE X value tv)(hs:swapsWith value (some (.Attribute o x pos')) pos.line X.env=pure false):PS X (.Assign [.Attribute o x pos'] value pos) (sExN X.K C P f ta tv x):=by
 intro pins s σ H D I h
 refine plainObj_wpAny_Assign_Attribute (thn (hv pins s σ H _ I h) fun u s1 ⟨y,H1,I1,ry,q⟩=>thn (ha pins s1 σ H1 _ I1 q) fun ov s2 ⟨z,H2,I2,rx,a,ez,ea,F,q2⟩ => ?_) hs
 subst ez
 obtain rfl:ov=Value.ref a:=rx
 obtain ⟨⟨ob,t',⟨o1,o2,o3⟩,o4⟩,_⟩:=I2.hok _ _ ea
 have nz:s2.heap.get? s2.heap.objs.size=none:=Heap.get?_none_of_le (Nat.le_refl _)
 have Hz:H2 s2.heap.objs.size=none:=I2.hok.fresh (Nat.le_refl _)
 have ne:s2.heap.objs.size ≠ a:=Nat.ne_of_gt (Heap.lt_size o1)
 obtain ⟨hh,g,d,tk,os⟩:=s2
 refine exi_set_new I2.kIn (clsI_of I2.kIn F.i.xi) F.i.k F.sa F.nn ⟨o1,o2⟩ o3 o4 fun h' tk' hn' ga ks => ?_
 have J1:Inv X pins σ (upd H2 a (exN a C (some hh.objs.size))) ⟨h',g,d,tk',os⟩:=by
  refine I2.write (x:=a) (e:=a) (t':=tk') (by rw [ea]; exact True.intro) (.inl rfl) ks ⟨_,ga⟩ ?_
  exact exN_ok ga o2 rfl o4
 have J2:=I2.trackNew J1 (a:=hh.objs.size) (u:=xdE hh.objs.size [(x,y)]) hex nz (by rw [upd_ne ne]; exact Hz) (xdE_ok hn' (fun g => ?_) (fun g hg => ?_))
 ·exact ⟨σ,_,J2,q2 _ Hz ne⟩
 ·by_cases z:g=x
  ·subst z
   simp only [List.lookup,beq_self_eq_true,if_true]
   exact ry
  ·have:([(x,y)]:List (Str × V)).lookup g=none:=by
    simp only [List.lookup]
    rw [beq_eq_false_iff_ne.mpr z]
   rw [this,if_neg z]
   exact True.intro
 ·by_cases z:g=x
  ·rw [z]; simp
  ·rw [if_neg z] at hg
   exact absurd rfl hg
end
end L2
namespace L2
open PySem PySem.Spec PyProof.Rows PySem.W PySem.Builtin PySem.Builtin.ObjectAttr
section
variable {prog:Program}{w:World}{A:Around}{E:Value->Shared->Prop}{h:Heap}{g:Array GenState}{d:Drawn}{t:Nat}{os:OsState}{K:Frag}{C P f a:Addr}{o:Obj}{v:Value}
theorem binit_call {Q:Value->Shared->Prop}{rest:List Value}{us:Array Value}{a0:Value}(I:ClsI h C P f)(O:ExAt h a o C)(hf:o.data = .fields us)(h0:us[0]?=some a0)(hz:rest.length<=sizeLine)
  (hq:Q .none ⟨(h.push { cls:=.type "tuple",data:=.seq rest.toArray }).update a (Obj.mapFields (·.setIfInBounds 0 (.ref h.objs.size))),g,d,t,os⟩) :
  wpAny (model prog w) A (call (.builtin "ValueError.__init__") (.ref a :: rest)) Q E ⟨h,g,d,t,os⟩:=by
 obtain ⟨nm,q,N,bs,sn,sub,ab,col,dd,k0,k1,k2,k3,k5,mN,hC,hn,hni,T⟩:=I.ex
 have F:=PySem.F.excBase_ValueError
 have z0:0 < us.size:=(Array.getElem?_eq_some_iff.mp h0).1
 have g1:=Heap.get?_push_of_some (h:=h) { cls:=.type "tuple",data:=.seq rest.toArray } O.at_
 refine wpAny_call (codeAny_call_builtin F.init.plain F.initEntry (wpAny_check_init_subU F T hC O.at_ O.cls ?_))
 unfold Builtin.«BaseException.__init__»
 dsimp only
 rw [if_neg (by simp)]
 unfold newTuple Builtin.BaseException.bexcPut
 refine wpAny_bind (wpAny_newObj_type ?_ (by show rest.toArray.size<=sizeLine; rw [List.size_toArray]; exact hz))
 refine wpAny_bind (wpAny_bind (wpAny_field g1 hf h0 (wpAny_bind (wpAny_setField g1 hf z0 ?_))))
 split
 ·refine wpAny_letGo ?_
  exact wpAny_pure hq
 ·exact wpAny_pure (wpAny_pure hq)
end
structure BaseI (K:Frag)(P:Addr):Prop where
 rd:readsIn K P (.type "type")=true
 fc:findCls K (.ref P) (.type "type") "__init__" = some (.val (.builtin "ValueError.__init__"))
 ga:specialIn K (.ref P) "__getattribute__" = some (some (.builtin "type.__getattribute__"))
section
variable {X:Cx}{C P f:Addr}{x:Str}{p apos pos:Pos}{e₁ e₂:Expr}{t:TA}
def tBInit (K:Frag)(P:Addr)(t:TA):TE:=fun σ H Q=>t σ H fun vs H1=>∃ a C dd f txt,vs=[.ref a,.str txt]/\H1 a=some (exN a C dd)/\ExI K C P f/\Q .non H1
theorem upd_id {H:Hp}{a:Addr}{o:HO}(h:H a=some o):upd H a o=H:=by
 funext b
 by_cases z:b=a
 ·rw [z,upd_same,h]
 ·rw [upd_ne z]
theorem pe_binit {pl:Sem Bool}(hg:Gl X x)(hm:X.mg x=some (.ref P))(B:BaseI X.K P)(ha:PA X [e₁,e₂] t)(hdb:(x == ("__debug__" : Str))=false:=by decide)
  (hst:starEach [e₁,e₂] X.env=(false,eval e₁ X.env) :: starEach [e₂] X.env:=by rfl) (hpl:(backTo pos (starEach [e₂] X.env)).any (·.1)=false:=by rfl)
  (ht:eval (.Call (.Attribute (.Name x p) "__init__" apos) [e₁,e₂] [] pos) X.env=(do
   let ov <- eval (.Name x p) X.env
   standAt apos.atName
   let (f,first) <- holding [ov] (getMethod ov "__init__" pl)
   callWith pos f first (backTo pos (starEach [e₁,e₂] X.env)) (backToKw pos (keywordEach [] X.env))):=by rfl) :
  PE X (.Call (.Attribute (.Name x p) "__init__" apos) [e₁,e₂] [] pos) (tBInit X.K P t):=by
 intro pins s σ H Q I h
 refine PySem.W.methodCall_KW (pl:=pl) (ld_glob I hg hm ?_ hdb) ht
 refine method_cls I.kIn B.ga (cls_value I.kIn B.rd B.fc rfl ?_)
 have I0:=I.tok (s.toks+1)
 have hA:=ha pos pins _ σ H _ I0 h
 rw [hst] at hA ⊢
 refine Calls.callWith_builtin (by show (false || (backTo pos (starEach [e₂] X.env)).any (·.1))=false; rw [hpl] <;> rfl) (Calls.evalArgs_plain (thn hA fun us s2 ⟨vs,H2,I2,r2,a,C,dd,f,txt,e1,ea,F,q2⟩ => ?_))
 subst e1
 obtain ⟨u1,u2,rfl,ra,rt⟩:=r2.two
 obtain rfl:u1=Value.ref a:=ra
 obtain ⟨⟨ob,t',⟨o1,o2,o3⟩,o4⟩,_⟩:=I2.hok _ _ ea
 obtain ⟨hh,g,d,tk,os⟩:=s2
 refine binit_call (clsI_of I2.kIn F.xi) ⟨o1,o2⟩ o4 rfl (by show 1<=sizeLine; decide) ?_
 have g1:=Heap.get?_push_of_some (h:=hh) { cls:=.type "tuple",data:=.seq [u2].toArray } o1
 have d1:=Obj.data_mapFields o4 (·.setIfInBounds 0 (Value.ref hh.objs.size))
 have g2:=Heap.get?_update_self (Obj.mapFields (·.setIfInBounds 0 (Value.ref hh.objs.size))) g1 (Obj.isFreed_of_fields d1)
 have J:Inv X pins σ (upd H2 a (exN a C dd)) ⟨(hh.push { cls:=.type "tuple",data:=.seq [u2].toArray }).update a (Obj.mapFields (·.setIfInBounds 0 (.ref hh.objs.size))),g,d,tk,os⟩:=by
  refine I2.write (x:=a) (e:=a) (t':=tk) (by rw [ea]; exact True.intro) (.inl rfl) (fun b u nb q => ?_) ⟨_,g2⟩ ?_
  ·exact (Heap.get?_update_other _ _ (Ne.symm nb)).trans (Heap.get?_push_of_some _ q)
  ·exact exN_ok g2 ((Obj.cls_mapFields _ _).trans o2) ((dict_mf _ _).trans o3) d1
 rw [upd_id ea] at J
 exact ⟨.non,H2,J,rfl,q2⟩
def tExF (K:Frag)(ta:TE)(x:Str):TE:=fun σ H Q=>ta σ H fun z H1=>∃ a C P f dx fs v,z = .ref a/\H1 a=some (excD a C (some dx))/\H1 dx=some (xdE dx fs)/\ExF K C P f x/\fs.lookup x=some v/\Q v H1
theorem pe_exf {e:Expr}{ta:TE}(he:PE X e ta)(hb:attributeBase e x X.env (eval e X.env)=eval e X.env):PE X (.Attribute e x pos) (tExF X.K ta x):=by
 intro pins s σ H Q I h
 refine attr_of hb (thn (he pins s σ H _ I h) fun u s1 ⟨z,H1,I1,rx,a,C,P,f,dx,fs,v,ez,ea,ed,F,l,q⟩ => ?_)
 subst ez
 obtain rfl:u=Value.ref a:=rx
 obtain ⟨⟨ob,O,od,us,ou⟩,_⟩:=I1.hok _ _ ea
 obtain ⟨⟨mA,n1,r1,_⟩,_⟩:=I1.hok _ _ ed
 obtain ⟨w',hw,rw'⟩:=RelO.some_of (by rw [<- l]; exact r1 x)
 unfold getAttr
 refine wpAny_bind (wpAny_mkText ?_)
 have I2:=I1.tok (s1.toks+1)
 obtain ⟨hh,g,d,tk,os⟩:=s1
 exact exi_get_by I1.kIn (clsI_of I1.kIn F.i.xi) F.i.k F.nn O od ou n1.ns hw (handed_of rw') ⟨v,H1,I2,rw',q⟩
end
end L2
namespace L2
open PySem PySem.Spec PyProof.Rows PySem.W
def FmtV:V->Str->Prop
 | .int i,x=>i.natAbs.log2 < 1920/\x=(toString i:String)
 | .str y,x=>y.length<=sizeLine/\x=y
 | .non,x=>x = "None"
 | _,_=>False
def tFmt (ta:TE):TE:=fun σ H Q=>ta σ H fun v H1=>∃ x,FmtV v x/\Q (.str x) H1
abbrev TJ:=Str->St->Hp->(Str->Hp->Prop)->Prop
def PJ (X:Cx)(es:List Expr)(t:TJ):Prop :=
 ∀ (acc:Str) (pins:List (Addr × Obj)) (s:Shared) (σ:St) (H:Hp) (Q:Str->Hp->Prop),Inv X pins σ H s->t acc σ H Q->wpAny (model X.prog X.w) X.A (joinParts acc (evalEach es X.env)) (EP X pins σ fun v H'=>∃ x,v = .str x/\Q x H') X.xe s
def jNil:TJ:=fun acc _ H Q=>acc.length<=sizeLine/\Q acc H
def jCons (te:TE)(tr:TJ):TJ:=fun acc σ H Q=>te σ H fun v H1=>∃ x,v = .str x/\(acc ++ x).length<=sizeLine/\tr (acc ++ x) σ H1 Q
def tJoin (t:TJ):TE:=fun σ H Q=>t Str.empty σ H fun x H'=>Q (.str x) H'
section
variable {X:Cx}{value e e':Expr}{es:List Expr}{ta te:TE}{tr t:TJ}{pos:Pos}
theorem pe_fmt (ha:PE X value ta):PE X (.FormattedValue value (-1) none pos) (tFmt ta):=by
 intro pins s σ H Q I h
 refine FormattedValue_plain (thn (ha pins s σ H _ I h) fun u s1 ⟨v,H1,I1,rv,x,fx,q⟩ => ?_)
 cases v with
 | int i =>
  obtain ⟨t,rfl⟩:=rv
  obtain ⟨hl,rfl⟩:=fx
  exact formatField_int_small hl ⟨.str _,H1,I1.tok _,⟨_,rfl⟩,q⟩
 | str y =>
  obtain ⟨t,rfl⟩:=rv
  obtain ⟨hl,rfl⟩:=fx
  exact formatField_str (fun t' tk=>⟨.str x,H1,I1.tok _,⟨_,rfl⟩,q⟩) hl
 | non =>
  cases rv
  cases fx
  exact wpAny_formatField_none ⟨.str _,H1,I1.tok _,⟨_,rfl⟩,q⟩
 | bl _=>exact fx.elim
 | byt _=>exact fx.elim
 | flt _=>exact fx.elim
 | ref _=>exact fx.elim
 | ty _=>exact fx.elim
theorem pj_nil:PJ X [] jNil:=fun acc pins s σ H Q I h=>joinParts_nil ⟨.str acc,H,I.tok _,⟨_,rfl⟩,acc,rfl,h.2⟩ h.1
theorem pj_cons (he:PE X e te)(hr:PJ X es tr):PJ X (e :: es) (jCons te tr):=by
 intro acc pins s σ H Q I h
 show wpAny _ _ (joinParts acc (eval e X.env :: evalEach es X.env)) _ _ _
 refine joinParts_cons (thn (he pins s σ H _ I h) fun u s1 ⟨v,H1,I1,rv,x,ev,hz,q⟩ => ?_)
 subst ev
 obtain ⟨t,rfl⟩:=rv
 exact ⟨hz,hr _ pins s1 σ H1 Q I1 q⟩
theorem pe_join (h:PJ X (e :: e' :: es) t):PE X (.JoinedStr (e :: e' :: es) pos) (tJoin t):=by
 intro pins s σ H Q I hw
 refine JoinedStr_many (thn (h _ pins s σ H _ I hw) fun u s1 ⟨v,H1,I1,rv,x,ev,q⟩ => ?_)
 subst ev
 exact ⟨.str x,H1,I1,rv,q⟩
end
end L2
namespace L2
open PySem PySem.Spec PyProof.Rows PySem.W
def Its (x:Str):It:=⟨fun i _=>∃ c,x.cps[i]?=some c,fun i H v H'=>H'=H/\∃ c,x.cps[i]?=some c/\v = .str ⟨#[c]⟩,fun i _=>x.cps[i]?=none⟩
def iStr (tl:TE):TI:=fun σ H R=>tl σ H fun v H1=>∃ x,v = .str x/\R (Its x) H1
section
variable {X:Cx}
end
def rPart:V->List V->Hp->VK->Prop:=fun z vs H Q=>∃ x y,z = .str x/\vs=[.str y]/\(y.length == 0)=false/\x.length<=sizeLine/\∀ p,H p=none->Q (.ref p) (upd H p (.tup [.str (Txt.partition x y).1,.str (Txt.partition x y).2.1,.str (Txt.partition x y).2.2]))
def rSplit:V->List V->Hp->VK->Prop:=fun z vs H Q=>∃ x y,z = .str x/\vs=[.str y]/\(y.length == 0)=false/\x.length+2<=sizeLine/\∀ p,H p=none->Q (.ref p) (upd H p (.lst ((Txt.split x y).map V.str)))
section
variable {X:Cx}
end
end L2
namespace L2
open PySem PySem.Spec PyProof.Rows PySem.W
section
variable {X:Cx}
theorem truth_bl {prog:Program}{w:World}{A:Around}{b:Bool}{s:Shared}{Q:Bool->Shared->Prop}{E:Value->Shared->Prop}(h:Q b s):wpAny (model prog w) A (truthy (.bool b)) Q E s:=by
 cases b <;> exact wpAny_pure h
theorem range_any {bs:List Bool}:(List.range bs.length).any (fun i=>bs.getD i false)=bs.any id:=by
 rw [Bool.eq_iff_iff]
 simp only [List.any_eq_true,List.mem_range,id]
 constructor
 ·rintro ⟨i,hi,h⟩
  exact ⟨bs[i],List.getElem_mem hi,by simpa [List.getD,hi] using h⟩
 ·rintro ⟨b,hb,h⟩
  obtain ⟨i,hi,rfl⟩:=List.getElem_of_mem hb
  exact ⟨i,hi,by simpa [List.getD,hi] using h⟩
theorem range_all {bs:List Bool}:(List.range bs.length).all (fun i=>bs.getD i false)=bs.all id:=by
 rw [Bool.eq_iff_iff]
 simp only [List.all_eq_true,List.mem_range,id]
 constructor
 ·intro h b hb
  obtain ⟨i,hi,rfl⟩:=List.getElem_of_mem hb
  simpa [List.getD,hi] using h i hi
 ·intro h i hi
  simpa [List.getD,hi] using h bs[i] (List.getElem_mem hi)
theorem walk_bools {pins:List (Addr × Obj)}{σ:St}{H:Hp}{s:Shared}(I:Inv X pins σ H s)(hc:X.calm=true){p:Addr}{bs:List Bool}(hq:SqL X.K H p (bs.map V.bl)){E:Value->Shared->Prop}{k:(Nat->Bool)->Nat->Bool}{Q:VK}(q:Q (.bl (k (fun i=>bs.getD i false) bs.length)) H) :
  wpAny (model X.prog X.w) X.A.in1 (pyIter (.ref p)) (fun it s₂=>∃ J fp wr n P St tr,it = .ref J/\Walks X.prog X.w X.A.in1 J fp wr n P St/\St 0 s₂.heap/\TruthOf X.prog X.w X.A.in1 P tr /\
   ∀ h' tk,(∀ b o,b ∉ wr->s₂.heap.get? b=some o->h'.get? b=some o)->EP X pins σ Q (.bool (k tr n)) { s₂ with heap:=h',toks:=tk }) E s:=by
 obtain ⟨its,rv,pl,hz⟩:=I.list hq
 have hl:=rv.length
 rw [List.length_map] at hl
 have ne:p ≠ s.heap.objs.size:=by
  obtain ⟨o,n,e,_⟩:=pl
  exact Nat.ne_of_lt (Heap.lt_size e)
 refine wpAny_pyIter_list pl.isList ?_
 have keep : ∀ b o,s.heap.get? b=some o->(s.heap.push { cls:=.type "list_iterator",data:=.fields #[.ref p,.int 0 0] }).get? b=some o:=fun b o e=>Heap.get?_push_of_some _ e
 refine ⟨s.heap.objs.size,_,_,_,_,_,fun i=>bs.getD i false,rfl,Walks.list (A:=X.A.in1) (show X.A.in1.handled=none from I.ok.hd hc) s.heap.objs.size p ne its.toArray,⟨⟨_,Heap.get?_push_size _ rfl,rfl,rfl⟩,pl.isList.at fun o e=>keep p o e⟩,?_,?_⟩
 ·intro i v s' Q' E' hv hQ
  have hv':its[i]?=some v:=by simpa using hv
  have hi:i < bs.length:=by rw [hl]; exact (List.getElem?_eq_some_iff.mp hv').1
  obtain ⟨u,hu,ru⟩:=rv.get (show (bs.map V.bl)[i]?=some (.bl bs[i]) by simp [hi])
  rw [hv'] at hu
  cases hu
  cases ru
  have e:bs.getD i false=bs[i]:=by simp [List.getD,hi]
  dsimp only at hQ
  rw [e] at hQ
  exact truth_bl hQ
 ·intro h' tk kp
  have J:Inv X pins σ H { s with heap:=h',toks:=tk }:=I.kept (t':=tk) fun b o e=>kp b o (by
   have lt:=Heap.lt_size e
   intro z
   have z':b=s.heap.objs.size:=by simpa using z
   rw [z'] at lt
   exact Nat.lt_irrefl _ lt) (keep b o e)
  have es:its.toArray.size=bs.length:=by rw [List.size_toArray]; omega
  rw [es]
  exact ⟨.bl _,H,J,rfl,q⟩
theorem call_allB (hc:X.calm=true):CallR X (.builtin "all") (fun xs H Q=>∃ p,∃ bs:List Bool,xs=[.ref p]/\SqL X.K H p (bs.map V.bl)/\Q (.bl (bs.all id)) H):=by
 intro pins s σ H xs us Q I r h
 obtain ⟨p,bs,rfl,hq,q⟩:=h
 obtain ⟨u,rfl,rx⟩:=vals1 r
 cases rx
 exact call_all_walk (walk_bools I hc hq (k:=fun tr n=>(List.range n).all tr) (by rw [range_all]; exact q))
theorem sl_str:SlR X (fun x lo hi H Q=>∃ a,x = .str a/\a.length<=sizeLine/\Q (.str (Txt.slice a lo hi)) H):=by
 intro pins s σ H x v vl vu lo hi sl Q I rx hs pl pu h
 obtain ⟨a,rfl,hz,q⟩:=h
 obtain ⟨t,rfl⟩:=rx
 refine ⟨"str",_,PySem.F.slot_str_getitem.lookup,typeIs_str _ _ _,?_⟩
 have fin : ∀ t' k,EP X pins σ Q (.str (Txt.slice a lo hi) t') { s with toks:=k }:=fun t' k=>⟨.str _,H,I.tok _,⟨_,rfl⟩,q⟩
 cases pl with
 | none=>cases pu with
  | none=>exact wpAny_getItem_str_slice (l:=none) (u:=none) (st:=none) hs rfl (post_val_or_str ⟨Nat.le_trans (Txt.slice_le a _ _) hz,fin⟩)
  | int j tj=>exact wpAny_getItem_str_slice (l:=none) (u:=some (j,tj)) (st:=none) hs rfl (post_val_or_str ⟨Nat.le_trans (Txt.slice_le a _ _) hz,fin⟩)
 | int i ti=>cases pu with
  | none=>exact wpAny_getItem_str_slice (l:=some (i,ti)) (u:=none) (st:=none) hs rfl (post_val_or_str ⟨Nat.le_trans (Txt.slice_le a _ _) hz,fin⟩)
  | int j tj=>exact wpAny_getItem_str_slice (l:=some (i,ti)) (u:=some (j,tj)) (st:=none) hs rfl (post_val_or_str ⟨Nat.le_trans (Txt.slice_le a _ _) hz,fin⟩)
theorem op_eqE (hu:X.A.units+64 < cLine):OpR X (compareOp .Eq) (fun x y H Q=>∃ a b xs,x = .ref a/\y = .ref b/\SqL X.K H a xs/\SqL X.K H b []/\Q (.bl xs.isEmpty) H):=by
 intro pins s σ H x y v u Q I rx ry h
 obtain ⟨a,b,xs,rfl,rfl,ha,hb,q⟩:=h
 cases rx
 cases ry
 obtain ⟨its,r,p,_⟩:=I.list ha
 obtain ⟨its',r',p',_⟩:=I.list hb
 cases r'
 cases r with
 | nil=>exact SeqAt.RcAt.lists (A:=X.A) (e:=fun _=>true) p.isList p'.isList rfl (by omega) (fun j h1=>absurd h1 (by simp)) X.prog X.w X.xe _ ⟨.bl _,H,I,rfl,q⟩
 | cons r t=>exact SeqAt.RcAt.lists_lengths (A:=X.A) p.isList p'.isList rfl (by omega) X.prog X.w X.xe _ ⟨.bl _,H,I,rfl,q⟩
theorem op_neE (hu:X.A.units+64 < cLine):OpR X (compareOp .NotEq) (fun x y H Q=>∃ a b xs,x = .ref a/\y = .ref b/\SqL X.K H a xs/\SqL X.K H b []/\Q (.bl (!xs.isEmpty)) H):=by
 intro pins s σ H x y v u Q I rx ry h
 obtain ⟨a,b,xs,rfl,rfl,ha,hb,q⟩:=h
 cases rx
 cases ry
 obtain ⟨its,r,p,_⟩:=I.list ha
 obtain ⟨its',r',p',_⟩:=I.list hb
 cases r'
 cases r with
 | nil=>exact SeqAt.RcNeAt.lists (A:=X.A) (e:=fun _=>true) p.isList p'.isList rfl (by omega) (fun j h1=>absurd h1 (by simp)) X.prog X.w X.xe _ ⟨.bl _,H,I,rfl,q⟩
 | cons r t=>exact SeqAt.RcNeAt.lists_lengths (A:=X.A) p.isList p'.isList rfl (by omega) X.prog X.w X.xe _ ⟨.bl _,H,I,rfl,q⟩
end
end L2
namespace TM
open PySem PySem.NumText
def dg (n:Nat):List Nat:=(Nat.toDigits 10 n).map Char.toNat
structure Fig (cs:List Nat):Prop where
 ne:cs ≠ []
 len:cs.length<=60
 all:AllDigits cs
 no:cs.head?=some 48->cs.length=1
def Reads (L:List Nat)(t b:Nat):Prop :=
 (Fig L/\t=digitsVal L/\b=1)\/∃ p q,L=p ++ 47 :: q/\Fig p/\Fig q/\t=digitsVal p/\b=digitsVal q/\2<=b/\Nat.gcd t b=1
def showL (t b:Nat):List Nat:=if b=1 then dg t else dg t ++ 47 :: dg b
end TM
namespace TM
open PySem PySem.StrLaws PySem.Builtin PySem.Builtin.Str
abbrev cps (x:Str):List Nat:=x.cps.toList
abbrev sl:Str:=⟨#[47]⟩
theorem ext {x y:Str}(h:cps x=cps y):x=y:=by
 obtain ⟨⟨a⟩⟩:=x
 obtain ⟨⟨b⟩⟩:=y
 have h':a=b:=h
 rw [h']
theorem cps_append' (x y:Str):cps (x ++ y)=cps x ++ cps y:=by
 show (x.cps ++ y.cps).toList=_
 rw [Array.toList_append]
end TM
namespace L2
open PySem PySem.Spec PyProof.Rows PySem.W
theorem count_eqU {x:V} : ∀ {xs:List V} {us:List Value},Vals xs us->xs.all flatV=true->us.countP (eqU x)=xs.countP fun y=>eqV y x
 | _,_,.nil,_=>rfl
 | _,_,.cons r t,h=>by
  simp only [List.all_cons,Bool.and_eq_true] at h
  rw [List.countP_cons,List.countP_cons,count_eqU t h.2,eqU_of r h.1]
def rCount:V->List V->Hp->VK->Prop:=fun x vs H Q=>∃ l xs y,x = .ref l/\vs=[y]/\H l=some (.lst xs)/\flatV y=true/\xs.all flatV=true/\Q (.int ((xs.countP fun z=>eqV z y:Nat):Int)) H
def rIndex:V->List V->Hp->VK->Prop:=fun x vs H Q=>∃ l xs y,∃ j:Nat,∃ z,x = .ref l/\vs=[y]/\H l=some (.lst xs)/\flatV y=true/\xs.all flatV=true/\xs[j]?=some z/\eqV z y=true /\
 (∀ m z,m < j->xs[m]?=some z->eqV z y=false)/\Q (.int (j:Int)) H
section
variable {X:Cx}
theorem mt_count:MtR X "list.count" rCount:=by
 intro pins s σ H x vs v us Q I rx rv h
 obtain ⟨l,xs,y,rfl,rfl,hH,fy,fx,q⟩:=h
 cases rx
 obtain ⟨u,rfl,ru⟩:=rv.one
 obtain ⟨z,its,n,r,hl,e⟩:=I.lstM hH
 refine call_meets PySem.F.slot_list_count ⟨_,e,rfl⟩ PySem.F.entry_list_count (PySem.F.args_list_count_2 _ _) (SeqAt.list_countAt l its.toArray n none #[] u (eqU y)) ⟨e,fun u' hu'=>mem_eqAt ru fy r fx u' (by simpa using hu'),?_⟩
 rw [show its.toArray.toList=its from rfl,count_eqU r fx]
 exact ⟨.int _,H,I.tok _,⟨_,rfl⟩,q⟩
theorem mt_index:MtR X "list.index" rIndex:=by
 intro pins s σ H x vs v us Q I rx rv h
 obtain ⟨l,xs,y,j,z,rfl,rfl,hH,fy,fx,hz,hit,hno,q⟩:=h
 cases rx
 obtain ⟨u,rfl,ru⟩:=rv.one
 obtain ⟨hs,its,n,r,hl,e⟩:=I.lstM hH
 have hj:j < xs.length:=(List.getElem?_eq_some_iff.mp hz).1
 have fl : ∀ (m:Nat) z,xs[m]?=some z->flatV z=true:=fun m z hm=>List.all_eq_true.mp fx z (List.mem_of_getElem? hm)
 have at' : ∀ (m:Nat) z,xs[m]?=some z->∀ hm:m < its.toArray.size,eqU y its.toArray[m]=eqV z y:=fun m z hm hm'=>by
  obtain ⟨u1,hu1,ru1⟩:=r.get hm
  have e1:its.toArray[m]=u1:=by
   have:=(List.getElem?_eq_some_iff.mp hu1).2
   simpa using this
  rw [e1,eqU_of ru1 (fl m z hm)]
 have hj':j < its.toArray.size:=by rw [List.size_toArray,<- hl]; exact hj
 have hsl:sizeLine < 2 ^ 62:=by decide +kernel
 refine call_meets PySem.F.slot_list_index ⟨_,e,rfl⟩ PySem.F.entry_list_index (PySem.F.args_list_index_2 _ _) (SeqAt.list_indexAt l its.toArray n none #[] u (eqU y) j hj' (by omega) ((at' j z hz hj').trans hit) (fun m hm hlt => ?_)) ⟨e,fun u' hu'=>mem_eqAt ru fy r fx u' (by simpa using hu'),?_⟩
 ·obtain ⟨z',hz'⟩ : ∃ z',xs[m]?=some z':=⟨_,List.getElem?_eq_getElem (by omega)⟩
  rw [at' m z' hz' hm]
  exact hno m z' hlt hz'
 ·exact ⟨.int _,H,I.tok _,⟨_,rfl⟩,q⟩
end
theorem bt_val:bootBuiltins "ValueError" = some (.type "ValueError"):=by decide +kernel
def Nx (n i:Nat)(P:Prop):Prop:=∃ m',m' < n - i/\m'=n - (i+1)/\i+1<=n/\P
theorem blkN_none {X:Cx}{scope:Scope}{N':List Str}{cl:List (Str × Addr)}{σ:St}:BlkN X N' scope cl σ (List.replicate N'.length none):=by
 refine ⟨by simp,fun i x v h1 h2 => ?_⟩
 rw [List.getElem?_replicate] at h2
 split at h2 <;> cases h2
end L2
namespace L2
open PySem PySem.Spec PyProof.Rows
def dcE (a:Addr):HO:=.ext fun h=>∃ o,h.get? a=some o/\o.cls = .type "dict"
def tDict0:TE:=fun _ H Q=>∀ p,H p=none->Q (.ref p) (upd H p (dcE p))
section
variable {X:Cx}{pos:Pos}
def IsiD (K:PySem.W.Frag)(H:Hp)(v:V)(T:String)(b:Bool):Prop:=Isi K H v T b\/∃ a,v = .ref a/\H a=some (dcE a)/\T = "str" /\ b=false
end
end L2
namespace L2
open PySem PySem.Spec PyProof.Rows
def rEqL (K:PySem.W.Frag):R2:=fun x y H Q=>∃ a b xs ys,∃ e:Nat->Bool,x = .ref a/\y = .ref b/\SqL K H a xs/\SqL K H b ys/\(∀ (j:Nat) x y,xs[j]?=some x->ys[j]?=some y->DEq K H 40 x y (e j)) /\
 Q (.bl ((List.range (min xs.length ys.length)).all e && xs.length == ys.length)) H
def rNeL (K:PySem.W.Frag):R2:=fun x y H Q=>∃ a b xs ys,∃ e:Nat->Bool,x = .ref a/\y = .ref b/\SqL K H a xs/\SqL K H b ys/\(∀ (j:Nat) x y,xs[j]?=some x->ys[j]?=some y->DEq K H 40 x y (e j)) /\
 Q (.bl (!((List.range (min xs.length ys.length)).all e && xs.length == ys.length))) H
section
variable {X:Cx}
theorem nels_at {pins:List (Addr × Obj)}{σ:St}{H:Hp}{s:Shared}(I:Inv X pins σ H s){A:Around}{a b:Addr}{xs ys:List V}{e:Nat->Bool}(hx:SqL X.K H a xs)(hy:SqL X.K H b ys)(hu:A.units < cLine)
  (hd : ∀ (j:Nat) x y u v,xs[j]?=some x->ys[j]?=some y->RelV x u->RelV y v->SeqAt.EqAt A.in1 s u v (e j)) :
  SeqAt.RcNeAt A s (.ref a) (.ref b) (!((List.range (min xs.length ys.length)).all e && xs.length == ys.length)):=by
 obtain ⟨its,r,tx,_⟩:=I.list hx
 obtain ⟨its',r',ty,_⟩:=I.list hy
 have l1:=r.length
 have l2:=r'.length
 by_cases hl:xs.length=ys.length
 ·have q:=SeqAt.RcNeAt.lists (A:=A) (e:=e) (isList_of tx) (isList_of ty) (by rw [List.size_toArray,List.size_toArray]; omega) hu (fun j h1 h2 => ?_)
  ·rw [List.size_toArray,<- l1] at q
   have e1:((List.range (min xs.length ys.length)).all e && xs.length == ys.length)=(List.range xs.length).all e:=by
    rw [<- hl,Nat.min_self,beq_self_eq_true,Bool.and_true]
   rw [e1]
   exact q
  ·rw [List.size_toArray] at h1 h2
   obtain ⟨x,hxj⟩ : ∃ x,xs[j]?=some x:=⟨_,List.getElem?_eq_getElem (by omega)⟩
   obtain ⟨y,hyj⟩ : ∃ y,ys[j]?=some y:=⟨_,List.getElem?_eq_getElem (by omega)⟩
   obtain ⟨u1,hu1,ru1⟩:=r.get hxj
   obtain ⟨u2,hu2,ru2⟩:=r'.get hyj
   have e1:its.toArray[j]=u1:=by
    have:=(List.getElem?_eq_some_iff.mp hu1).2
    simpa using this
   have e2:its'.toArray[j]=u2:=by
    have:=(List.getElem?_eq_some_iff.mp hu2).2
    simpa using this
   rw [e1,e2]
   exact hd j x y u1 u2 hxj hyj ru1 ru2
 ·have q:=SeqAt.RcNeAt.lists_lengths (A:=A) (isList_of tx) (isList_of ty) (by rw [List.size_toArray,List.size_toArray,<- l1,<- l2,bne_iff_ne]; exact hl) hu
  have e1:((List.range (min xs.length ys.length)).all e && xs.length == ys.length)=false:=by
   rw [beq_eq_false_iff_ne.mpr hl,Bool.and_false]
  rw [e1]
  exact q
theorem op_neL (hu:X.A.units+64 < cLine):OpR X (compareOp .NotEq) (rNeL X.K):=by
 intro pins s σ H x y v u Q I rx ry h
 obtain ⟨a,b,xs,ys,e,rfl,rfl,hx,hy,hd,q⟩:=h
 cases rx; cases ry
 exact nels_at I hx hy (by omega) (fun j x y u v h1 h2 r1 r2=>(hd j x y h1 h2).at I (by show X.A.units+1+40 < cLine; omega) r1 r2) X.prog X.w X.xe _ ⟨.bl _,H,I,rfl,q⟩
end
def Sf (v:V):Prop:=flatV v=true\/∃ a,v = .ref a
theorem eqV_self {v:V}(h:flatV v=true):eqV v v=true:=by
 cases v <;> simp_all [flatV,eqV]
theorem DEq.self {K:PySem.W.Frag}{H:Hp}{n:Nat}{v:V}(h:Sf v):DEq K H n v v true:=by
 rcases h with h | ⟨a,rfl⟩
 ·have:=DEq.flat (K:=K) (H:=H) (n:=n) h h
  rwa [eqV_self h] at this
 ·exact .same
theorem all_true (n:Nat)(m:Nat)(h:n=m):((List.range (min n m)).all (fun _=>true) && n == m)=true:=by
 subst h
 rw [beq_self_eq_true,Bool.and_true,List.all_eq_true]
 exact fun _ _=>rfl
def rNeLs (K:PySem.W.Frag):R2:=fun x y H Q=>∃ a b xs,x = .ref a/\y = .ref b/\SqL K H a xs/\SqL K H b xs/\(∀ v ∈ xs,Sf v)/\Q (.bl false) H
theorem op_neLs {X:Cx}(hu:X.A.units+64 < cLine):OpR X (compareOp .NotEq) (rNeLs X.K):=by
 intro pins s σ H x y v u Q I rx ry h
 obtain ⟨a,b,xs,rfl,rfl,hx,hy,hd,q⟩:=h
 refine op_neL hu pins s σ H _ _ v u Q I rx ry ⟨a,b,xs,xs,fun _=>true,rfl,rfl,hx,hy,fun j x y h1 h2 => ?_,?_⟩
 ·rw [h1] at h2
  cases h2
  exact DEq.self (hd _ (List.mem_of_getElem? h1))
 ·rw [all_true _ _ rfl]
  exact q
end L2
namespace L2
open PySem PySem.Spec PyProof.Rows
theorem bt_list:bootBuiltins "list" = some (.type "list"):=by decide +kernel
theorem bt_dict:bootBuiltins "dict" = some (.type "dict"):=by decide +kernel
def Tk (H H':Hp):Prop:=∀ b ys,H b=some (.tup ys)->H' b=some (.tup ys)
theorem Same.tk {H H':Hp}(s:Same H H'):Tk H H':=fun b ys e=>s b _ e
theorem Tk.trans {H H1 H2:Hp}(h:Tk H H1)(k:Tk H1 H2):Tk H H2:=fun b ys e=>k b ys (h b ys e)
theorem Tk.lst {H:Hp}{l:Addr}{xs:List V}{o:HO}(h:H l=some (.lst xs)):Tk H (upd H l o):=fun b ys e=>by
 have ne:b ≠ l:=fun z=>by rw [z,h] at e; cases e
 rw [upd_ne ne]
 exact e
theorem sz1000 {n:Nat}(h:n<=1000):n<=sizeLine:=Nat.le_trans h (by decide)
def starFree:Expr->Bool
 | .Starred .. => false
 | _=>true
end L2
namespace L2
open PySem PySem.Spec PyProof.Rows
inductive Dt where
 | i (n:Int)
 | s (x:Str)
 | b (k:Bool)
 | n
 | t (l:List Dt)
def SqZ (K:PySem.W.Frag)(H:Hp)(a:Addr)(xs:List V):Prop:=H a=some (.tup xs)\/∃ (o:Obj) (its:Array Value) (n:Nat),K.lookup a=some o/\o.cls = .type "tuple" /\ o.data = .seq its n/\its.size<=sizeLine/\Vals xs its.toList
inductive Dv (K:PySem.W.Frag)(H:Hp):Nat->V->Dt->Prop where
 | i {n m}:Dv K H n (.int m) (.i m)
 | s {n x}:Dv K H n (.str x) (.s x)
 | b {n k}:Dv K H n (.bl k) (.b k)
 | n {n}:Dv K H n .non .n
 | t {n a xs ds}:SqZ K H a xs->xs.length=ds.length->(∀ (j:Nat) x d,xs[j]?=some x->ds[j]?=some d->Dv K H n x d)->Dv K H (n+1) (.ref a) (.t ds)
def DL (K:PySem.W.Frag)(H:Hp)(n:Nat)(xs:List V)(ds:List Dt):Prop:=xs.length=ds.length/\∀ (j:Nat) x d,xs[j]?=some x->ds[j]?=some d->Dv K H n x d
def rEqDL (K:PySem.W.Frag):R2:=fun x y H Q=>∃ a b xs ys ds,x = .ref a/\y = .ref b/\SqL K H a xs/\SqL K H b ys/\DL K H 40 xs ds/\DL K H 40 ys ds/\Q (.bl true) H
def rNeDL (K:PySem.W.Frag):R2:=fun x y H Q=>∃ a b xs ys ds,x = .ref a/\y = .ref b/\SqL K H a xs/\SqL K H b ys/\DL K H 40 xs ds/\DL K H 40 ys ds/\Q (.bl false) H
def rEqDT (K:PySem.W.Frag):R2:=fun x y H Q=>∃ a b xs ys ds,x = .ref a/\y = .ref b/\SqT K H a xs/\SqT K H b ys/\DL K H 40 xs ds/\DL K H 40 ys ds/\Q (.bl true) H
def rNeDT (K:PySem.W.Frag):R2:=fun x y H Q=>∃ a b xs ys ds,x = .ref a/\y = .ref b/\SqT K H a xs/\SqT K H b ys/\DL K H 40 xs ds/\DL K H 40 ys ds/\Q (.bl false) H
section
variable {X:Cx}
end
end L2
namespace L2
open PySem PySem.Spec PyProof.Rows
theorem closure_go {env:Env} : ∀ (names:List (Str × NameKind)) (acc:List (Str × Addr)),(∀ y ∈ names,y.2=NameKind.free->∃ c,env.cells.lookup y.1=some c)->(∀ x c,acc.lookup x=some c->env.cells.lookup x=some c) ->
  ∃ cl,(forIn (m:=Sem) names acc (fun x r=>do if (x.2 == NameKind.free)=true then do let c <- cellOf env x.1; pure (ForInStep.yield ((x.1,c) :: r)) else pure (ForInStep.yield r)))=pure cl /\
   (∀ x c,cl.lookup x=some c->env.cells.lookup x=some c)/\(∀ y ∈ names,y.2=NameKind.free->∃ c,cl.lookup y.1=some c)/\∀ x,(∃ c,acc.lookup x=some c)->∃ c,cl.lookup x=some c
 | [],acc,_,h2=>⟨acc,rfl,h2,(fun y hy=>by simp at hy),fun _ h=>h⟩
 | y :: r,acc,h1,h2=>by
  by_cases e:y.2=NameKind.free
  ·obtain ⟨c,hc⟩:=h1 y List.mem_cons_self e
   obtain ⟨cl,e1,e2,e3,e4⟩:=closure_go r ((y.1,c) :: acc) (fun z hz=>h1 z (List.mem_cons_of_mem _ hz)) (fun x d hx=>by
    rw [List.lookup_cons] at hx
    split at hx
    ·rename_i hb
     have:x=y.1:=eq_of_beq hb
     rw [this,hc]
     exact hx
    ·exact h2 x d hx)
   refine ⟨cl,?_,e2,fun z hz ez => ?_,fun x hx=>e4 x ?_⟩
   ·rw [List.forIn_cons,if_pos (by rw [e]; rfl)]
    unfold cellOf
    rw [hc]
    simp only [pure_bind]
    exact e1
   ·rcases List.mem_cons.mp hz with rfl | hz
    ·exact e4 z.1 ⟨c,by rw [List.lookup_cons,beq_self_eq_true]⟩
    ·exact e3 z hz ez
   ·obtain ⟨d,hd⟩:=hx
    rw [List.lookup_cons]
    split
    ·exact ⟨c,rfl⟩
    ·exact ⟨d,hd⟩
  ·obtain ⟨cl,e1,e2,e3,e4⟩:=closure_go r acc (fun z hz=>h1 z (List.mem_cons_of_mem _ hz)) h2
   refine ⟨cl,?_,e2,fun z hz ez => ?_,e4⟩
   ·rw [List.forIn_cons,if_neg (by intro z; exact e (eq_of_beq z))]
    simp only [pure_bind]
    exact e1
   ·rcases List.mem_cons.mp hz with rfl | hz
    ·exact absurd ez e
    ·exact e3 z hz ez
theorem closure_ok {scope:Scope}{env:Env}(h : ∀ y ∈ scope.names,y.2=NameKind.free->∃ c,env.cells.lookup y.1=some c) :
  ∃ cl,closureFor scope env=pure cl/\(∀ x c,cl.lookup x=some c->env.cells.lookup x=some c)/\∀ y ∈ scope.names,y.2=NameKind.free->∃ c,cl.lookup y.1=some c:=by
 obtain ⟨cl,e1,e2,e3,_⟩:=closure_go (env:=env) scope.names [] h (fun x c e=>by simp at e)
 refine ⟨cl,?_,e2,e3⟩
 simp only [closureFor]
 rw [show (forIn (m:=Sem) scope.names [] fun x r=>if (x.2 == NameKind.free)=true then (do let c <- cellOf env x.1; pure (ForInStep.yield ((x.1,c) :: r))) else pure (ForInStep.yield r))=pure cl from e1]
 rfl
theorem relabel_from {scope:Scope}{env:Env}{x:Str}(hc : ∀ y ∈ scope.names,y.2 ≠ NameKind.cell)(h:(relabel scope env).names.lookup x=some .cell\/(relabel scope env).names.lookup x=some .free) : ∃ y ∈ scope.names,y.1=x/\y.2=NameKind.free:=by
 have e' : ∃ k,(k=NameKind.cell\/k=NameKind.free)/\(relabel scope env).names.lookup x=some k:=by
  rcases h with e | e
  ·exact ⟨_,.inl rfl,e⟩
  ·exact ⟨_,.inr rfl,e⟩
 obtain ⟨k,hk,e⟩:=e'
 have hm:=PySem.mem_of_lookup e
 obtain ⟨y,hy,hy2⟩:=List.mem_map.mp hm
 obtain ⟨n,kk⟩:=y
 have hn:=hc _ hy
 simp only at hy2 hn
 split at hy2
 ·rename_i hf
  injection hy2 with a1 a2
  subst a1
  simp only [Bool.and_eq_true] at hf
  exact ⟨(n,kk),hy,rfl,eq_of_beq hf.1.1⟩
 ·injection hy2 with a1 a2
  subst a1 a2
  rcases hk with rfl | rfl
  ·exact absurd rfl hn
  ·exact ⟨_,hy,rfl,rfl⟩
theorem clOk_of {X:Cx}(ok:X.Ok){scope:Scope}(hc : ∀ y ∈ scope.names,y.2 ≠ NameKind.cell)(h : ∀ y ∈ scope.names,y.2=NameKind.free->X.env.kindOf y.1=some .cell\/X.env.kindOf y.1=some .free) : ∃ cl,ClOk X scope cl:=by
 obtain ⟨cl,e1,e2,e3⟩:=closure_ok (scope:=scope) (env:=X.env) fun y hy ey=>ok.has y.1 (h y hy ey)
 refine ⟨cl,e1,e2,fun x hx => ?_⟩
 obtain ⟨y,hy,rfl,ey⟩:=relabel_from hc hx
 exact e3 y hy ey
theorem pe_compC {X:Cx}{elt tg iter:Expr}{ifs:List Expr}{scope:Scope}{pos:Pos}{N':List Str}{wi:TI}{g:TG}{tt:TT}{te:TE}(σf:St->St)
  (hc:X.calm=true) (hkind:scope.kind = .function) (hcell : ∀ y ∈ scope.names,y.2 ≠ .cell) (hnames : ∀ y ∈ scope.names,y.2 = .local->scope.names.lookup y.1=some .local)
  (hk : ∀ y ∈ scope.names,y.2=NameKind.free->X.env.kindOf y.1=some .cell\/X.env.kindOf y.1=some .free)
  (hN : ∀ cl (σ:St),σ.length=X.N.length->BlkN X N' scope cl σ (σf σ)) (hi:PI X tg iter wi)
  (hg : ∀ cl C s₀ H₀ ex pn,PG (blk X N' scope cl C s₀ H₀ ex pn) tg g) (ht : ∀ cl C s₀ H₀ ex pn,PIfs (blk X N' scope cl C s₀ H₀ ex pn) ifs tt) (he : ∀ cl C s₀ H₀ ex pn,PE (blk X N' scope cl C s₀ H₀ ex pn) elt te)
  (hs : ∀ x,foldedSetIterable iter X.env x=pure x:=by intro _; rfl):PE X (.ListComp elt [⟨tg,iter,ifs,0⟩] scope pos) (tComp σf wi g tt te):=by
 intro pins s σ H Q I h
 obtain ⟨cl,hcl⟩:=clOk_of I.ok hcell hk
 exact pe_comp σf hc hkind hcell hnames hcl (hN cl) hi (hg cl) (ht cl) (he cl) hs pins s σ H Q I h
theorem hk_of {X:Cx}{scope sc:Scope}(hs:X.env.scope=sc)(h:(scope.names.all fun y=>y.2 != NameKind.free || sc.names.lookup y.1 == some NameKind.cell || sc.names.lookup y.1 == some NameKind.free)=true) :
  ∀ y ∈ scope.names,y.2=NameKind.free->X.env.kindOf y.1=some .cell\/X.env.kindOf y.1=some .free:=fun y hy ey=>by
 have q:=List.all_eq_true.mp h y hy
 unfold Env.kindOf
 rw [hs]
 rw [ey] at q
 simp only [bne_self_eq_false,Bool.false_or,Bool.or_eq_true] at q
 rcases q with q | q
 ·exact .inl (eq_of_beq q)
 ·exact .inr (eq_of_beq q)
theorem lookup_relabel_free {env:Env}{x:Str}(hk:env.scope.kind = .function)(hx:env.kindOf x=some .cell) : ∀ {names:List (Str × NameKind)},names.lookup x=some .free ->
    (names.map fun (n,k)=>if (k == NameKind.free && env.scope.kind == .function && env.kindOf n == some .cell) then (n,NameKind.cell) else (n,k)).lookup x=some .cell
  | [],h=>by simp at h
  | (n,k) :: r,h=>by
    rw [List.map_cons]
    rw [List.lookup_cons] at h
    by_cases e:(x == n)=true
    · rw [e] at h
      have e':x=n:=eq_of_beq e
      subst e'
      have hf:k=NameKind.free:=Option.some.inj h
      subst hf
      have c:(NameKind.free == NameKind.free && env.scope.kind == .function && env.kindOf x == some .cell)=true:=by rw [hk,hx]; rfl
      rw [show (match ((x,NameKind.free):Str × NameKind) with | (n,k)=>if (k == NameKind.free && env.scope.kind == .function && env.kindOf n == some .cell)=true then (n,NameKind.cell) else (n,k))=(x,NameKind.cell) from if_pos c]
      rw [List.lookup_cons,beq_self_eq_true]
    · have e0:(x == n)=false:=by simpa using e
      rw [e0] at h
      have ih:=lookup_relabel_free hk hx h
      have en : ∀ q:Str × NameKind,q.1=n->(q :: (r.map fun (n,k)=>if (k == NameKind.free && env.scope.kind == .function && env.kindOf n == some .cell) then (n,NameKind.cell) else (n,k))).lookup x=some .cell:=fun q hq=>by
        obtain ⟨q1,q2⟩:=q
        simp only at hq
        subst hq
        rw [List.lookup_cons,e0]
        exact ih
      refine en _ ?_
      show (if _ then (n,NameKind.cell) else (n,k)).1=n
      split <;> rfl
theorem blkN_by {X:Cx}{N' N:List Str}{scope sc:Scope}{cl:List (Str × Addr)}{σ:St}(ts:List (Option Nat))(hN:X.N=N)(hsc:X.env.scope=sc)(hl:ts.length=N'.length)(hk:sc.kind = .function)
  (h:((ts.zip N').all fun p=>match p.1 with | none=>true | some j=>N[j]? == some p.2 && sc.names.lookup p.2 == some NameKind.cell && scope.names.lookup p.2 == some NameKind.free)=true) :
  BlkN X N' scope cl σ (ts.map fun t=>t.bind fun j=>(σ[j]?).join):=by
 refine ⟨by rw [List.length_map,hl],fun i x v h1 h2 => ?_⟩
 rw [List.getElem?_map] at h2
 cases ht:ts[i]? with
 | none=>rw [ht] at h2; cases h2
 | some t =>
  rw [ht] at h2
  have h2':(t.bind fun j=>(σ[j]?).join)=some v:=Option.some.inj h2
  cases t with
  | none=>cases h2'
  | some j =>
   have hm:(some j,x) ∈ ts.zip N':=List.mem_of_getElem? (by rw [List.getElem?_zip_eq_some]; exact ⟨ht,h1⟩:(ts.zip N')[i]?=some (some j,x))
   have q:=List.all_eq_true.mp h _ hm
   simp only [Bool.and_eq_true] at q
   obtain ⟨⟨q1,q2⟩,q3⟩:=q
   have q1':=eq_of_beq q1
   have q2':=eq_of_beq q2
   have q3':=eq_of_beq q3
   have kd:X.env.kindOf x=some .cell:=by
    unfold Env.kindOf
    rw [hsc]
    exact q2'
   refine ⟨j,by rw [hN]; exact q1',?_,by rw [hsc]; exact .inr (.inl q2'),(by rw [kd]; decide),.inl (lookup_relabel_free (by rw [hsc]; exact hk) kd q3')⟩
   have h3:(σ[j]?).join=some v:=h2'
   cases hj:σ[j]? with
   | none=>rw [hj] at h3; cases h3
   | some o=>rw [hj] at h3; cases o with
    | none=>cases h3
    | some u=>cases h3; rfl
end L2
namespace L2
open PySem PySem.Spec PyProof.Rows
section
variable {κ:Type}[DecidableEq κ]
def valV (kvs:List (κ × V))(k:κ):Option V:=(kvs.find? fun kv=>decide (kv.1=k)).map (·.2)
def putK (kvs:List (κ × V))(k:κ)(v:V):List (κ × V) :=
 if (kvs.any fun kv=>decide (kv.1=k))=true then kvs.map (fun kv=>if kv.1=k then (kv.1,v) else kv) else kvs ++ [(k,v)]
def dropK (kvs:List (κ × V))(k:κ):List (κ × V):=kvs.filter fun kv=>decide (kv.1 ≠ k)
theorem valV_pos {p:κ × V}{r:List (κ × V)}{k:κ}(e:p.1=k):valV (p :: r) k=some p.2:=by simp [valV,List.find?_cons,e]
theorem valV_neg {p:κ × V}{r:List (κ × V)}{k:κ}(e : ¬ p.1=k):valV (p :: r) k=valV r k:=by simp [valV,List.find?_cons,e]
theorem valV_any (k:κ) : ∀ kvs:List (κ × V),(kvs.any fun kv=>decide (kv.1=k))=(valV kvs k).isSome
 | []=>rfl
 | p :: r=>by
  rw [List.any_cons]
  by_cases e:p.1=k
  ·simp only [valV_pos e,decide_eq_true e,Bool.true_or,Option.isSome_some]
  ·rw [valV_neg e,decide_eq_false e,Bool.false_or]; exact valV_any k r
theorem valV_map (k j:κ)(y:V) : ∀ kvs:List (κ × V),valV (kvs.map fun kv=>if kv.1=k then (kv.1,y) else kv) j=(valV kvs j).map fun x=>if j=k then y else x
 | []=>rfl
 | p :: r=>by
  have ih:=valV_map k j y r
  rw [List.map_cons]
  by_cases h:p.1=k
  ·rw [if_pos h]
   by_cases e:p.1=j
   ·rw [valV_pos (p:=(p.1,y)) e,valV_pos e,Option.map_some,if_pos (e.symm.trans h)]
   ·rw [valV_neg (p:=(p.1,y)) e,valV_neg e,ih]
  ·rw [if_neg h]
   by_cases e:p.1=j
   ·rw [valV_pos (p:=p) e,valV_pos e,Option.map_some,if_neg (fun z=>h (e.trans z))]
   ·rw [valV_neg (p:=p) e,valV_neg e,ih]
theorem valV_snoc (k j:κ)(y:V) : ∀ kvs:List (κ × V),valV kvs k=none->valV (kvs ++ [(k,y)]) j=if j=k then some y else valV kvs j
 | [],_=>by
  by_cases e:k=j
  ·rw [if_pos e.symm]; exact valV_pos (p:=(k,y)) e
  ·rw [if_neg (fun z=>e z.symm)]; exact valV_neg (p:=(k,y)) e
 | p :: r,hn=>by
  rw [List.cons_append]
  have hk : ¬ p.1=k:=fun z=>by rw [valV_pos z] at hn; cases hn
  rw [valV_neg hk] at hn
  have ih:=valV_snoc k j y r hn
  by_cases e:p.1=j
  ·rw [valV_pos e,valV_pos e,if_neg (fun z=>hk (e.trans z))]
  ·rw [valV_neg e,valV_neg e,ih]
theorem valV_put (kvs:List (κ × V))(k j:κ)(y:V):valV (putK kvs k y) j=if j=k then some y else valV kvs j:=by
 unfold putK
 by_cases a:(kvs.any fun kv=>decide (kv.1=k))=true
 ·rw [if_pos a,valV_map]
  rw [valV_any] at a
  by_cases e:j=k
  ·obtain ⟨x,hx⟩:=Option.isSome_iff_exists.mp a
   rw [if_pos e,e,hx,Option.map_some,if_pos rfl]
  ·rw [if_neg e]
   cases valV kvs j with
   | none=>rfl
   | some x=>rw [Option.map_some,if_neg e]
 ·rw [if_neg a]
  refine valV_snoc k j y kvs ?_
  rw [valV_any] at a
  cases q:valV kvs k with
  | none=>rfl
  | some x=>rw [q] at a; exact (a rfl).elim
theorem length_putK (kvs:List (κ × V))(k:κ)(v:V):(putK kvs k v).length<=kvs.length+1:=by
 unfold putK
 split
 ·rw [List.length_map]; omega
 ·rw [List.length_append,List.length_cons,List.length_nil]; omega
theorem putK_new {kvs:List (κ × V)}{k:κ}(v:V)(h:valV kvs k=none):putK kvs k v=kvs ++ [(k,v)]:=by
 unfold putK
 rw [valV_any,h]
 exact if_neg (by decide)
theorem RelO.isSome_eq {o:Option V}{u:Option Value}(r:RelO o u):o.isSome=u.isSome:=by
 cases o with
 | none=>cases u with
  | none=>rfl
  | some _=>exact (show False from r).elim
 | some _=>cases u with
  | none=>exact (show False from r).elim
  | some _=>rfl
theorem KV.val {kvs:List (κ × V)}{vs:List (κ × Value)}(r:KV kvs vs)(k:κ):RelO (valV kvs k) (valueAt vs k):=by
 unfold KV at r
 induction r with
 | nil=>exact True.intro
 | @cons p q ps qs h t ih =>
  obtain ⟨h1,h2⟩:=h
  by_cases e:p.1=k
  ·have e':q.1=k:=h1.symm.trans e
   have b:valueAt (q :: qs) k=some q.2:=by simp [valueAt,List.find?_cons,e']
   rw [valV_pos e,b]; exact h2
  ·have e' : ¬ q.1=k:=fun z=>e (h1.trans z)
   have b:valueAt (q :: qs) k=valueAt qs k:=by simp [valueAt,List.find?_cons,e']
   rw [valV_neg e,b]; exact ih
theorem KV.any {kvs:List (κ × V)}{vs:List (κ × Value)}(r:KV kvs vs)(k:κ):(kvs.any fun kv=>decide (kv.1=k))=vs.any fun kv=>decide (kv.1=k):=by
 unfold KV at r
 induction r with
 | nil=>rfl
 | cons h t ih=>rw [List.any_cons,List.any_cons,ih,h.1]
theorem KV.repl {kvs:List (κ × V)}{vs:List (κ × Value)}(r:KV kvs vs)(k:κ){y:V}{u:Value}(ry:RelV y u) :
  KV (kvs.map fun kv=>if kv.1=k then (kv.1,y) else kv) (vs.map fun kv=>if kv.1=k then (kv.1,u) else kv):=by
 unfold KV at r ⊢
 induction r with
 | nil=>exact .nil
 | @cons p q ps qs h t ih =>
  rw [List.map_cons,List.map_cons]
  refine .cons ?_ ih
  obtain ⟨h1,h2⟩:=h
  by_cases e:p.1=k
  ·rw [if_pos e,if_pos (h1.symm.trans e)]; exact ⟨h1,ry⟩
  ·rw [if_neg e,if_neg (fun z=>e (h1.trans z))]; exact ⟨h1,h2⟩
theorem KV.put {kvs:List (κ × V)}{vs:List (κ × Value)}(r:KV kvs vs)(k:κ){y:V}{u:Value}(ry:RelV y u):KV (putK kvs k y) (stored vs k u):=by
 unfold putK stored
 rw [r.any k]
 by_cases e:(vs.any fun kv=>decide (kv.1=k))=true
 ·rw [if_pos e,if_pos e]; exact r.repl k ry
 ·rw [if_neg e,if_neg e]; exact Paired.snoc r ⟨rfl,ry⟩
theorem KV.keys {kvs:List (κ × V)}{vs:List (κ × Value)}(r:KV kvs vs):kvs.map (·.1)=vs.map (·.1):=by
 unfold KV at r
 induction r with
 | nil=>rfl
 | cons h t ih=>rw [List.map_cons,List.map_cons,ih,h.1]
theorem KV.length {kvs:List (κ × V)}{vs:List (κ × Value)}(r:KV kvs vs):kvs.length=vs.length:=Paired.length r
end
theorem kV_is {P:Program}{w:World}{k:Key}{u:Value}(r:RelV (kV k) u):(mixKind P w).is k u=true:=by
 cases k with
 | inl i=>obtain ⟨t,e⟩:=(show ∃ t,u=Value.int i t from r); subst e; exact mixKind_int P w i t
 | inr x=>obtain ⟨t,e⟩:=(show ∃ t,u=Value.str x t from r); subst e; exact mixKind_str P w x t
theorem items_are {P:Program}{w:World} : ∀ {ks:List Key} {us:List Value},Vals (ks.map kV) us->ItemsAre (mixKind P w) ks us
 | [],_,r=>by rw [List.map_nil] at r; cases r; exact .nil
 | k :: ks,_,r=>by
  rw [List.map_cons] at r
  cases r with
  | cons h t=>exact .cons (kV_is h) (items_are t)
abbrev KT (H:Hp):List (List Key × V)->List (List Key × Addr × Value)->Prop:=Paired fun p q=>p.1=q.1/\H q.2.1=some (.tup (p.1.map kV))/\RelV p.2 q.2.2
theorem KT.val {H:Hp}{kvs:List (List Key × V)}{xs:List (List Key × Addr × Value)}(r:KT H kvs xs)(k:List Key):RelO (valV kvs k) ((atKey xs k).map (·.2)):=by
 induction r with
 | nil=>exact True.intro
 | @cons p q ps qs h t ih =>
  obtain ⟨h1,_,h2⟩:=h
  by_cases e:p.1=k
  ·have e':q.1=k:=h1.symm.trans e
   have b:atKey (q :: qs) k=some q.2:=by simp [atKey,List.find?_cons,e']
   rw [valV_pos e,b]; exact h2
  ·have e' : ¬ q.1=k:=fun z=>e (h1.trans z)
   have b:atKey (q :: qs) k=atKey qs k:=by simp [atKey,List.find?_cons,e']
   rw [valV_neg e,b]; exact ih
theorem KT.repl {H:Hp}{kvs:List (List Key × V)}{xs:List (List Key × Addr × Value)}(r:KT H kvs xs)(k:List Key){y:V}{u:Value}(ry:RelV y u) :
  KT H (kvs.map fun kv=>if kv.1=k then (kv.1,y) else kv) (xs.map (putAt k u)):=by
 induction r with
 | nil=>exact .nil
 | @cons p q ps qs h t ih =>
  rw [List.map_cons,List.map_cons]
  refine .cons ?_ ih
  obtain ⟨h1,h2,h3⟩:=h
  unfold putAt
  by_cases e:p.1=k
  ·rw [if_pos e,if_pos (h1.symm.trans e)]; exact ⟨h1,h2,ry⟩
  ·rw [if_neg e,if_neg (fun z=>e (h1.trans z))]; exact ⟨h1,h2,h3⟩
theorem KT.put {H:Hp}{kvs:List (List Key × V)}{xs:List (List Key × Addr × Value)}(r:KT H kvs xs)(k:List Key){b:Addr}{y:V}{u:Value}(hb:H b=some (.tup (k.map kV)))(ry:RelV y u) :
  KT H (putK kvs k y) (storedH xs k b u):=by
 have e:(kvs.any fun kv=>decide (kv.1=k))=(atKey xs k).isSome:=by
  rw [valV_any,(r.val k).isSome_eq,Option.isSome_map]
 unfold putK storedH
 rw [e]
 by_cases q:(atKey xs k).isSome=true
 ·rw [if_pos q,if_pos q]; exact r.repl k ry
 ·rw [if_neg q,if_neg q]; exact Paired.snoc r ⟨rfl,hb,ry⟩
theorem KT.keeps {H H':Hp}{kvs:List (List Key × V)}{xs:List (List Key × Addr × Value)}(r:KT H kvs xs)(ht : ∀ b ys,H b=some (.tup ys)->H' b=some (.tup ys)):KT H' kvs xs :=
 Paired.mapP r fun _ _ z=>⟨z.1,ht _ _ z.2.1,z.2.2⟩
section
variable {P:Program}{w:World}{H:Hp}{h:Heap}{a:Addr}
theorem rd_of {u:HO}(ok:HOk P w H h)(e:Rd H a u):ObjOk P w H h a u:=e.ok ok
theorem dk_rd {kvs:List (Key × V)}(ok:HOk P w H h)(e:Rd H a (.dK kvs)):kvs.length<=sizeLine/\(a == sysModules)=false/\∃ vs,KV kvs vs/\h.DictOf (mixKind P w) a vs :=
 show ObjOk P w H h a (.dK kvs) from rd_of ok e
theorem dk_of {kvs:List (Key × V)}(ok:HOk P w H h)(e:H a=some (.dK kvs)):kvs.length<=sizeLine/\(a == sysModules)=false/\∃ vs,KV kvs vs/\h.DictOf (mixKind P w) a vs:=dk_rd ok (.inl e)
theorem key_of {ks:List Key}(ok:HOk P w H h)(e:H a=some (.tup (ks.map kV))):(tupleKind (mixKind P w)).is h ks a:=by
 obtain ⟨_,its,r,o,h1,h2,n,h3⟩:=(show ObjOk P w H h a (.tup (ks.map kV)) from ok a _ e)
 exact ⟨o,its.toArray,n,h1,h2,h3,by simpa using items_are r⟩
theorem dt_rd {kvs:List (List Key × V)}(ok:HOk P w H h)(e:Rd H a (.dT kvs)):kvs.length<=sizeLine/\(a == sysModules)=false /\
  ∃ xs,KT H kvs xs/\h.DictOfH (tupleKind (mixKind P w)) a xs:=by
 obtain ⟨z,y,xs,r,o,es,ep,h1,h2,h3,h4,h5⟩:=(show ObjOk P w H h a (.dT kvs) from rd_of ok e)
 refine ⟨z,y,xs,r,o,es,ep,h1,h2,h3,h4,fun x hx => ?_,h5⟩
 have all : ∀ {l:List (List Key × V)} {m:List (List Key × Addr × Value)},KT H l m->∀ x ∈ m,(tupleKind (mixKind P w)).is h x.1 x.2.1:=by
  intro l m q
  induction q with
  | nil=>intro x hx; exact nomatch hx
  | @cons p q ps qs hq t ih =>
   intro x hx
   rcases List.mem_cons.mp hx with e | hx
   ·subst e
    exact key_of ok (by rw [<- hq.1]; exact hq.2.1)
   ·exact ih x hx
 exact all r x hx
theorem dt_of {kvs:List (List Key × V)}(ok:HOk P w H h)(e:H a=some (.dT kvs)):kvs.length<=sizeLine/\(a == sysModules)=false /\
  ∃ xs,KT H kvs xs/\h.DictOfH (tupleKind (mixKind P w)) a xs:=dt_rd ok (.inl e)
end
def DGet (H:Hp)(a:Addr)(y:V)(r:Option V):Prop :=
 (∃ kvs k,Rd H a (.dK kvs)/\y=kV k/\r=valV kvs k)\/∃ kvs k b,Rd H a (.dT kvs)/\y = .ref b/\H b=some (.tup (k.map kV))/\r=valV kvs k
def DPut (H:Hp)(a:Addr)(y v:V)(H':Hp):Prop :=
 (∃ kvs k,H a=some (.dK kvs)/\y=kV k/\kvs.length < sizeLine/\H'=upd H a (.dK (putK kvs k v))) \/
 ∃ kvs k b,H a=some (.dT kvs)/\y = .ref b/\H b=some (.tup (k.map kV))/\kvs.length < sizeLine/\H'=upd H a (.dT (putK kvs k v))
theorem DGet.k {H:Hp}{a:Addr}{kvs:List (Key × V)}{k:Key}(e:H a=some (.dK kvs)):DGet H a (kV k) (valV kvs k):=.inl ⟨kvs,k,.inl e,rfl,rfl⟩
theorem DPut.k {H:Hp}{a:Addr}{kvs:List (Key × V)}{k:Key}{v:V}(e:H a=some (.dK kvs))(hl:kvs.length < sizeLine):DPut H a (kV k) v (upd H a (.dK (putK kvs k v))):=.inl ⟨kvs,k,e,rfl,hl,rfl⟩
section
variable {X:Cx}{pins:List (Addr × Obj)}{σ:St}{H:Hp}{s:Shared}{a:Addr}{y v:V}{u r:Value}{o:Option V}{A:Around}{E:Value->Shared->Prop}
theorem Inv.big (I:Inv X pins σ H s):sysModules < s.heap.objs.size:=by
 have h:mainGlobals < s.heap.objs.size:=(I.mod.glob.keeps I.bk).lt
 exact Nat.lt_trans (by decide) h
theorem d_getItem {Q:Value->Shared->Prop}(hu:A.units+1 < cLine)(I:Inv X pins σ H s)(g:DGet H a y (some v))(ry:RelV y u)(h : ∀ w' s',Inv X pins σ H s'->RelV v w'->Q w' s') :
  wpAny (model X.prog X.w) A (getItem (.ref a) u) Q E s:=by
 rcases g with ⟨kvs,k,e,ey,l⟩ | ⟨kvs,k,b,e,ey,eb,l⟩
 ·subst ey
  obtain ⟨z,hd,vs,rel,dd⟩:=dk_rd I.hok e
  obtain ⟨w',hw,rw'⟩:=RelO.some_of (v:=v) (o:=valueAt vs k) (by rw [l]; exact rel.val k)
  exact wpAny_getItem_of (kV_is ry) dd.mapOf hw (h w' _ (I.tok _) rw')
 ·subst ey
  cases (show u=Value.ref b from ry)
  obtain ⟨z,hd,xs,rel,dd⟩:=dt_rd I.hok e
  obtain ⟨w',hw,rw'⟩:=RelO.some_of (v:=v) (o:=(atKey xs k).map (·.2)) (by rw [l]; exact rel.val k)
  obtain ⟨p,hp,hp2⟩:=Option.map_eq_some_iff.mp hw
  refine wpAny_getItem_heap (tupleKind_room_in1 hu) (key_of I.hok eb) dd hp ?_
  rw [hp2]
  exact h w' _ (I.tok _) rw'
theorem d_in {Q:Value->Shared->Prop}(hu:A.units+1 < cLine)(I:Inv X pins σ H s)(g:DGet H a y o)(ry:RelV y u)(h : ∀ s',Inv X pins σ H s'->Q (.bool o.isSome) s') :
  wpAny (model X.prog X.w) A (compareOp .In u (.ref a)) Q E s:=by
 rcases g with ⟨kvs,k,e,ey,l⟩ | ⟨kvs,k,b,e,ey,eb,l⟩
 ·subst ey
  obtain ⟨z,hd,vs,rel,dd⟩:=dk_rd I.hok e
  refine wpAny_in_of (kV_is ry) hd dd.mapOf ?_
  rw [<- (rel.val k).isSome_eq,<- l]
  exact h _ (I.tok _)
 ·subst ey
  cases (show u=Value.ref b from ry)
  obtain ⟨z,hd,xs,rel,dd⟩:=dt_rd I.hok e
  refine wpAny_in_heap (tupleKind_room_in1 hu) (key_of I.hok eb) hd dd ?_
  have q:=(rel.val k).isSome_eq
  rw [Option.isSome_map] at q
  rw [<- q,<- l]
  exact h _ (I.tok _)
theorem d_notIn {Q:Value->Shared->Prop}(hu:A.units+1 < cLine)(I:Inv X pins σ H s)(g:DGet H a y o)(ry:RelV y u)(h : ∀ s',Inv X pins σ H s'->Q (.bool (!o.isSome)) s') :
  wpAny (model X.prog X.w) A (compareOp .NotIn u (.ref a)) Q E s:=by
 rcases g with ⟨kvs,k,e,ey,l⟩ | ⟨kvs,k,b,e,ey,eb,l⟩
 ·subst ey
  obtain ⟨z,hd,vs,rel,dd⟩:=dk_rd I.hok e
  refine wpAny_notIn_of (kV_is ry) hd dd.mapOf ?_
  rw [<- (rel.val k).isSome_eq,<- l]
  exact h _ (I.tok _)
 ·subst ey
  cases (show u=Value.ref b from ry)
  obtain ⟨z,hd,xs,rel,dd⟩:=dt_rd I.hok e
  refine wpAny_notIn_heap (tupleKind_room_in1 hu) (key_of I.hok eb) hd dd ?_
  have q:=(rel.val k).isSome_eq
  rw [Option.isSome_map] at q
  rw [<- q,<- l]
  exact h _ (I.tok _)
theorem d_write {h':Heap}{t':Nat}{ob:HO}(I:Inv X pins σ H s)(mu:Mut (H a))(hs:Heap.SameBut a s.heap h')(he : ∃ q,h'.get? a=some q)(new:ObjOk X.prog X.w (upd H a ob) h' a ob) :
  Inv X pins σ (upd H a ob) { s with heap:=h',toks:=t' } :=
 I.write (x:=a) (e:=a) mu (.inl rfl) (fun b q hb z=>(hs.2 b hb).trans z) he new
theorem dk_new {P:Program}{w:World}{H':Hp}{h':Heap}{kvs:List (Key × V)}{vs:List (Key × Value)}(z:kvs.length<=sizeLine)(hd:(a == sysModules)=false)(rel:KV kvs vs)(dd:h'.DictOf (mixKind P w) a vs) :
  ObjOk P w H' h' a (.dK kvs):=⟨z,hd,vs,rel,dd⟩
theorem d_setItem {H':Hp}{Q:Unit->Shared->Prop}(hu:A.units+1 < cLine)(I:Inv X pins σ H s)(g:DPut H a y v H')(ry:RelV y u)(rv:RelV v r)(h : ∀ s',Inv X pins σ H' s'->Q () s') :
  wpAny (model X.prog X.w) A (setItem (.ref a) u r) Q E s:=by
 rcases g with ⟨kvs,k,e,ey,l,eH⟩ | ⟨kvs,k,b,e,ey,eb,l,eH⟩
 ·subst ey eH
  obtain ⟨z,hd,vs,rel,dd⟩:=dk_of I.hok e
  have hz:vs.length<=sizeLine:=by rw [<- rel.length]; exact z
  have hl:(putK kvs k v).length<=sizeLine:=by have:=length_putK kvs k v; omega
  refine wpAny_setItem_pairs (hsz:=hz) (kV_is ry) dd fun h' dd' hs=>h _ ?_
  have he : ∃ q,h'.get? a=some q:=let ⟨q,_,_,hq,_⟩:=dd'; ⟨q,hq⟩
  exact d_write I (by rw [e]; exact True.intro) hs he (dk_new hl hd (rel.put k rv) dd')
 ·subst ey eH
  cases (show u=Value.ref b from ry)
  obtain ⟨z,hd,xs,rel,dd⟩:=dt_of I.hok e
  have hz:xs.length<=sizeLine:=by rw [<- Paired.length rel]; exact z
  have hl:(putK kvs k v).length<=sizeLine:=by have:=length_putK kvs k v; omega
  refine wpAny_setItem_heap (hsz:=hz) (tupleKind_room_in1 hu) (key_of I.hok eb) dd fun h' dd' hs=>h _ ?_
  obtain ⟨q,es,ep,hq,h2,h3,h4,_,h5⟩:=dd'
  refine d_write I (by rw [e]; exact True.intro) hs ⟨q,hq⟩ ⟨hl,hd,_,(rel.put k eb rv).keeps fun c ys ec => ?_,q,es,ep,hq,h2,h3,h4,h5⟩
  rw [upd_ne (ne_of ec e (fun z=>nomatch z))]
  exact ec
end
section
variable {X:Cx}{pins:List (Addr × Obj)}{σ:St}{H:Hp}{s:Shared}{a:Addr}{kvs:List (Key × V)}{k:Key}{u:Value}{A:Around}{E:Value->Shared->Prop}
end
def NoSl (i:Expr):Prop:=∀ ov iv,subscripted i false ov iv=operate [ov,iv] (getItem ov iv)
theorem subD_of {prog:Program}{w:World}{A:Around}{E:Value->Shared->Prop}{s:Shared}{env:Env}{value slice:Expr}{pos:Pos}{T id:String}{Q:Value->Shared->Prop}
  (hl:typeLookup (.type T) "__getitem__" = pure (some (.builtin id))) (hs:NoSl slice)
  (h:wpAny (model prog w) A (eval value env) (fun o s₁=>wpAny (model prog w) A (eval slice env) (fun i s₂=>s₂.TypeIs o T/\wpAny (model prog w) A (getItem o i) Q E s₂) E s₁) E s) :
  wpAny (model prog w) A (eval (.Subscript value slice pos) env) Q E s:=by
 refine Subscript_ (wpAny_mono h (fun o s₁ h₁=>wpAny_mono h₁ (fun i s₂ h₂ => ?_) fun _ _ x=>x) fun _ _ x=>x)
 obtain ⟨hT,h₂⟩:=h₂
 unfold subscriptTail
 refine wpAny_bind ?_
 rw [getitemInPython_of_ne hT.not_modules]
 refine wpAny_bind (wpAny_specialOf hT hl ?_)
 have fin:wpAny (model prog w) A (subscripted slice false o i) (fun r s₃=>wpAny (model prog w) A (letTemporaryGo value o r >>= fun _=>pure r) Q E s₃) E s₂:=by
  rw [hs o i]
  exact wpAny_operating (wpAny_mono h₂ (fun r s₃ h₃=>wpAny_bind (wpAny_letTemporaryGo (wpAny_pure h₃))) fun _ _ x=>x)
 first
  | exact wpAny_pure (wpAny_bind fin)
  | exact wpAny_bind (wpAny_pure (wpAny_bind fin))
  | exact wpAny_bind fin
theorem dict_typeIs {X:Cx}{pins:List (Addr × Obj)}{σ:St}{H:Hp}{s:Shared}{a:Addr}{y:V}{o:Option V}(I:Inv X pins σ H s)(g:DGet H a y o):s.TypeIs (.ref a) "dict" := by
 rcases g with ⟨kvs,k,e,_,_⟩ | ⟨kvs,k,b,e,_,_,_⟩
 ·obtain ⟨_,_,vs,_,dd⟩:=dk_rd I.hok e
  exact dd.typeIs
 ·obtain ⟨_,_,xs,_,dd⟩:=dt_rd I.hok e
  exact dd.typeIs
def tDGet (td ty:TE):TE:=fun σ H Q=>td σ H fun x H1=>ty σ H1 fun y H2=>∃ a v,x = .ref a/\DGet H2 a y (some v)/\Q v H2
def tDIn (ty td:TE):TE:=fun σ H Q=>ty σ H fun y H1=>td σ H1 fun x H2=>∃ a o,x = .ref a/\DGet H2 a y o/\Q (.bl o.isSome) H2
def tDNotIn (ty td:TE):TE:=fun σ H Q=>ty σ H fun y H1=>td σ H1 fun x H2=>∃ a o,x = .ref a/\DGet H2 a y o/\Q (.bl (!o.isSome)) H2
def sDPut (td ty tv:TE):TS:=fun D σ H=>tv σ H fun v H1=>td σ H1 fun x H2=>ty σ H2 fun y H3=>∃ a H4,x = .ref a/\DPut H3 a y v H4/\D.nx σ H4
def sDAug (td ty tv:TE)(rd:V->V->Hp->VK->Prop):TS:=fun D σ H=>td σ H fun x H1=>ty σ H1 fun y H2=>∃ a v,x = .ref a/\DGet H2 a y (some v) /\
 tv σ H2 fun y2 H3=>rd v y2 H3 fun z H4=>∃ H5,DPut H4 a y z H5/\D.nx σ H5
def sDDel (td ty:TE):TS:=fun D σ H=>td σ H fun x H1=>ty σ H1 fun y H2=>∃ a kvs k,x = .ref a/\H2 a=some (.dK kvs)/\y=kV k/\(valV kvs k).isSome=true/\D.nx σ (upd H2 a (.dK (dropK kvs k)))
section
variable {X:Cx}{o i e value:Expr}{pos pos' tpos:Pos}{td ty tv:TE}
theorem pe_dget (hu:X.A.units+1 < cLine)(ho:PE X o td)(hi:PE X i ty)(hs:NoSl i):PE X (.Subscript o i pos) (tDGet td ty):=by
 intro pins s σ H Q I h
 refine subD_of PySem.F.slot_dict_getitem.lookup hs (thn (ho pins s σ H _ I h) fun u s1 ⟨x,H1,I1,rx,q1⟩=>thn (hi pins s1 σ H1 _ I1 q1) fun iv s2 ⟨y,H2,I2,ry,a,v,ex,g,q2⟩ => ?_)
 subst ex
 obtain rfl:u=Value.ref a:=rx
 exact ⟨dict_typeIs I2 g,d_getItem hu I2 g ry fun w' s3 I3 rw'=>⟨v,H2,I3,rw',q2⟩⟩
theorem pc_din (hu:X.A.units+1 < cLine)(hi:PE X i ty)(ho:PE X o td):PC X .In i o (tDIn ty td):=by
 intro pins s σ H Q I h
 refine thn (hi pins s σ H _ I h) fun iv s1 ⟨y,H1,I1,ry,q1⟩=>thn (ho pins s1 σ H1 _ I1 q1) fun u s2 ⟨x,H2,I2,rx,a,ov,ex,g,q2⟩ => ?_
 subst ex
 obtain rfl:u=Value.ref a:=rx
 exact d_in hu I2 g ry fun s3 I3=>⟨.bl ov.isSome,H2,I3,rfl,q2⟩
theorem pc_dnotin (hu:X.A.units+1 < cLine)(hi:PE X i ty)(ho:PE X o td):PC X .NotIn i o (tDNotIn ty td):=by
 intro pins s σ H Q I h
 refine thn (hi pins s σ H _ I h) fun iv s1 ⟨y,H1,I1,ry,q1⟩=>thn (ho pins s1 σ H1 _ I1 q1) fun u s2 ⟨x,H2,I2,rx,a,ov,ex,g,q2⟩ => ?_
 subst ex
 obtain rfl:u=Value.ref a:=rx
 exact d_notIn hu I2 g ry fun s3 I3=>⟨.bl (!ov.isSome),H2,I3,rfl,q2⟩
theorem ps_dput (hu:X.A.units+1 < cLine)(ho:PE X o td)(hi:PE X i ty)(hv:PE X value tv)(hs:swapsWith value (some (.Subscript o i pos')) pos.line X.env=pure false) :
  PS X (.Assign [.Subscript o i pos'] value pos) (sDPut td ty tv):=by
 intro pins s σ H D I h
 refine wpAny_Assign_Subscript (thn (hv pins s σ H _ I h) fun r s1 ⟨v,H1,I1,rv,q1⟩=>thn (ho pins s1 σ H1 _ I1 q1) fun u s2 ⟨x,H2,I2,rx,q2⟩=>thn (hi pins s2 σ H2 _ I2 q2) fun iv s3 ⟨y,H3,I3,ry,a,H4,ex,g,q3⟩ => ?_) hs
 subst ex
 obtain rfl:u=Value.ref a:=rx
 exact d_setItem hu I3 g ry rv fun s4 I4=>⟨σ,H4,I4,q3⟩
end
theorem dk_empty {P:Program}{w:World}{H:Hp}(h:Heap)(hb:sysModules < h.objs.size):ObjOk P w H (h.push { cls:=.type "dict",data:=.dict #[] }) h.objs.size (.dK []) :=
 ⟨Nat.zero_le _,beq_eq_false_iff_ne.mpr (Ne.symm (Nat.ne_of_lt hb)),[],.nil,Heap.DictOf.new h⟩
def tDNewK:TE:=fun _ H Q=>∀ p,H p=none->Q (.ref p) (upd H p (.dK []))
def tDNewT:TE:=fun _ H Q=>∀ p,H p=none->Q (.ref p) (upd H p (.dT []))
section
variable {X:Cx}{pos:Pos}
theorem pe_dnewK:PE X (.Dict [] [] pos) tDNewK:=fun pins s σ H Q I h =>
 wpAny_Dict_empty ⟨.ref s.heap.objs.size,_,I.laid (a:=s.heap.objs.size) (o:=.dK []) (t':=s.toks) (fun _ _ q=>Heap.get?_push_of_some _ q) (Nat.le_refl _) (dk_empty s.heap I.big),rfl,h _ (I.hok.fresh (Nat.le_refl _))⟩
end
def tPairs:List (TE × TE)->St->Hp->(List (V × V)->Hp->Prop)->Prop
  | [],_,H,Q=>Q [] H
  | (tk,tv) :: r,σ,H,Q=>tk σ H fun x H1=>tv σ H1 fun y H2=>tPairs r σ H2 fun ps H3=>Q ((x,y) :: ps) H3
abbrev VV:List (V × V)->List (Value × Value)->Prop:=Paired fun p q=>RelV p.1 q.1/\RelV p.2 q.2
def PPs (X:Cx)(pos:Pos)(keys:List (Option Expr))(values:List Expr)(trs:List (TE × TE)):Prop :=
 ∀ (pins:List (Addr × Obj)) (s:Shared) (σ:St) (H:Hp) (Q:List (V × V)->Hp->Prop),Inv X pins σ H s->tPairs trs σ H Q ->
  wpAny (model X.prog X.w) X.A (evalPairs (pairTrees keys values X.env pos)) (fun vs s'=>∃ ps H',Inv X pins σ H' s'/\VV ps vs/\Q ps H') X.xe s
def mergeK (kvs more:List (Key × V)):List (Key × V):=more.foldl (fun acc kv=>putK acc kv.1 kv.2) kvs
def tDisp (trs:List (TE × TE)):TE:=fun σ H Q=>∀ p,H p=none->tPairs trs σ (upd H p (.dK [])) fun ps H2=>H2 p=some (.dK [])/\∃ kvs:List (Key × V),ps=kvs.map (fun kv=>(kV kv.1,kv.2))/\kvs.length<=15/\Q (.ref p) (upd H2 p (.dK (mergeK [] kvs)))
structure M1 (X:Cx)(o:Expr)(m:Str)(apos:Pos)(e:Expr)(cpos:Pos):Prop where
 base:attributeBase o m X.env (eval o X.env)=eval o X.env
 few:((backTo cpos (starEach [e] X.env)).all (fun x => !x.1) && (backToKw cpos (keywordEach [] X.env)).all (fun x=>x.1.isSome)
  && decide (([e]:List Expr).length+([]:List Keyword).length+(if ([]:List Keyword).isEmpty then 0 else 1) < 30))=true
 line:(apos.endLine == cpos.line)=true
 trees:backTo cpos (starEach [e] X.env)=[(false,eval e X.env)]
structure M2 (X:Cx)(o:Expr)(m:Str)(apos:Pos)(e f:Expr)(cpos:Pos):Prop where
 base:attributeBase o m X.env (eval o X.env)=eval o X.env
 few:((backTo cpos (starEach [e,f] X.env)).all (fun x => !x.1) && (backToKw cpos (keywordEach [] X.env)).all (fun x=>x.1.isSome)
  && decide (([e,f]:List Expr).length+([]:List Keyword).length+(if ([]:List Keyword).isEmpty then 0 else 1) < 30))=true
 line:(apos.endLine == cpos.line)=true
 trees:backTo cpos (starEach [e,f] X.env)=[(false,eval e X.env),(false,eval f X.env)]
def IsD (H:Hp)(a:Addr):Prop:=(∃ kvs,Rd H a (.dK kvs))\/∃ kvs,Rd H a (.dT kvs)
section
variable {X:Cx}{pins:List (Addr × Obj)}{σ:St}{H:Hp}{s:Shared}{a:Addr}{y d:V}{u r:Value}{o:Option V}{A:Around}{E:Value->Shared->Prop}
end
def tDGet1 (td ty:TE):TE:=fun σ H Q=>td σ H fun x H1=>∃ a,x = .ref a/\IsD H1 a/\ty σ H1 fun y H2=>∃ o,DGet H2 a y o/\Q (o.getD .non) H2
def tDGet2 (td ty tx:TE):TE:=fun σ H Q=>td σ H fun x H1=>∃ a,x = .ref a/\IsD H1 a/\ty σ H1 fun y H2=>tx σ H2 fun z H3=>∃ o,DGet H3 a y o/\Q (o.getD z) H3
def tDPop1 (td ty:TE):TE:=fun σ H Q=>td σ H fun x H1=>∃ a,x = .ref a/\IsD H1 a/\ty σ H1 fun y H2=>∃ kvs k v,H2 a=some (.dK kvs)/\y=kV k/\valV kvs k=some v/\Q v (upd H2 a (.dK (dropK kvs k)))
def tDPop2 (td ty tx:TE):TE:=fun σ H Q=>td σ H fun x H1=>∃ a,x = .ref a/\IsD H1 a/\ty σ H1 fun y H2=>tx σ H2 fun z H3=>∃ kvs k,H3 a=some (.dK kvs)/\y=kV k /\
 (∀ v,valV kvs k=some v->Q v (upd H3 a (.dK (dropK kvs k))))/\(valV kvs k=none->Q z H3)
section
variable {X:Cx}{o e f:Expr}{apos cpos:Pos}{td ty tx:TE}
end
section
variable {X:Cx}{pins:List (Addr × Obj)}{σ:St}{H:Hp}{s:Shared}{a:Addr}{kvs:List (Key × V)}{A:Around}{E:Value->Shared->Prop}
end
section
variable {X:Cx}{pins:List (Addr × Obj)}{σ:St}{H:Hp}{s:Shared}{a:Addr}{y:V}{u:Value}{A:Around}{E:Value->Shared->Prop}
end
end L2
namespace L2
open PySem PySem.Spec PyProof.Rows
theorem strsAre_of {ss:List Str} : ∀ {us:List Value},Vals (ss.map V.str) us->StrsAre us ss:=by
 induction ss with
 | nil=>intro us r; rw [List.map_nil] at r; cases r; exact .nil
 | cons n ns ih =>
  intro us r
  rw [List.map_cons] at r
  cases r with
  | cons r1 r2 =>
   obtain ⟨t,rfl⟩:=r1
   exact .cons _ _ (ih r2)
theorem vals_of_strs : ∀ {us:List Value} {ss:List Str},StrsAre us ss->Vals (ss.map V.str) us
 | _,_,.nil=>.nil
 | _,_,.cons _ _ h=>.cons ⟨_,rfl⟩ (vals_of_strs h)
theorem lst_ok {P:Program}{w:World}{H:Hp}{h:Heap}{a:Addr}{xs:List V}{its:List Value}{e:Nat}(hv:Vals xs its)(hz:xs.length<=sizeLine)(ho:h.get? a=some (seqObj "list" its.toArray e)):ObjOk P w H h a (.lst xs):=⟨hz,its,e,hv,ho⟩
section
variable {X:Cx}
def rSortS (K:PySem.W.Frag):List V->Hp->VK->Prop:=fun xs H Q=>∃ a,∃ ss:List Str,xs=[.ref a]/\SqL K H a (ss.map V.str)/\ss.length < 64/\∀ (p:Addr) (ss':List Str),ss'.Perm ss->sortedS ss'=true->H p=none->Q (.ref p) (upd H p (.lst (ss'.map V.str)))
theorem call_sortS:CallR X (.builtin "sorted") (rSortS X.K):=by
 intro pins s σ H xs us Q I r h
 obtain ⟨a,ss,rfl,hq,h64,q⟩:=h
 obtain ⟨u,rfl,rx⟩:=vals1 r
 cases rx
 obtain ⟨its,r',pl,hz⟩:=I.list hq
 have hl:=r'.length
 rw [List.length_map] at hl
 refine sorted_strs (pl.isList) (strsAre_of r') (by omega) fun out ss' a1 a2 a3 => ?_
 obtain ⟨e,he⟩:=sortedAll_at s.heap its out
 refine ⟨.ref (s.heap.objs.size+1),_,I.laid (a:=s.heap.objs.size+1) (o:=.lst (ss'.map V.str)) (t':=s.toks) (fun _ _=>sortedAll_old) (Nat.le_succ _) (lst_ok (its:=out.toList) (e:=e) (vals_of_strs a1) ?_ (by rw [Array.toArray_toList]; exact he)),rfl,q _ ss' a2 a3 (I.hok.fresh (Nat.le_succ _))⟩
 rw [List.length_map,a2.length_eq]
 exact sz1000 (by omega)
def rSortI (K:PySem.W.Frag):List V->Hp->VK->Prop:=fun xs H Q=>∃ a,∃ ns:List Int,xs=[.ref a]/\SqL K H a (ns.map V.int)/\ns.length < 64/\∀ (p:Addr) (ns':List Int),ns'.Perm ns->ns'.Pairwise (· <= ·)->H p=none->Q (.ref p) (upd H p (.lst (ns'.map V.int)))
def rSortDS:List V->Hp->VK->Prop:=fun xs H Q=>∃ a kvs,∃ ss:List Str,xs=[.ref a]/\H a=some (.dK kvs)/\kvs.map (·.1)=ss.map Sum.inr/\kvs.length < 64/\∀ (p:Addr) (ss':List Str),ss'.Perm ss->sortedS ss'=true->H p=none->Q (.ref p) (upd H p (.lst (ss'.map V.str)))
def rSortDI:List V->Hp->VK->Prop:=fun xs H Q=>∃ a kvs,∃ ns:List Int,xs=[.ref a]/\H a=some (.dK kvs)/\kvs.map (·.1)=ns.map Sum.inl/\kvs.length < 64/\∀ (p:Addr) (ns':List Int),ns'.Perm ns->ns'.Pairwise (· <= ·)->H p=none->Q (.ref p) (upd H p (.lst (ns'.map V.int)))
end
end L2
namespace L2
open PySem PySem.Spec PyProof.Rows
theorem ps_comp {X:Cx}{iy:Nat}{y:Str}{py spos:Pos}{elt tg iter:Expr}{ifs:List Expr}{scope:Scope}{pos:Pos}{N':List Str}{cl:List (Str × Addr)}{wi:TI}{g:TG}{tt:TT}{te:TE}(σf:St->St)
  (hc:X.calm=true) (hkind:scope.kind = .function) (hcell : ∀ y ∈ scope.names,y.2 ≠ .cell) (hnames : ∀ y ∈ scope.names,y.2 = .local->scope.names.lookup y.1=some .local) (hcl:ClOk X scope cl)
  (hN : ∀ σ:St,σ.length=X.N.length->BlkN X N' scope cl σ (σf σ)) (hi:PI X tg iter wi)
  (hg : ∀ C s₀ H₀ ex pn,PG (blk X N' scope cl C s₀ H₀ ex pn) tg g) (ht : ∀ C s₀ H₀ ex pn,PIfs (blk X N' scope cl C s₀ H₀ ex pn) ifs tt) (he : ∀ C s₀ H₀ ex pn,PE (blk X N' scope cl C s₀ H₀ ex pn) elt te)
  (hnd:X.N.Nodup) (hiy:X.N[iy]?=some y) (hy:Loc X.env.scope y) (hfy:X.fn y=true\/X.env.scope.names.lookup y=some .local)
  (hsw:swapsWith (.ListComp elt [⟨tg,iter,ifs,0⟩] scope pos) (some (.Name y py)) spos.line X.env=pure true)
  (hs : ∀ x,foldedSetIterable iter X.env x=pure x:=by intro _; rfl):PS X (.Assign [.Name y py] (.ListComp elt [⟨tg,iter,ifs,0⟩] scope pos) spos) (tAsg (tComp σf wi g tt te) (gName iy)):=by
 intro pins s σ H Dn I h
 rw [exec_Assign_Name_used _ _ _ _ hsw]
 refine wpAny_bind (wpAny_standAt (wpAny_bind ?_))
 show wpAny _ X.A (do let _ <- comprehension (.ListComp elt [⟨tg,iter,ifs,0⟩] scope pos) scope X.env _ (newList []) false (eval iter X.env) (some (assign (.Name y py) X.env))) _ _ s
 refine wpAny_bind (wpAny_mono (wpAny_comprehension_free (use:=some (assign (.Name y py) X.env)) (Q:=fun _ s'=>SP X pins Dn .next s') rfl hs hcl.run hkind hnames
  (thn (hi pins s σ H _ I h) fun v s1 h1=>thn h1 fun itv s2 h2 => ?_)) (fun _ s' hq=>wpAny_pure (wpAny_pure hq)) fun _ _ e=>e)
 obtain ⟨it,fp,tn,J,H2,rfl,I2,T,st2,f2,q⟩:=h2
 refine wpAny_newObj_type (wpAny_newFunctionEnv hcell (by intro y hy; simp at hy) (fun h₁ hns₁ hsb₁ => ?_) hkind)
 dsimp only at hns₁ hsb₁ ⊢
 have hfo : ∀ b ∈ fp,b < s2.heap.objs.size:=fun b hb=>by
  obtain ⟨o,e,_⟩:=T.obj _ _ st2 b hb
  exact Heap.lt_size e
 have hDf:H2 s2.heap.objs.size=none:=I2.hok.fresh (Nat.le_refl _)
 obtain ⟨W,⟨m0,w0⟩,turn⟩:=q s2.heap.objs.size hDf
 have I3:Inv X pins σ (upd H2 s2.heap.objs.size (.lst [])) { s2 with heap:=s2.heap.push { cls:=.type "list",data:=.seq ([]:List Value).toArray } }:=I2.lnew (its:=[]) (t':=s2.toks) .nil (Nat.zero_le _)
 have f3 : ∀ b ∈ fp,FpOk X pins (upd H2 s2.heap.objs.size (.lst [])) b:=fun b hb=>⟨by rw [upd_ne (Nat.ne_of_lt (hfo b hb))]; exact (f2 b hb).1,(f2 b hb).2⟩
 generalize hD:s2.heap.objs.size=D at *
 generalize hs3:({ s2 with heap:=s2.heap.push { cls:=.type "list",data:=.seq ([]:List Value).toArray } }:Shared)=s3 at *
 have hh3:s3.heap=s2.heap.push { cls:=.type "list",data:=.seq ([]:List Value).toArray }:=by rw [<- hs3]
 have hsz3:s2.heap.objs.size < s3.heap.objs.size:=by rw [hh3,Heap.size_push]; exact Nat.lt_succ_self _
 have e3 : ∀ h t,({ s2 with heap:=h,toks:=t }:Shared)={ s3 with heap:=h,toks:=t }:=fun h t=>by rw [<- hs3]
 rw [<- hh3] at hns₁ hsb₁ ⊢
 have hk3 : ∀ b o,s3.heap.get? b=some o->h₁.get? b=some o:=fun b o e=>hsb₁.extBut b o (Nat.ne_of_lt (Heap.lt_size e)) (Heap.get?_push_of_some _ e)
 have I4:=blk_start (t':=s3.toks) I3 hkind hcl (hN σ I.len) f3 (fun b hb=>Nat.lt_trans (hfo b hb) (hD ▸ hsz3)) (hns:=by simpa using hns₁) hk3
 generalize hB:blk X N' scope cl s3.heap.objs.size s3 (upd H2 D (.lst [])) fp (X.pn ++ pins)=B at *
 have hBp:B.prog=X.prog:=by rw [<- hB]; rfl
 have hBw:B.w=X.w:=by rw [<- hB]; rfl
 have hBK:B.K=X.K:=by rw [<- hB]; rfl
 have hBA:B.A=X.A:=by rw [<- hB]; rfl
 have hBc:B.calm=true:=by rw [<- hB]; exact hc
 have hBe:B.env=compEnvC scope cl s3.heap.objs.size X.env:=by rw [<- hB]; rfl
 have hBx:B.xe=fun _ _=>False:=by rw [<- hB]; rfl
 have hGB:PG B tg g:=hB ▸ hg _ _ _ _ _
 have hTB:PIfs B ifs tt:=hB ▸ ht _ _ _ _ _
 have hEB:PE B elt te:=hB ▸ he _ _ _ _ _
 have stat : ∀ {H':Hp},(∀ b ∈ fp,H' b=none)->∀ b ∈ fp,FpOk B [] H' b:=fun {H'} hn b hb=>by
  obtain ⟨f0,f1,f2',f3',f4,f5⟩:=f3 b hb
  rw [<- hB]
  refine ⟨hn b hb,Nat.ne_of_lt (Nat.lt_trans (hfo b hb) (hD ▸ hsz3)),fun z => ?_,.inl hb,fun x c e=>f4 x c (hcl.sub x c e),fun p hp => ?_⟩
  ·rcases List.mem_cons.mp (I.stkSub b z) with z | z
   ·exact f1 z
   ·exact f2' z
  ·rw [show (blk X N' scope cl s3.heap.objs.size s3 (upd H2 D (.lst [])) fp (X.pn ++ pins)).pn=X.pn ++ pins from rfl,List.append_nil] at hp
   exact f5 p hp
 have loop : ∀ s4:Shared,Inv B [] (σf σ) (upd H2 D (.lst [])) s4->tn 0 s4.heap ->
   codeAny (model X.prog X.w) X.A (.compLoop (.ListComp elt [⟨tg,iter,ifs,0⟩] scope pos) 0 (.ref it) (.ref D) (compEnvC scope cl s3.heap.objs.size X.env)) (compPost (model X.prog X.w) X.A X.xe (some (assign (.Name y py) X.env)) (fun _ s'=>SP X pins Dn .next s') (.ref D) s3.heap.objs.size) s4:=by
  intro s4 I4 st4
  refine compLoop_gen (I:=fun n s'=>∃ i ys H',Inv B [] (σf σ) H' s'/\tn i s'.heap/\(∀ b ∈ fp,H' b=none)/\W i n ys H') ?_ m0 ⟨0,[],_,I4,st4,fun b hb=>(f3 b hb).1,w0⟩
  rintro n s5 ⟨i,ys,H5,I5,st5,fr5,w5⟩
  obtain ⟨hD5,hlen5,alt⟩:=turn i n ys H5 w5
  rcases alt with ⟨stop,qn⟩ | ⟨go,step⟩
  ·have z:=T.done B hBp hBw hBK hBc i [] s5 (σf σ) H5 (fun _ _=>False) I5 (stat fr5) st5 stop
   rw [hBA] at z
   refine thn z fun r s6 ⟨hr,I6⟩ => ?_
   subst hr
   obtain ⟨m6,hn6,_⟩:=I6.loc
   rw [hBe] at hn6
   subst hB
   have I6x:Inv X pins σ H5 s6:=blk_end I3 f3 I6 (h'':=s6.heap) ⟨rfl,fun _ _=>rfl⟩
   have fC:FpOk X pins H5 s3.heap.objs.size:=I3.fpOk (Nat.le_refl _) I6.free
   obtain ⟨g0,g1,g2,g3,g4,g5⟩:=id fC
   obtain ⟨oC,es,ep,hoC,hdC,rest⟩:=hn6
   have I6p:=I6x.pinned (fp:=[s3.heap.objs.size]) (fun b hb=>by rw [List.mem_singleton.mp hb]; exact fC) (fun b hb=>⟨oC,by rw [List.mem_singleton.mp hb]; exact hoC,fun v e=>by rw [hdC] at e; cases e⟩)
   show wpAny (model X.prog X.w) X.A (assign (.Name y py) X.env (.ref D)) _ X.xe s6
   refine thn (pg_name (i:=iy) (pos:=py) hnd hiy hy hfy _ s6 σ H5 (.ref D) (.ref D) (fun σ' H'=>Dn.nx σ' H') I6p rfl qn) fun _ s7 ⟨σ7,H7,I7,q7⟩ => ?_
   have pc:=I7.pin (s3.heap.objs.size,oC) (List.mem_append_right _ (List.mem_append_right _ (mem_pinsAt (by simp) hoC)))
   refine ⟨m6,⟨oC,es,ep,pc.1,hdC,rest⟩,fun h' hs'=>⟨σ7,H7,?_,q7⟩⟩
   exact I7.unpinned.turned (t':=s7.toks) (fun b o hb e=>hs'.extBut b o hb e) pc.2.1 g1 g3 g4 g5
  ·have z:=T.item B hBp hBw hBK hBc i [] s5 (σf σ) H5 (fun _ _=>False) I5 (stat fr5) st5 go
   rw [hBA] at z
   refine thn z fun r s6 ⟨u,hr,h6⟩ => ?_
   subst hr
   refine thn h6 fun _ s7 ⟨x,H7,I7,r7,y7,st7,fr7⟩ => ?_
   have I7':=I7.pinned (stat fr7) (T.obj _ _ st7)
   have z8:=hGB _ s7 (σf σ) H7 x u _ I7' r7 (step x H7 y7)
   rw [hBp,hBw,hBA,hBe,hBx] at z8
   refine thn z8 fun _ s8 ⟨σ8,H8,I8,k8,q8⟩ => ?_
   have z9:=hTB _ s8 σ8 H8 _ I8 q8
   rw [hBp,hBw,hBA,hBe,hBx] at z9
   refine thn z9 fun ok s9 ⟨H9,I9,q9⟩ => ?_
   have again : ∀ {ys':List V} {H':Hp} {s':Shared},Inv B ([] ++ pinsAt fp s7.heap) σ8 H' s'->(∃ m',m' < n/\W (i+1) m' ys' H')->∃ m,m < n/\∃ i ys H',Inv B [] (σf σ) H' s'/\tn i s'.heap/\(∀ b ∈ fp,H' b=none)/\W i m ys H':=fun {ys' H' s'} J ⟨m',hm,w'⟩=>by
    refine ⟨m',hm,i+1,ys',H',J.unpinned.weak k8.len.symm k8.at',T.keep _ _ _ st7 fun b hb o e=>(J.pin (b,o) (List.mem_append_right _ (List.mem_append_right _ (mem_pinsAt hb e)))).1,fun b hb => ?_,w'⟩
    obtain ⟨o,e,d⟩:=T.obj _ _ st7 b hb
    exact (J.pin (b,o) (List.mem_append_right _ (List.mem_append_right _ (mem_pinsAt hb e)))).2.1
   cases ok with
   | false=>exact again I9 q9
   | true =>
    have z10:=hEB _ s9 σ8 H9 _ I9 q9
    rw [hBp,hBw,hBA,hBe,hBx] at z10
    refine thn z10 fun y10 s10 ⟨y,H10,I10,r10,hD10,q10⟩ => ?_
    have z11:=mt_append (X:=B) _ s10 σ8 H10 (.ref D) [y] (.ref D) [y10] (fun _ H'=>∃ m',m' < n/\W (i+1) m' (ys ++ [y]) H') I10 rfl (.cons r10 .nil) ⟨D,ys,y,rfl,rfl,hD10,hlen5,q10⟩
    rw [hBp,hBw,hBA,hBx] at z11
    refine thn z11 fun _ s11 ⟨_,H11,I11,_,q11⟩=>again I11 q11
 have st4:tn 0 ({ s3 with heap:=h₁,toks:=s3.toks }:Shared).heap:=T.keep _ _ _ st2 fun b hb o e=>hk3 b o (by rw [hh3]; exact Heap.get?_push_of_some _ e)
 have L4:=loop _ I4 st4
 subst hs3
 exact codeAny_compStart_list L4 (T.self _ 0 _ _ _ st4 L4)
theorem ps_compC {X:Cx}{iy:Nat}{y:Str}{py spos:Pos}{elt tg iter:Expr}{ifs:List Expr}{scope:Scope}{pos:Pos}{N':List Str}{wi:TI}{g:TG}{tt:TT}{te:TE}(σf:St->St)
  (hc:X.calm=true) (hkind:scope.kind = .function) (hcell : ∀ y ∈ scope.names,y.2 ≠ .cell) (hnames : ∀ y ∈ scope.names,y.2 = .local->scope.names.lookup y.1=some .local)
  (hk : ∀ y ∈ scope.names,y.2=NameKind.free->X.env.kindOf y.1=some .cell\/X.env.kindOf y.1=some .free)
  (hN : ∀ cl (σ:St),σ.length=X.N.length->BlkN X N' scope cl σ (σf σ)) (hi:PI X tg iter wi)
  (hg : ∀ cl C s₀ H₀ ex pn,PG (blk X N' scope cl C s₀ H₀ ex pn) tg g) (ht : ∀ cl C s₀ H₀ ex pn,PIfs (blk X N' scope cl C s₀ H₀ ex pn) ifs tt) (he : ∀ cl C s₀ H₀ ex pn,PE (blk X N' scope cl C s₀ H₀ ex pn) elt te)
  (hnd:X.N.Nodup) (hiy:X.N[iy]?=some y) (hy:Loc X.env.scope y) (hfy:X.fn y=true\/X.env.scope.names.lookup y=some .local)
  (hsw:swapsWith (.ListComp elt [⟨tg,iter,ifs,0⟩] scope pos) (some (.Name y py)) spos.line X.env=pure true)
  (hs : ∀ x,foldedSetIterable iter X.env x=pure x:=by intro _; rfl):PS X (.Assign [.Name y py] (.ListComp elt [⟨tg,iter,ifs,0⟩] scope pos) spos) (tAsg (tComp σf wi g tt te) (gName iy)):=by
 intro pins s σ H D I h
 obtain ⟨cl,hcl⟩:=clOk_of I.ok hcell hk
 exact ps_comp σf hc hkind hcell hnames hcl (hN cl) hi (hg cl) (ht cl) (he cl) hnd hiy hy hfy hsw hs pins s σ H D I h
end L2
namespace L2
open PySem PySem.Spec PyProof.Rows
structure Ys (J:It)(xs:List V)(H1:Hp):Prop where
 go : ∀ i H,Same H1 H->i < xs.length->J.go i H
 yld : ∀ i H x H',Same H1 H->i < xs.length->J.yld i H x H'->H'=H/\xs[i]?=some x
 stop : ∀ i H,Same H1 H->xs.length<=i->J.stop i H
theorem Ys.list {K:PySem.W.Frag}{a:Addr}{xs:List V}{H1:Hp}(h:SqL K H1 a xs):Ys (Itl K a) xs H1 where
 go:=fun i H s hi=>⟨xs,xs[i],s.seq h,List.getElem?_eq_getElem hi⟩
 yld:=fun i H x H' s _ y=>⟨y.1,y.2 xs (s.seq h)⟩
 stop:=fun i H s hi=>⟨xs,s.seq h,hi⟩
theorem Ys.tup {K:PySem.W.Frag}{a:Addr}{xs:List V}{H1:Hp}(h:SqT K H1 a xs):Ys (Itt K a) xs H1 where
 go:=fun i H s hi=>⟨xs,xs[i],s.tup h,List.getElem?_eq_getElem hi⟩
 yld:=fun i H x H' s _ y=>⟨y.1,y.2 xs (s.tup h)⟩
 stop:=fun i H s hi=>⟨xs,s.tup h,hi⟩
def rngV (lo:Int)(n:Nat):List V:=(List.range n).map fun (i:Nat)=>V.int (lo+(i:Int))
theorem rngV_len (lo:Int)(n:Nat):(rngV lo n).length=n:=by unfold rngV; rw [List.length_map,List.length_range]
theorem rngV_get {lo:Int}{n i:Nat}{x:V}(h:(rngV lo n)[i]?=some x):i < n/\x = .int (lo+i):=by
 have hi:i < n:=by rw [<- rngV_len lo n]; exact (List.getElem?_eq_some_iff.mp h).1
 unfold rngV at h
 rw [List.getElem?_map,List.getElem?_range hi] at h
 exact ⟨hi,(Option.some.inj h).symm⟩
theorem Ys.rng {lo:Int}{n:Nat}{H1:Hp}:Ys (Itr lo n) (rngV lo n) H1 where
 go:=fun i H _ hi=>by rw [rngV_len] at hi; exact hi
 yld:=fun i H x H' _ hi y=>⟨y.1,by
  obtain ⟨_,rfl⟩:=y
  rw [rngV_len] at hi
  unfold rngV
  rw [List.getElem?_map,List.getElem?_range hi]
  rfl⟩
 stop:=fun i H _ hi=>by rw [rngV_len] at hi; exact hi
theorem snoc_get {α:Type}{ys:List α}{y z:α}{j:Nat}(h:(ys ++ [y])[j]?=some z):(j < ys.length/\ys[j]?=some z)\/(j=ys.length/\z=y):=by
 by_cases hj:j < ys.length
 ·rw [List.getElem?_append_left hj] at h
  exact .inl ⟨hj,h⟩
 ·rw [List.getElem?_append_right (by omega)] at h
  have e0:j - ys.length=0:=by
   cases hz:j - ys.length with
   | zero=>rfl
   | succ n=>rw [hz] at h; simp at h
  rw [e0] at h
  exact .inr ⟨by omega,by simpa using h.symm⟩
theorem comp_rel {J:It}{xs:List V}{D:Addr}{g:TG}{te:TE}{σ0:St}{QD:Hp->Prop}{H1:Hp}(Y:Ys J xs H1)(Pr:Nat->V->V->Hp->Prop)(hP : ∀ i x y H H',Pr i x y H->Tk H H'->Pr i x y H')(hD:H1 D=none)(hl:xs.length<=1000)
  (hs : ∀ i x H' (R:VK),xs[i]?=some x->Same H1 H'->(∀ y H4,Same H' H4->Pr i x y H4->R y H4)->g x σ0 H' fun σ2 H2=>Keep σ0 σ2/\te σ2 H2 R)
  (hd : ∀ ys H',Same H1 H'->H' D=some (.lst ys)->ys.length=xs.length->(∀ i x y,xs[i]?=some x->ys[i]?=some y->Pr i x y H')->QD H') :
  ∃ W:Nat->Nat->List V->Hp->Prop,(∃ m,W 0 m [] (upd H1 D (.lst [])))/\∀ i m ys H,W i m ys H->H D=some (.lst ys)/\ys.length < sizeLine /\
   ((J.stop i H/\QD H)\/(J.go i H/\∀ x H',J.yld i H x H'->g x σ0 H' fun σ2 H2=>Keep σ0 σ2/\tNoIf σ2 H2 fun b H3 =>
    if b=true then te σ2 H3 fun y H4=>H4 D=some (.lst ys)/\∃ m',m' < m/\W (i+1) m' (ys ++ [y]) (upd H4 D (.lst (ys ++ [y]))) else ∃ m',m' < m/\W (i+1) m' ys H3)):=by
 refine ⟨fun i m ys H=>m=xs.length - i/\i<=xs.length/\Same H1 H/\H D=some (.lst ys)/\ys.length=i/\∀ j x y,xs[j]?=some x->ys[j]?=some y->Pr j x y H,
  ⟨_,rfl,Nat.zero_le _,Same.upd hD,upd_same,rfl,fun j x y _ h=>by simp at h⟩,?_⟩
 rintro i m ys H ⟨rfl,hi,sm,hDH,yl,pr⟩
 refine ⟨hDH,small1000 (by omega),?_⟩
 by_cases hlt:i < xs.length
 ·refine .inr ⟨Y.go i H sm hlt,fun x H' y => ?_⟩
  obtain ⟨rfl,hx⟩:=Y.yld i H x H' sm hlt y
  refine hs i x H' _ hx sm fun y H4 s4 py => ?_
  have hD4:=s4 _ _ hDH
  have tk:Tk H4 (upd H4 D (.lst (ys ++ [y]))):=Tk.lst hD4
  refine ⟨hD4,xs.length - (i+1),by omega,rfl,hlt,fun b o hb => ?_,upd_same,by rw [List.length_append,yl]; rfl,fun j x' y' hx' hy' => ?_⟩
  ·rw [upd_ne (ne_of_none hb hD)]
   exact s4 _ _ (sm _ _ hb)
  ·rcases snoc_get hy' with ⟨_,hy'⟩ | ⟨e,e'⟩
   ·exact hP _ _ _ _ _ (hP _ _ _ _ _ (pr j x' y' hx' hy') (Same.tk s4)) tk
   ·subst e'
    have:j=i:=by omega
    subst this
    rw [hx] at hx'
    cases hx'
    exact hP _ _ _ _ _ py tk
 ·have e:i=xs.length:=by omega
  subst e
  exact .inl ⟨Y.stop _ H sm (Nat.le_refl _),hd ys H sm hDH yl pr⟩
theorem comp_filt {J:It}{xs:List V}{D:Addr}{g:TG}{tt:TT}{te:TE}{σ0:St}{QD:Hp->Prop}{H1:Hp}(Y:Ys J xs H1)(p:V->Bool)(Pr:V->V->Hp->Prop)(hP : ∀ x y H H',Pr x y H->Tk H H'->Pr x y H')(hD:H1 D=none)(hl:xs.length<=1000)
  (hs : ∀ (i:Nat) x H' (R1:VK) (R2:Hp->Prop),xs[i]?=some x->Same H1 H'->(p x=true->∀ y H4,Same H' H4->Pr x y H4->R1 y H4)->(p x=false->∀ H4,Same H' H4->R2 H4)->g x σ0 H' fun σ2 H2=>Keep σ0 σ2/\tt σ2 H2 fun b H3=>if b=true then te σ2 H3 R1 else R2 H3)
  (hd : ∀ ys H',Same H1 H'->H' D=some (.lst ys)->ys.length=(xs.filter p).length->(∀ (i:Nat) x y,(xs.filter p)[i]?=some x->ys[i]?=some y->Pr x y H')->QD H') :
  ∃ W:Nat->Nat->List V->Hp->Prop,(∃ m,W 0 m [] (upd H1 D (.lst [])))/\∀ i m ys H,W i m ys H->H D=some (.lst ys)/\ys.length < sizeLine /\
   ((J.stop i H/\QD H)\/(J.go i H/\∀ x H',J.yld i H x H'->g x σ0 H' fun σ2 H2=>Keep σ0 σ2/\tt σ2 H2 fun b H3 =>
    if b=true then te σ2 H3 fun y H4=>H4 D=some (.lst ys)/\∃ m',m' < m/\W (i+1) m' (ys ++ [y]) (upd H4 D (.lst (ys ++ [y]))) else ∃ m',m' < m/\W (i+1) m' ys H3)):=by
 refine ⟨fun i m ys H=>m=xs.length - i/\i<=xs.length/\Same H1 H/\H D=some (.lst ys)/\ys.length=((xs.take i).filter p).length/\∀ (j:Nat) x y,((xs.take i).filter p)[j]?=some x->ys[j]?=some y->Pr x y H,
  ⟨_,rfl,Nat.zero_le _,Same.upd hD,upd_same,rfl,fun j x y _ h=>by simp at h⟩,?_⟩
 rintro i m ys H ⟨rfl,hi,sm,hDH,yl,pr⟩
 have yl':ys.length<=xs.length:=by
  rw [yl]
  exact Nat.le_trans (List.length_filter_le _ _) (by rw [List.length_take]; omega)
 refine ⟨hDH,small1000 (by omega),?_⟩
 by_cases hlt:i < xs.length
 ·refine .inr ⟨Y.go i H sm hlt,fun x H' y => ?_⟩
  obtain ⟨rfl,hx⟩:=Y.yld i H x H' sm hlt y
  have et:xs.take (i+1)=xs.take i ++ [x]:=by rw [List.take_add_one,hx]; rfl
  refine hs i x H' _ _ hx sm (fun px y H4 s4 py => ?_) (fun px H4 s4 => ?_)
  ·have hD4:=s4 _ _ hDH
   have tk:Tk H4 (upd H4 D (.lst (ys ++ [y]))):=Tk.lst hD4
   refine ⟨hD4,xs.length - (i+1),by omega,rfl,hlt,fun b o hb => ?_,upd_same,?_,fun j x' y' hx' hy' => ?_⟩
   ·rw [upd_ne (ne_of_none hb hD)]
    exact s4 _ _ (sm _ _ hb)
   ·rw [et,List.filter_append,List.length_append,List.length_append,yl,List.filter_cons_of_pos px]
    rfl
   ·rw [et,List.filter_append,List.filter_cons_of_pos px] at hx'
    rcases snoc_get hx' with ⟨h1,hx'⟩ | ⟨h1,hx'⟩
    ·rcases snoc_get hy' with ⟨_,hy'⟩ | ⟨e,_⟩
     ·exact hP _ _ _ _ (hP _ _ _ _ (pr j x' y' hx' hy') (Same.tk s4)) tk
     ·omega
    ·rcases snoc_get hy' with ⟨h2,_⟩ | ⟨_,hy'⟩
     ·omega
     ·subst hx' hy'
      exact hP _ _ _ _ py tk
  ·refine ⟨xs.length - (i+1),by omega,rfl,hlt,sm.trans s4,s4 _ _ hDH,?_,fun j x' y' hx' hy' => ?_⟩
   ·rw [et,List.filter_append,List.filter_cons_of_neg (by rw [px]; exact Bool.false_ne_true),List.filter_nil,List.append_nil,yl]
   ·rw [et,List.filter_append,List.filter_cons_of_neg (by rw [px]; exact Bool.false_ne_true),List.filter_nil,List.append_nil] at hx'
    exact hP _ _ _ _ (pr j x' y' hx' hy') (Same.tk s4)
 ·have e:i=xs.length:=by omega
  subst e
  rw [List.take_length] at yl pr
  exact .inl ⟨Y.stop _ H sm (Nat.le_refl _),hd ys H sm hDH yl pr⟩
end L2
namespace L2
open PySem PySem.Spec PyProof.Rows
section
variable {prog:Program}{w:World}{A:Around}{E:Value->Shared->Prop}{s:Shared}
theorem tupNext {it t:Addr}{i:Nat}{its:Array Value}{x:Value}{Q:Value->Shared->Prop}(st:s.heap.IsTupleIter it t i)(hl:s.heap.IsTuple t its)(hx:its[i]?=some x)
  (q : ∀ g,g.IsTupleIter it t (i+1)->Heap.SameBut it s.heap g->Q x { s with heap:=g }):wpAny (model prog w) A (Builtin.SmallTypes.nextOf (.ref it)) Q E s:=by
 obtain ⟨ob,e1,e2,e3⟩:=id st
 obtain ⟨ot,e4,_,m,e5⟩:=hl
 unfold Builtin.SmallTypes.nextOf
 refine wpAny_bind (wpAny_callSpecial?_slot (name:=Str.ofString "__next__") st.typeIs F.slot_tuple_iterator_next (wpAny_call_entry F.slot_tuple_iterator_next st.typeIs F.entry_tuple_iterator_next ?_ (F.args_tuple_iterator_next_1 _)))
 refine wpAny_bind (m:=field (.ref it) 0) (wpAny_field e1 e3 (x:=.ref t) rfl ?_)
 show wpAny _ _ (if (Value.ref t == Value.none)=true then _ else (field (.ref it) 1 >>= _)) _ _ s
 rw [if_neg (show ¬ (Value.ref t == Value.none)=true from (fun z=>nomatch z))]
 refine wpAny_bind (wpAny_field e1 e3 (x:=.int i 0) rfl (wpAny_bind (m:=seqItems? (.ref t)) (wpAny_seqItems e4 e5 ?_)))
 simp only [Int.toNat_natCast,hx]
 refine wpAny_bind (wpAny_setField e1 e3 (by simp) (wpAny_pure ⟨x,rfl,wpAny_pure (q _ ⟨_,Heap.get?_update_self _ e1 (Obj.isFreed_of_fields (Obj.data_mapFields e3 _)),(Obj.cls_mapFields ..).trans e2,?_⟩ (Heap.SameBut.update ..))⟩))
 rw [Obj.data_mapFields e3]
 simp [rawInt]
theorem tupStop {it t:Addr}{i:Nat}{its:Array Value}{Q:Value->Shared->Prop}(hh:A.handled=none)(st:s.heap.IsTupleIter it t i)(hl:s.heap.IsTuple t its)(hx:its[i]?=none)
  (q : ∀ g e,Heap.ExtBut it s.heap g->(∃ o,g.get? e=some o/\o.cls = .type "StopIteration")->E (.ref e) { s with heap:=g }):wpAny (model prog w) A (Builtin.SmallTypes.nextOf (.ref it)) Q E s:=by
 obtain ⟨ob,e1,e2,e3⟩:=id st
 obtain ⟨ot,e4,_,m,e5⟩:=hl
 unfold Builtin.SmallTypes.nextOf
 refine wpAny_bind (wpAny_callSpecial?_slot (name:=Str.ofString "__next__") st.typeIs F.slot_tuple_iterator_next (wpAny_call_entry F.slot_tuple_iterator_next st.typeIs F.entry_tuple_iterator_next ?_ (F.args_tuple_iterator_next_1 _)))
 refine wpAny_bind (m:=field (.ref it) 0) (wpAny_field e1 e3 (x:=.ref t) rfl ?_)
 show wpAny _ _ (if (Value.ref t == Value.none)=true then _ else (field (.ref it) 1 >>= _)) _ _ s
 rw [if_neg (show ¬ (Value.ref t == Value.none)=true from (fun z=>nomatch z))]
 refine wpAny_bind (wpAny_field e1 e3 (x:=.int i 0) rfl (wpAny_bind (m:=seqItems? (.ref t)) (wpAny_seqItems e4 e5 ?_)))
 simp only [Int.toNat_natCast,hx]
 refine wpAny_bind (wpAny_rule (wpAny_bind (wpAny_setField e1 e3 (by simp) (wpAny_bind (m:=newExc (.type "StopIteration") []) ?_))))
 simp only [newExc,newTuple]
 refine wpAny_bind (wpAny_newObj_type (wpAny_bind (m:=firstArgMember _ _) (wpAny_of_eq (a:=Value.none) (by first | rfl | (simp only [firstArgMember]; rfl)) (wpAny_newObj_type ?_ (by size_fits)))) (by size_fits))
 simp only [raiseNew]
 refine wpAny_bind (wpAny_handled ?_)
 first | rw [show A.in1.handled=none from hh] | rw [hh]
 exact wpAny_bind (wpAny_pure (wpAny_throw (q _ _ (((Heap.SameBut.update ..).extBut.push _).push _) ⟨_,Heap.get?_push_size _ rfl,rfl⟩)))
theorem drawsTup (hh:A.handled=none)(it t:Addr)(hne:t ≠ it)(its:Array Value) :
  Draws prog w A it [it,t] its.size (fun i v=>its[i]?=some v) (fun i h=>h.IsTupleIter it t i/\h.IsTuple t its) where
 live:=fun _ _ z=>let ⟨o,e,_⟩:=z.1; ⟨o,e⟩
 frame:=fun _ _ _ z k=>⟨z.1.at fun o e=>k it (by simp) o e,z.2.at fun o e=>k t (by simp) o e⟩
 item:=fun i s Q E hi z k=>tupNext z.1 z.2 (x:=its[i]) (by simp [hi]) fun g z' sb=>k _ g s.toks (by simp [hi]) ⟨z',z.2.extBut sb.extBut hne⟩ sb
 done:=fun s Q E z k=>tupStop hh z.1 z.2 (by simp) k
structure Ap (z TI TO i1 i2:Addr)(f1 f2:List Addr):Prop where
 a1 : ∀ b ∈ f1,b ≠ z/\b ≠ TO/\b ≠ i2
 a2 : ∀ b ∈ f2,b ≠ z/\b ≠ TO/\b ≠ i1
 m1:i1 ∈ f1
 m2:i2 ∈ f2
 tz:TI ≠ z
 tO:TI ≠ TO
 t1:TI ≠ i1
 t2:TI ≠ i2
 oz:TO ≠ z
section
variable {z TI TO i1 i2:Addr}{f1 f2:List Addr}{n1 n2 k:Nat}{P1 P2:Nat->Value->Prop}{S1 S2:Nat->Heap->Prop}{a b:Value}
theorem zipNext {Q:Value->Shared->Prop}(D1:Draws prog w A i1 f1 n1 P1 S1)(D2:Draws prog w A i2 f2 n2 P2 S2)(ap:Ap z TI TO i1 i2 f1 f2)(hz:IsZip s.heap z TI TO .none)(hI:IsPair s.heap TI (.ref i1) (.ref i2))(hO:IsPair s.heap TO a b)
  (h1:S1 k s.heap) (h2:S2 k s.heap) (l1:k < n1) (l2:k < n2)
  (q : ∀ x y T g t',P1 k x->P2 k y->T=s.heap.objs.size->IsZip g z TI TO (rawInt T)->IsPair g TO x y->S1 (k+1) g->S2 (k+1) g->IsPair g T x y->(∀ c o,c ≠ z->c ≠ TO->c ≠ i1->c ≠ i2->s.heap.get? c=some o->g.get? c=some o)->Q (.ref T) { s with heap:=g,toks:=t' }) :
  wpAny (model prog w) A (Builtin.«zip.__next__» ⟨[.ref z],[]⟩) (fun fin s'=>∃ v,fin = .done (.ret v)/\Q v s') E s:=by
 have z1:=ap.a1 i1 ap.m1
 have z2:=ap.a2 i2 ap.m2
 refine wpAny_bind (m:=field (.ref z) 2) (wpAny_field hz rfl (x:=.bool false) rfl (wpAny_bind (m:=field (.ref z) 3) (wpAny_field hz rfl (x:=.ref TI) rfl (wpAny_bind (wpAny_seqItems hI rfl (wpAny_bind (m:=Builtin.SmallTypes.ownedTupleIsFree (.ref z)) ?_))))))
 unfold Builtin.SmallTypes.ownedTupleIsFree
 refine wpAny_bind (wpAny_field hz rfl (x:=.none) rfl (wpAny_pure ?_))
 simp only [if_true]
 refine wpAny_bind (wpAny_rule (wpAny_bind (wpAny_field hz rfl (x:=.ref TO) rfl (wpAny_bind (wpAny_setField_rec hz (by simp) fun ga ca sa=>wpAny_bind ?_)))))
 replace ca:IsZip ga z TI TO .ellipsis:=ca
 have ka : ∀ c o,c ≠ z->s.heap.get? c=some o->ga.get? c=some o:=fun c o n e=>sa.extBut _ _ n e
 simp only [List.zipIdx_cons,List.zipIdx_nil,List.forIn_cons,List.forIn_nil]
 refine wpAny_bind (wpAny_bind (wpAny_onRaise (wpAny_bind (m:=Builtin.SmallTypes.nextOf (.ref i1)) (D1.item k _ _ _ l1 (D1.frame _ _ _ h1 fun c hc o e=>ka c o (ap.a1 c hc).1 e) fun x gb tb px sb cb=>wpAny_pure ?_))))
 have kb : ∀ c o,c ≠ z->c ≠ i1->s.heap.get? c=some o->gb.get? c=some o:=fun c o n n' e=>cb.extBut _ _ n' (ka c o n e)
 have hOb:IsPair gb TO a b:=kb _ _ ap.oz (fun e=>z1.2.1 e.symm) hO
 refine wpAny_bind (wpAny_seqItems hOb rfl (wpAny_bind (wpAny_updateSeq_pair hOb fun gc hOc cc=>wpAny_bind (wpAny_letGo (wpAny_pure ?_)))))
 replace hOc:IsPair gc TO x b:=hOc
 have kc : ∀ c o,c ≠ z->c ≠ i1->c ≠ TO->s.heap.get? c=some o->gc.get? c=some o:=fun c o n n' n2 e=>cc.extBut _ _ n2 (kb c o n n' e)
 have sc1:S1 (k+1) gc:=D1.frame _ _ _ sb fun c hc o e=>cc.extBut _ _ (ap.a1 c hc).2.1 e
 refine wpAny_bind (wpAny_bind (wpAny_onRaise (wpAny_bind (m:=Builtin.SmallTypes.nextOf (.ref i2)) (D2.item k _ _ _ l2 (D2.frame _ _ _ h2 fun c hc o e=>kc c o (ap.a2 c hc).1 (ap.a2 c hc).2.2 (ap.a2 c hc).2.1 e) fun y gd td py sd cd=>wpAny_pure ?_))))
 have hOd:IsPair gd TO x b:=cd.extBut _ _ (fun e=>z2.2.1 e.symm) hOc
 refine wpAny_bind (wpAny_seqItems hOd rfl (wpAny_bind (wpAny_updateSeq_pair hOd fun ge hOe ce=>wpAny_bind (wpAny_letGo (wpAny_pure (wpAny_pure ?_))))))
 replace hOe:IsPair ge TO x y:=hOe
 have ke : ∀ c o,c ≠ z->c ≠ TO->c ≠ i1->c ≠ i2->s.heap.get? c=some o->ge.get? c=some o:=fun c o n n1 n2 n3 e=>ce.extBut _ _ n1 (cd.extBut _ _ n3 (kc c o n n2 n1 e))
 have hze:IsZip ge z TI TO .ellipsis:=ce.extBut _ _ (Ne.symm ap.oz) (cd.extBut _ _ (Ne.symm z2.1) (cc.extBut _ _ (Ne.symm ap.oz) (cb.extBut _ _ (Ne.symm z1.1) ca)))
 have se1:S1 (k+1) ge:=D1.frame _ _ _ sc1 fun c hc o e=>ce.extBut _ _ (ap.a1 c hc).2.1 (cd.extBut _ _ (ap.a1 c hc).2.2 e)
 have se2:S2 (k+1) ge:=D2.frame _ _ _ sd fun c hc o e=>ce.extBut _ _ (ap.a2 c hc).2.1 e
 have szs:s.heap.objs.size=ge.objs.size:=by rw [ce.1,cd.1,cc.1,cb.1,sa.1]
 refine wpAny_bind (wpAny_seqItems hOe rfl (wpAny_bind (wpAny_newTuple (wpAny_bind (m:=Builtin.SmallTypes.ownedTupleHandOut (.ref z) (.ref ge.objs.size)) ?_))))
 unfold Builtin.SmallTypes.ownedTupleHandOut
 have zl:z < ge.objs.size:=Heap.lt_size hze
 refine wpAny_bind (wpAny_setField_rec (show IsZip (ge.push { cls:=.type "tuple",data:=.seq #[x,y] }) z TI TO .ellipsis from Heap.get?_push_of_some _ hze) (by simp) fun gf cf sf => ?_)
 replace cf:IsZip gf z TI TO (rawInt ge.objs.size):=cf
 refine wpAny_setField_rec cf (by simp) fun gg cg sg=>wpAny_pure ⟨_,rfl,?_⟩
 replace cg:IsZip gg z TI TO (rawInt ge.objs.size):=cg
 have up : ∀ c o,c ≠ z->ge.get? c=some o->gg.get? c=some o:=fun c o n e=>sg.extBut _ _ n (sf.extBut _ _ n (Heap.get?_push_of_some _ e))
 have hT:IsPair gg ge.objs.size x y:=sg.extBut _ _ (Nat.ne_of_gt zl) (sf.extBut _ _ (Nat.ne_of_gt zl) (Heap.get?_push_size _ rfl))
 exact q x y ge.objs.size gg _ px py szs.symm cg (up _ _ ap.oz hOe) (D1.frame _ _ _ se1 fun c hc o e=>up c o (ap.a1 c hc).1 e) (D2.frame _ _ _ se2 fun c hc o e=>up c o (ap.a2 c hc).1 e) hT fun c o n n1 n2 n3 e=>up c o n (ke c o n n1 n2 n3 e)
theorem zipStop {Q:Fin->Shared->Prop}(D1:Draws prog w A i1 f1 n1 P1 S1)(D2:Draws prog w A i2 f2 n2 P2 S2)(ap:Ap z TI TO i1 i2 f1 f2)(hz:IsZip s.heap z TI TO .none)(hI:IsPair s.heap TI (.ref i1) (.ref i2))(hO:IsPair s.heap TO a b)
  (h1:S1 k s.heap) (h2:S2 k s.heap) (hk:k=n1\/(k < n1/\k=n2))
  (q : ∀ g e t',(∀ c o,c ≠ z->c ≠ TO->c ≠ i1->c ≠ i2->s.heap.get? c=some o->g.get? c=some o)->(∃ o,g.get? e=some o/\o.cls = .type "StopIteration")->E (.ref e) { s with heap:=g,toks:=t' }) :
  wpAny (model prog w) A (Builtin.«zip.__next__» ⟨[.ref z],[]⟩) Q E s:=by
 have z1:=ap.a1 i1 ap.m1
 have z2:=ap.a2 i2 ap.m2
 refine wpAny_bind (m:=field (.ref z) 2) (wpAny_field hz rfl (x:=.bool false) rfl (wpAny_bind (m:=field (.ref z) 3) (wpAny_field hz rfl (x:=.ref TI) rfl (wpAny_bind (wpAny_seqItems hI rfl (wpAny_bind (m:=Builtin.SmallTypes.ownedTupleIsFree (.ref z)) ?_))))))
 unfold Builtin.SmallTypes.ownedTupleIsFree
 refine wpAny_bind (wpAny_field hz rfl (x:=.none) rfl (wpAny_pure ?_))
 simp only [if_true]
 refine wpAny_bind (wpAny_rule (wpAny_bind (wpAny_field hz rfl (x:=.ref TO) rfl (wpAny_bind (wpAny_setField_rec hz (by simp) fun ga ca sa=>wpAny_bind ?_)))))
 replace ca:IsZip ga z TI TO .ellipsis:=ca
 have ka : ∀ c o,c ≠ z->s.heap.get? c=some o->ga.get? c=some o:=fun c o n e=>sa.extBut _ _ n e
 simp only [List.zipIdx_cons,List.zipIdx_nil,List.forIn_cons,List.forIn_nil]
 rcases hk with e | ⟨l1,e⟩
 ·subst e
  refine wpAny_bind (wpAny_bind (wpAny_onRaise (wpAny_bind (m:=Builtin.SmallTypes.nextOf (.ref i1)) (D1.done _ _ _ (D1.frame _ _ _ h1 fun c hc o e=>ka c o (ap.a1 c hc).1 e) fun gb e cb he => ?_))))
  obtain ⟨oe,h3,h4⟩:=he
  have hzb:IsZip gb z TI TO .ellipsis:=cb _ _ (Ne.symm z1.1) ca
  have hez:e ≠ z:=fun x=>by rw [x,hzb] at h3; cases h3; simp at h4
  exact wpAny_setField_rec hzb (by simp) fun gc _ cc=>q gc e s.toks (fun c o n _ n2 _ x=>cc.extBut _ _ n (cb _ _ n2 (ka c o n x))) ⟨oe,cc.extBut _ _ hez h3,h4⟩
 ·subst e
  refine wpAny_bind (wpAny_bind (wpAny_onRaise (wpAny_bind (m:=Builtin.SmallTypes.nextOf (.ref i1)) (D1.item k _ _ _ l1 (D1.frame _ _ _ h1 fun c hc o e=>ka c o (ap.a1 c hc).1 e) fun x gb tb px sb cb=>wpAny_pure ?_))))
  have kb : ∀ c o,c ≠ z->c ≠ i1->s.heap.get? c=some o->gb.get? c=some o:=fun c o n n' e=>cb.extBut _ _ n' (ka c o n e)
  have hOb:IsPair gb TO a b:=kb _ _ ap.oz (fun e=>z1.2.1 e.symm) hO
  refine wpAny_bind (wpAny_seqItems hOb rfl (wpAny_bind (wpAny_updateSeq_pair hOb fun gc hOc cc=>wpAny_bind (wpAny_letGo (wpAny_pure ?_)))))
  have kc : ∀ c o,c ≠ z->c ≠ i1->c ≠ TO->s.heap.get? c=some o->gc.get? c=some o:=fun c o n n' n2 e=>cc.extBut _ _ n2 (kb c o n n' e)
  refine wpAny_bind (wpAny_bind (wpAny_onRaise (wpAny_bind (m:=Builtin.SmallTypes.nextOf (.ref i2)) (D2.done _ _ _ (D2.frame _ _ _ h2 fun c hc o e=>kc c o (ap.a2 c hc).1 (ap.a2 c hc).2.2 (ap.a2 c hc).2.1 e) fun gd e cd he => ?_))))
  obtain ⟨oe,h3,h4⟩:=he
  have hzd:IsZip gd z TI TO .ellipsis:=cd _ _ (Ne.symm z2.1) (cc.extBut _ _ (Ne.symm ap.oz) (cb.extBut _ _ (Ne.symm z1.1) ca))
  have hez:e ≠ z:=fun x=>by rw [x,hzd] at h3; cases h3; simp at h4
  exact wpAny_setField_rec hzd (by simp) fun ge _ ce=>q ge e tb (fun c o n n1 n2 n3 x=>ce.extBut _ _ n (cd _ _ n3 (kc c o n n2 n1 x))) ⟨oe,ce.extBut _ _ hez h3,h4⟩
theorem zipPy {Q:Option Value->Shared->Prop}(D1:Draws prog w A.in1 i1 f1 n1 P1 S1)(D2:Draws prog w A.in1 i2 f2 n2 P2 S2)(ap:Ap z TI TO i1 i2 f1 f2)(hz:IsZip s.heap z TI TO .none)(hI:IsPair s.heap TI (.ref i1) (.ref i2))(hO:IsPair s.heap TO a b)
  (h1:S1 k s.heap) (h2:S2 k s.heap) (l1:k < n1) (l2:k < n2)
  (q : ∀ x y T g t',P1 k x->P2 k y->T=s.heap.objs.size->IsZip g z TI TO (rawInt T)->IsPair g TO x y->S1 (k+1) g->S2 (k+1) g->IsPair g T x y->(∀ c o,c ≠ z->c ≠ TO->c ≠ i1->c ≠ i2->s.heap.get? c=some o->g.get? c=some o)->Q (some (.ref T)) { s with heap:=g,toks:=t' }) :
  wpAny (model prog w) A (pyNext (.ref z)) Q E s:=by
 have ty:s.TypeIs (.ref z) "zip" := ⟨_,hz,rfl⟩
 unfold pyNext
 exact wpAny_bind (wpAny_attempt (wpAny_callSpecial?_slot (name:=Str.ofString "__next__") ty F.slot_zip_next (wpAny_call_entry F.slot_zip_next ty F.entry_zip_next (zipNext D1 D2 ap hz hI hO h1 h2 l1 l2 fun x y T g t' c1 c2 c3 c4 c5 c6 c7 c8 c9=>wpAny_pure (q x y T g t' c1 c2 c3 c4 c5 c6 c7 c8 c9)) (F.args_zip_next_1 _))))
theorem zipPyStop {Q:Option Value->Shared->Prop}(D1:Draws prog w A.in1 i1 f1 n1 P1 S1)(D2:Draws prog w A.in1 i2 f2 n2 P2 S2)(ap:Ap z TI TO i1 i2 f1 f2)(hz:IsZip s.heap z TI TO .none)(hI:IsPair s.heap TI (.ref i1) (.ref i2))(hO:IsPair s.heap TO a b)
  (h1:S1 k s.heap) (h2:S2 k s.heap) (hk:k=n1\/(k < n1/\k=n2))
  (q : ∀ g t',(∀ c o,c ≠ z->c ≠ TO->c ≠ i1->c ≠ i2->s.heap.get? c=some o->g.get? c=some o)->Q none { s with heap:=g,toks:=t' }):wpAny (model prog w) A (pyNext (.ref z)) Q E s:=by
 have ty:s.TypeIs (.ref z) "zip" := ⟨_,hz,rfl⟩
 unfold pyNext
 refine wpAny_bind (wpAny_attempt (wpAny_callSpecial?_slot (name:=Str.ofString "__next__") ty F.slot_zip_next (wpAny_call_entry F.slot_zip_next ty F.entry_zip_next (zipStop D1 D2 ap hz hI hO h1 h2 hk fun g e t' kp he => ?_) (F.args_zip_next_1 _))))
 obtain ⟨o,h3,h4⟩:=he
 exact wpAny_bind (wpAny_isInstance (T := "StopIteration") (b:=true) ⟨o,h3,h4⟩ isSubtype_stop (wpAny_pure (q _ _ kp)))
end
end
def Itz (K:PySem.W.Frag)(a b:Addr):It :=
  ⟨fun i H=>∃ xs ys,SqT K H a xs/\SqL K H b ys/\i < xs.length/\i < ys.length,
   fun i H v H'=>∃ T,H T=none/\v = .ref T/\∀ xs ys,SqT K H a xs->SqL K H b ys->∃ x y,xs[i]?=some x/\ys[i]?=some y/\H'=upd H T (.tup [x,y]),
   fun i H=>∃ xs ys,SqT K H a xs/\SqL K H b ys/\(i=xs.length\/(i < xs.length/\i=ys.length))⟩
theorem Inv.turnedL {X:Cx}{pins:List (Addr × Obj)}{σ:St}{H:Hp}{s:Shared}{h':Heap}{t':Nat}{ch:List Addr}(I:Inv X pins σ H s)(k : ∀ b o,b ∉ ch->s.heap.get? b=some o->h'.get? b=some o)(hf : ∀ b ∈ ch,FpOk X pins H b):Inv X pins σ H { s with heap:=h',toks:=t' }:=by
 have nit : ∀ b u,H b=some u->b ∉ ch:=fun b u e z=>by rw [(hf b z).1] at e; cases e
 refine I.step (g':=s.gens) (d':=s.drawn) (ch:=ch) (fun b hb=>⟨(hf b hb).2.2.2.1,(hf b hb).2.1,(hf b hb).2.2.2.2.1,(hf b hb).2.2.2.2.2⟩) (fun b o _ _ hc e _=>k b o hc e) (fun b o _ _ hc e _=>⟨o.slots,k b o hc e⟩) (fun _ _ _ _ n=>n)
  (fun b o hc e=>⟨o,k b o hc e⟩) (fun _ _ e=>e) (fun _ _ _ e=>e) (fun b ps e=>⟨#[],by rw [e]; simp⟩) (fun m hm => ?_) (fun b u e => ?_) I.bare
 ·obtain ⟨o,es,ep,ho,r⟩:=hm
  exact ⟨o,es,ep,k _ o (fun z=>(hf _ z).2.1 rfl) ho,r⟩
 ·refine (I.hok b u e).stay (fun c v hc q=>k c v ?_ q) (fun _ q=>q) fun _ _ q=>q
  rcases hc with z | z
  ·rw [z]; exact nit b u e
  ·exact nit c _ z
def ZipSt (n a b:Nat)(i:Nat)(h:Heap):Prop:=IsZip h (n+4) (n+2) (n+3) .none/\IsPair h (n+2) (.ref n) (.ref (n+1))/\(∃ x y,IsPair h (n+3) x y)/\h.IsTupleIter n a i/\h.IsListIter (n+1) b i
theorem ap_new {n a b:Nat}(ha:a < n)(hb:b < n):Ap (n+4) (n+2) (n+3) n (n+1) [n,a] [n+1,b] where
 a1:=fun c hc=>by
  have hc':c=n\/c=a:=by simpa using hc
  rcases hc' with e | e <;> (subst e; exact ⟨by show (_:Nat) ≠ _; omega,by show (_:Nat) ≠ _; omega,by show (_:Nat) ≠ _; omega⟩)
 a2:=fun c hc=>by
  have hc':c=n+1\/c=b:=by simpa using hc
  rcases hc' with e | e <;> (subst e; exact ⟨by show (_:Nat) ≠ _; omega,by show (_:Nat) ≠ _; omega,by show (_:Nat) ≠ _; omega⟩)
 m1:=by simp
 m2:=by simp
 tz:=by show (_:Nat) ≠ _; omega
 tO:=by show (_:Nat) ≠ _; omega
 t1:=by show (_:Nat) ≠ _; omega
 t2:=by show (_:Nat) ≠ _; omega
 oz:=by show (_:Nat) ≠ _; omega
abbrev zo1 (h:Heap)(a:Addr):Heap:=h.push { cls:=.type "tuple_iterator",data:=.fields #[.ref a,.int 0 0] }
abbrev zo2 (h:Heap)(a b:Addr):Heap:=(zo1 h a).push { cls:=.type "list_iterator",data:=.fields #[.ref b,.int 0 0] }
abbrev zo3 (h:Heap)(a b:Addr):Heap:=(zo2 h a b).push { cls:=.type "tuple",data:=.seq #[.ref h.objs.size,.ref (zo1 h a).objs.size] }
abbrev zo4 (h:Heap)(a b:Addr):Heap:=(zo3 h a b).push { cls:=.type "tuple",data:=.seq #[.none,.none] }
abbrev zo5 (h:Heap)(a b:Addr):Heap:=(zo4 h a b).push { cls:=.type "zip",data:=.fields #[.none,.bool false,.bool false,.ref (zo2 h a b).objs.size,.ref (zo3 h a b).objs.size] }
def iZip (K:PySem.W.Frag)(ta:TA):TI:=fun σ H R=>ta σ H fun vs H1=>∃ a b,vs=[.ref a,.ref b]/\(∃ xs,SqT K H1 a xs)/\(∃ ys,SqL K H1 b ys)/\R (Itz K a b) H1
theorem bt_zip:bootBuiltins "zip" = some (.type "zip"):=by decide +kernel
end L2
namespace K17
open PySem PySem.Spec PyProof.Rows L2 GM
def top (i:Nat):Stmt:=PySem.Challenge.pw_phialhouse_k17_wares_and_meetings.main.body.getD i (.Pass ⟨0,0,0,0⟩)
abbrev sGcd:Stmt:=top 14
abbrev sLow:Stmt:=top 15
abbrev sPlus:Stmt:=top 16
abbrev sMinus:Stmt:=top 17
abbrev sTimes:Stmt:=top 18
abbrev sOver:Stmt:=top 19
abbrev sLess:Stmt:=top 20
abbrev sWholeL:Stmt:=top 22
abbrev sRowsOf:Stmt:=top 24
abbrev sThin:Stmt:=top 25
abbrev sThof:Stmt:=top 26
abbrev sShares:Stmt:=top 27
abbrev sPutBy:Stmt:=top 28
abbrev sLooked:Stmt:=top 30
abbrev sRnm:Stmt:=top 31
abbrev sRTw:Stmt:=top 32
abbrev sRNn:Stmt:=top 33
abbrev sRNp:Stmt:=top 34
abbrev sOof:Stmt:=top 35
abbrev sReady:Stmt:=top 36
abbrev sRingB:Stmt:=top 37
abbrev sROv:Stmt:=top 38
abbrev sFOv:Stmt:=top 39
abbrev sRMe:Stmt:=top 40
abbrev sWay:Stmt:=top 41
abbrev sWof:Stmt:=top 42
abbrev sCell:Stmt:=top 44
abbrev sLeft:Stmt:=top 45
abbrev sNext:Stmt:=top 46
abbrev sDiv:Stmt:=top 47
abbrev sLlow:Stmt:=top 48
abbrev sNames:Stmt:=top 49
abbrev sLam:Stmt:=top 50
abbrev sLparts:Stmt:=top 51
abbrev sFilled:Stmt:=top 52
abbrev sLrow:Stmt:=top 53
abbrev sBehind:Stmt:=top 54
abbrev sLower:Stmt:=top 55
abbrev sLrecs:Stmt:=top 56
abbrev sLapart:Stmt:=top 57
abbrev sBegun:Stmt:=top 58
abbrev sLbook:Stmt:=top 59
abbrev sThings:Stmt:=top 60
abbrev sOrd:Stmt:=top 61
abbrev sReach:Stmt:=top 62
abbrev sMeetL:Stmt:=top 63
abbrev sWayR:Stmt:=top 64
abbrev sLookL:Stmt:=top 65
abbrev sKind:Stmt:=top 66
abbrev sMeetR:Stmt:=top 67
abbrev sLaw:Stmt:=top 68
def spGcd:Sp:=fun vs H Q _=>∃ a b:Int,vs=[.int a,.int b]/\0<=a/\0<=b/\Q (.int (G a b)) H
def spLow:Sp:=fun vs H Q _=>∃ t b:Int,vs=[.int t,.int b]/\0<=t/\1<=b/\Bt 9000 b/\RetT H Q [t / G t b,b / G t b]
section
variable {P:Program}{w:World}{K:PySem.W.Frag}{mg:Str->Option Value}{base:Heap}
theorem gcd_turn {a0 b0 a b:Int}(e:G a b=G a0 b0)(hb:0<=b)(h : ¬ b=0):0<=a % b/\G b (a % b)=G a0 b0:=⟨Int.emod_nonneg a h,by rw [G_step]; exact e⟩
theorem scGcd:FnScope ["one","other","rest"] ["one","other"] (defScope sGcd):=⟨rfl,rfl,rfl,by decide +kernel,rfl,by decide +kernel,by decide +kernel⟩
theorem ok_gcd {f:Addr}{fd:FuncData}(F:Fun K "common_divisor" "common_divisor" sGcd f fd):FnOk P w K mg base CX0 1 f fd ["one","other"] spGcd:=by
 refine F.ok scGcd (fun vs H Q E h => ?_) (fun cdv A outer s H vs Q E hr h => ?_)
 ·obtain ⟨a,b,rfl,_⟩:=h
  rfl
 ·obtain ⟨a,b,rfl,ha,hb,k⟩:=h
  refine ⟨_,pss_cons (ps_while PassesOwn.never (pt_cmpR op_ne (pv 1) pe_int (nomark _))
   (pss_cons (ps_set (i:=2) scGcd.nd rfl (Or.inl rfl) (pe_op op_mod (pv 0) (pv 1)))
   (pss_cons (ps_set (i:=0) scGcd.nd rfl (Or.inl rfl) (pv 1))
   (pss_one (ps_set (i:=1) scGcd.nd rfl (Or.inl rfl) (pv 2))))))
   (pss_one (ps_ret (pv 0))),?_⟩
  refine while_by (fun σ H'=>H'=H/\∃ (x y:Int) (r:Option V),σ=[some (.int x),some (.int y),r]/\0<=x/\0<=y/\G x y=G a b) (fun σ _=>match σ with | [_,some (.int y),_]=>y.toNat | _=>0) ⟨rfl,a,b,none,rfl,ha,hb,rfl⟩ ?_ ?_
  ·rintro σ H' ⟨rfl,x,y,r,rfl,hx,hy,e⟩
   refine ⟨_,rfl,rfl,_,rfl,?_⟩
   refine ite2 (fun hc => ?_) (fun hc => ?_)
   ·have hy0 : ¬ y=0:=by
     intro z
     subst z
     simp at hc
    have t:=gcd_turn e hy hy0
    refine ⟨_,rfl,_,rfl,_,_,rfl,rfl,(by show 0 < y; omega),_,rfl,_,rfl,⟨rfl,y,x % y,_,rfl,hy,t.1,t.2⟩,?_⟩
    have:=Int.emod_lt_of_pos x (show 0 < y by omega)
    have:=t.1
    show (x % y).toNat < y.toNat
    omega
   ·have hy0:y=0:=by
     by_cases z:y=0
     ·exact z
     ·exfalso
      apply hc
      simp [z]
    subst hy0
    rw [G_zero hx] at e
    exact ⟨_,rfl,by rw [e]; exact k⟩
  ·rintro σ H' Q1 Q2 hq ⟨v,e,z,q⟩
   exact ⟨v,e,z,by obtain ⟨k,e,q⟩:=q; exact ⟨k,e,hq _ _ q⟩⟩
theorem scLow:FnScope ["top","bottom","divisor"] ["top","bottom"] (defScope sLow):=⟨rfl,rfl,rfl,by decide +kernel,rfl,by decide +kernel,by decide +kernel⟩
theorem low_small {t b:Int}(h1:1<=b)(hs:Bt 9000 b):0 < G t b/\Bt 9000 (G t b):=by
 have p:=G_pos (a:=t) (b:=b) (by omega)
 exact ⟨p,hs.le (by omega) (G_le_r (by omega))⟩
theorem ok_low {f:Addr}{fd:FuncData}(F:Fun K "lowest_terms" "lowest_terms" sLow f fd)(cG:Cal P w K mg base CX0 1 "common_divisor" ["one","other"] spGcd):FnOk P w K mg base CX0 2 f fd ["top","bottom"] spLow:=by
 refine F.ok scLow (fun vs H Q E h => ?_) (fun cdv A outer s H vs Q E hr h => ?_)
 ·obtain ⟨a,b,rfl,_⟩:=h
  rfl
 ·obtain ⟨t,b,rfl,ht,hb,hs,k⟩:=h
  refine ⟨_,pss_cons (ps_set (i:=2) scLow.nd rfl (Or.inl rfl) (pe_cal cG hr rfl pass0 (pa_cons (pv 0) (pa_cons (pv 1) pa_nil))))
   (pss_one (ps_ret (pe_tup (pa_cons (pe_op op_fdivB (pv 0) (pv 2)) (pa_cons (pe_op op_fdivB (pv 1) (pv 2)) pa_nil))))),?_⟩
  refine ⟨_,rfl,_,rfl,t,b,rfl,ht,by omega,?_⟩
  have g:=low_small (t:=t) hb hs
  refine ⟨_,rfl,_,rfl,_,_,rfl,rfl,g,_,rfl,_,rfl,_,_,rfl,rfl,g,(by show 2<=sizeLine; decide),fun p hp => ?_⟩
  exact k p _ (Same.upd hp) upd_same
theorem b6 {n:Nat}{x:Int}(h:Bt n x)(hn:n<=1000000:=by decide):Bt 1000000 x:=h.mono hn
end
theorem bt_lt (n:Nat){x c:Int}(h0:0<=x)(h:x < c)(hc:c<=((2 ^ n:Nat):Int):=by decide +kernel):Bt n x:=by
 show x.natAbs < 2 ^ n
 omega
theorem emod_in (x:Int){m:Int}(h:0 < m):0<=x % m/\x % m < m:=⟨Int.emod_nonneg x (by omega),Int.emod_lt_of_pos x h⟩
structure Txt (mg:Str->Option Value):Prop where
 isi:mg "isinstance" = none
 int':mg "int" = none
 bool':mg "bool" = none
 str':mg "str" = none
 list':mg "list" = none
 tup':mg "tuple" = none
 len:mg "len" = none
 any':mg "any" = none
 all':mg "all" = none
 range:mg "range" = none
 min':mg "min" = none
 abs':mg "abs" = none
 enum':mg "enumerate" = none
 zip':mg "zip" = none
 val:mg "ValueError" = none
 max':mg "max" = none
 dict':mg "dict" = none
 sum':mg "sum" = none
 sorted':mg "sorted" = none
section
variable {P:Program}{w:World}{K:PySem.W.Frag}{mg:Str->Option Value}{base:Heap}
theorem scDiv:FnScope ["_law_one","_law_other"] ["_law_one","_law_other"] (defScope sDiv):=⟨rfl,rfl,rfl,by decide +kernel,rfl,by decide +kernel,by decide +kernel⟩
theorem ok_div {f:Addr}{fd:FuncData}(F:Fun K "_law_divisor" "_law_divisor" sDiv f fd):FnOk P w K mg base CX0 1 f fd ["_law_one","_law_other"] spGcd:=by
 refine F.ok scDiv (fun vs H Q E h => ?_) (fun cdv A outer s H vs Q E hr h => ?_)
 ·obtain ⟨a,b,rfl,_⟩:=h
  rfl
 ·obtain ⟨a,b,rfl,ha,hb,k⟩:=h
  refine ⟨_,pss_cons (ps_while PassesOwn.never (pt_cmpR op_gt (pv 1) pe_int (nomark _))
   (pss_one (ps_par (i:=0) (j:=1) rfl scDiv.nd rfl rfl (by decide) rfl rfl (pa_cons (pv 1) (pa_cons (pe_op op_mod (pv 0) (pv 1)) pa_nil)) rfl)))
   (pss_one (ps_ret (pv 0))),?_⟩
  refine while_by (fun σ H'=>H'=H/\∃ (x y:Int),σ=[some (.int x),some (.int y)]/\0<=x/\0<=y/\G x y=G a b) (fun σ _=>match σ with | [_,some (.int y)]=>y.toNat | _=>0) ⟨rfl,a,b,rfl,ha,hb,rfl⟩ ?_ ?_
  ·rintro σ H' ⟨rfl,x,y,rfl,hx,hy,e⟩
   refine ⟨_,rfl,_,_,rfl,rfl,_,rfl,?_⟩
   refine ite2 (fun hc => ?_) (fun hc => ?_)
   ·have hy0:0 < y:=of_decide_eq_true hc
    have t:=gcd_turn e hy (by omega)
    refine ⟨_,rfl,_,rfl,_,rfl,_,_,rfl,rfl,(by show 0 < y; omega),_,_,rfl,⟨rfl,y,x % y,rfl,hy,t.1,t.2⟩,?_⟩
    have:=Int.emod_lt_of_pos x (show 0 < y by omega)
    have:=t.1
    show (x % y).toNat < y.toNat
    omega
   ·have hy0:y=0:=by
     have : ¬ 0 < y:=fun z=>hc (decide_eq_true z)
     omega
    subst hy0
    rw [G_zero hx] at e
    exact ⟨_,rfl,by rw [e]; exact k⟩
  ·rintro σ H' Q1 Q2 hq ⟨v,e,i,j,e1,e2,z,ez,q⟩
   exact ⟨v,e,i,j,e1,e2,z,ez,hq _ _ q⟩
theorem scLlow:FnScope ["_law_top","_law_bottom","_law_by"] ["_law_top","_law_bottom"] (defScope sLlow):=⟨rfl,rfl,rfl,by decide +kernel,rfl,by decide +kernel,by decide +kernel⟩
theorem ok_llow {f:Addr}{fd:FuncData}(F:Fun K "_law_low" "_law_low" sLlow f fd)(cG:Cal P w K mg base CX0 1 "_law_divisor" ["_law_one","_law_other"] spGcd):FnOk P w K mg base CX0 2 f fd ["_law_top","_law_bottom"] spLow:=by
 refine F.ok scLlow (fun vs H Q E h => ?_) (fun cdv A outer s H vs Q E hr h => ?_)
 ·obtain ⟨a,b,rfl,_⟩:=h
  rfl
 ·obtain ⟨t,b,rfl,ht,hb,hs,k⟩:=h
  refine ⟨_,pss_cons (ps_set (i:=2) scLlow.nd rfl (Or.inl rfl) (pe_cal cG hr rfl pass0 (pa_cons (pv 0) (pa_cons (pv 1) pa_nil))))
   (pss_one (ps_ret (pe_tup (pa_cons (pe_op op_fdivB (pv 0) (pv 2)) (pa_cons (pe_op op_fdivB (pv 1) (pv 2)) pa_nil))))),?_⟩
  refine ⟨_,rfl,_,rfl,t,b,rfl,ht,by omega,?_⟩
  have g:=low_small (t:=t) hb hs
  refine ⟨_,rfl,_,rfl,_,_,rfl,rfl,g,_,rfl,_,rfl,_,_,rfl,rfl,g,(by show 2<=sizeLine; decide),fun p hp => ?_⟩
  exact k p _ (Same.upd hp) upd_same
theorem bt_int:bootBuiltins "int" = some (.type "int"):=by decide +kernel
theorem bt_tuple:bootBuiltins "tuple" = some (.type "tuple"):=by decide +kernel
theorem bt_str:bootBuiltins "str" = some (.type "str"):=by decide +kernel
end
theorem bl {c:Int}(h0:0<=c:=by decide)(h:c < 18446744073709551616:=by decide):Bt 1000000 c:=b6 (bt_lt 64 h0 h)
theorem bk {c:Int}(h0:0<=c:=by decide)(h:c < 18446744073709551616:=by decide):Bt 1000 c:=(bt_lt 64 h0 h).mono (by decide)
end K17
namespace K17
open PySem PySem.Spec PyProof.Rows L2 GM TM
def SmB (a:Addr)(H H':Hp):Prop:=∀ b o,b ≠ a->H b=some o->H' b=some o
theorem SmB.refl {a:Addr}{H:Hp}:SmB a H H:=fun _ _ _ h=>h
theorem SmB.trans {a:Addr}{H H1 H2:Hp}(h:SmB a H H1)(k:SmB a H1 H2):SmB a H H2:=fun b o n e=>k b o n (h b o n e)
theorem SmB.of {a:Addr}{H H':Hp}(h:Same H H'):SmB a H H':=fun b o _ e=>h b o e
theorem SmB.upd {a:Addr}{H:Hp}{o:HO}:SmB a H (upd H a o):=fun b u n e=>by rw [upd_ne n]; exact e
theorem SmB.same {a:Addr}{H H':Hp}(h:SmB a H H')(n:H a=none):Same H H':=fun b o e=>h b o (fun z=>by rw [z,n] at e; cases e) e
def Lf (H:Hp)(a:Addr):Prop:=∃ n fl:Int,H a=some (.lst [.int n,.int fl])/\0<=n/\(fl=0\/(fl=1/\n < 2147483647))
theorem pick18 (k:Bool):atI [V.int 1,V.int 8] (if k=true then 1 else 0)=some (V.int (if k=true then 8 else 1)):=by cases k <;> rfl
theorem pick8 (k:Bool) : -(2 ^ 62)<=(if k=true then (8:Int) else 1)/\(if k=true then (8:Int) else 1) < 2 ^ 62/\(if k=true then (8:Int) else 1).toNat<=8:=by cases k <;> decide
def spCell (K:PySem.W.Frag):Sp:=fun vs H Q _=>∃ (a:Addr) (ns:List Int) (k:Int),vs=[.ref a,.int k]/\SqL K H a (ns.map V.int)/\0<=k/\∀ c:Int,Q (.int c) H
def spLeft (K:PySem.W.Frag):Sp:=fun vs H Q _=>∃ (a:Addr) (ns:List Int) (k:Int),vs=[.ref a,.int k]/\SqL K H a (ns.map V.int)/\0<=k/\k<=63/\∀ p H',Same H H'->H p=none->Lf H' p->Q (.ref p) H'
def spNext:Sp:=fun vs H Q _=>∃ (a:Addr) (m:Int),vs=[.ref a,.int m]/\Lf H a/\1<=m/\Bt 9000 m/\∀ (d:Int) H',0<=d->d < m->SmB a H H'->Lf H' a->Q (.int d) H'
section
variable {P:Program}{w:World}{K:PySem.W.Frag}{mg:Str->Option Value}{base:Heap}
theorem scCell:FnScope ["_law_script","_law_k"] ["_law_script","_law_k"] (defScope sCell):=⟨rfl,rfl,rfl,by decide +kernel,rfl,by decide +kernel,by decide +kernel⟩
theorem ok_cell {f:Addr}{fd:FuncData}(F:Fun K "_law_cell_at" "_law_cell_at" sCell f fd)(T:Txt mg):FnOk P w K mg base CX0 1 f fd ["_law_script","_law_k"] (spCell K):=by
 refine F.ok scCell (fun vs H Q E h => ?_) (fun cdv A outer s H vs Q E hr h => ?_)
 ·obtain ⟨_,_,_,rfl,_⟩:=h
  rfl
 ·obtain ⟨a,ns,j,rfl,hS,h0,k⟩:=h
  refine ⟨_,(pss_cons (ps_if (pt_cmpR op_lt (pv 1) (pe_callB call_len_seq rfl T.len PySem.boot_len (pa_cons (pv 0) pa_nil)) (nomark _))
    (pss_one (ps_ret (pe_ix ix_list (pv 0) (pv 1) (fun _ _=>rfl))))
    pss_nil)
   (pss_one (ps_ret pe_int))),?_⟩
  refine ⟨_,rfl,_,rfl,a,_,rfl,.inl hS,_,_,rfl,rfl,_,rfl,ite2 (fun hc => ?_) (fun _=>k _)⟩
  have hc':j < ((ns.map V.int).length:Int):=of_decide_eq_true hc
  rw [List.length_map] at hc'
  obtain ⟨i,rfl⟩:=Int.eq_ofNat_of_zero_le h0
  obtain ⟨c,hc⟩ : ∃ c,ns[i]?=some c:=⟨_,List.getElem?_eq_getElem (show i < ns.length by omega)⟩
  exact ⟨_,rfl,_,rfl,a,_,(i:Int),.int c,rfl,rfl,hS,atI_nat (by rw [List.getElem?_map,hc]; rfl),k c⟩
theorem bt_abs:bootBuiltins "abs" = some (.builtin "abs"):=by decide +kernel
theorem scLeft:FnScope ["_law_script","_law_k","_law_cell","_law_number"] ["_law_script","_law_k"] (defScope sLeft):=⟨rfl,rfl,rfl,by decide +kernel,rfl,by decide +kernel,by decide +kernel⟩
theorem ok_left {f:Addr}{fd:FuncData}(F:Fun K "_law_left" "_law_left" sLeft f fd)(T:Txt mg)(cC:Cal P w K mg base CX0 1 "_law_cell_at" ["_law_script","_law_k"] (spCell K)):FnOk P w K mg base CX0 2 f fd ["_law_script","_law_k"] (spLeft K):=by
 refine F.ok scLeft (fun vs H Q E h => ?_) (fun cdv A outer s H vs Q E hr h => ?_)
 ·obtain ⟨_,_,_,rfl,_⟩:=h
  rfl
 ·obtain ⟨a,ns,j,rfl,hS,h0,h63,k⟩:=h
  refine ⟨_,(pss_cons (ps_set (i:=2) scLeft.nd rfl (Or.inl rfl) (pe_callB call_abs rfl T.abs' bt_abs (pa_cons (pe_cal cC hr rfl pass0 (pa_cons (pv 0) (pa_cons (pv 1) pa_nil))) pa_nil)))
   (pss_cons (ps_if (pt_cmpR op_eq (pe_op op_mod (pe_cal cC hr rfl pass0 (pa_cons (pv 0) (pa_cons pe_int pa_nil))) pe_int) pe_int (nomark _))
    (pss_one (ps_ret (pe_lst (pa_cons (pe_op op_fdivB (pv 2) (pe_op op_add pe_int (pe_callTy call_int1 rfl T.int' bt_int (pa_cons (pe_cmpR op_eq (pv 1) pe_int (nomark _)) pa_nil)))) (pa_cons pe_int pa_nil)))))
    pss_nil)
   (pss_cons (ps_set (i:=3) scLeft.nd rfl (Or.inl rfl) (pe_op op_mod (pe_op op_mulB (pe_op op_add (pe_op op_add (pe_op op_mod (pv 2) pe_int) (pe_op op_mulB (pe_op op_mulB pe_int (pv 1)) (pv 1))) pe_int) pe_int) pe_int))
   (pss_one (ps_ret (pe_lst (pa_cons (pe_op op_add (pe_op op_mod (pe_op op_mulB (pv 3) pe_int) pe_int) pe_int) (pa_cons pe_int pa_nil)))))))),?_⟩
  refine ⟨_,rfl,_,rfl,a,ns,j,rfl,hS,h0,fun c=>⟨c,rfl,?_⟩⟩
  have ha:0<=(if c < 0 then -c else c):=by split <;> omega
  generalize (if c < 0 then -c else c)=n at *
  refine ⟨_,rfl,a,ns,0,rfl,hS,by decide,fun c'=>⟨_,_,rfl,rfl,(by show (0:Int) < 2; decide),rfl,_,rfl,ite2 (fun _ => ?_) (fun _ => ?_)⟩⟩
  ·refine ⟨_,rfl,_,rfl,rfl,.inr ⟨_,rfl,_,_,rfl,rfl,_,_,rfl,rfl,⟨?_,?_⟩,(by show 2<=sizeLine; decide),fun z hz => ?_⟩⟩
   ·split <;> decide
   ·split <;> exact (bt_lt 64 (c:=4) (by decide) (by decide)).mono (by decide)
   ·refine k z _ (Same.upd hz) hz ⟨_,0,upd_same,Int.ediv_nonneg ha ?_,.inl rfl⟩
    split <;> decide
  ·have bj:Bt 6 j:=bt_lt 6 (c:=64) h0 (by omega)
   have p1:Bt 70 (7919*j):=(bt_lt 64 (x:=7919) (c:=7920) (by decide) (by decide)).mul bj
   have e1:=emod_in n (show (0:Int) < 2147483647 by decide)
   have bs:Bt 1000000 (n % 2147483647+7919*j*j+1):=b6 ((((bt_lt 76 e1.1 e1.2).add (p1.mul bj)).add (bt_lt 77 (c:=2) (by decide) (by decide))))
   refine ⟨_,rfl,_,_,rfl,rfl,(by show (0:Int) < 2147483647; decide),_,rfl,_,_,rfl,rfl,⟨bl,b6 bj⟩,_,rfl,_,_,rfl,rfl,⟨b6 p1,b6 bj⟩,_,_,rfl,rfl,_,_,rfl,rfl,_,_,rfl,rfl,⟨bs,bl⟩,_,_,rfl,rfl,(by show (0:Int) < 2147483647; decide),?_⟩
   have e2:=emod_in ((n % 2147483647+7919*j*j+1)*48271) (show (0:Int) < 2147483647 by decide)
   refine ⟨_,rfl,_,_,rfl,rfl,⟨b6 (bt_lt 64 e2.1 e2.2),bl⟩,_,_,rfl,rfl,(by show (0:Int) < 2147483629; decide),_,_,rfl,rfl,(by show 2<=sizeLine; decide),fun z hz => ?_⟩
   have e3:=emod_in ((n % 2147483647+7919*j*j+1)*48271 % 2147483647*69621) (show (0:Int) < 2147483629 by decide)
   exact k z _ (Same.upd hz) hz ⟨_,1,upd_same,by omega,.inr ⟨rfl,by omega⟩⟩
theorem scNext:FnScope ["_law_left_here","_law_many","_law_digit","_law_turn"] ["_law_left_here","_law_many"] (defScope sNext):=⟨rfl,rfl,rfl,by decide +kernel,rfl,by decide +kernel,by decide +kernel⟩
theorem ok_next {f:Addr}{fd:FuncData}(F:Fun K "_law_next" "_law_next" sNext f fd)(T:Txt mg):FnOk P w K mg base CX0 1 f fd ["_law_left_here","_law_many"] spNext:=by
 refine F.ok scNext (fun vs H Q E h => ?_) (fun cdv A outer s H vs Q E hr h => ?_)
 ·obtain ⟨_,_,rfl,_⟩:=h
  rfl
 ·obtain ⟨a,m,rfl,⟨n,fl,ha,n0,hf⟩,m1,bm,k⟩:=h
  refine ⟨_,(pss_cons (ps_if (pt_cmpR op_eq (pe_ix ix_list (pv 0) pe_int (fun _ _=>rfl)) pe_int (nomark _))
    (pss_cons (ps_set (i:=2) scNext.nd rfl (Or.inl rfl) (pe_op op_mod (pe_ix ix_list (pv 0) pe_int (fun _ _=>rfl)) (pv 1)))
   (pss_cons (ps_asg (pe_op op_fdivB (pe_ix ix_list (pv 0) pe_int (fun _ _=>rfl)) (pv 1)) (pg_sub (pv 0) pe_int set_list))
   (pss_one (ps_ret (pv 2)))))
    pss_nil)
   (pss_cons (ps_set (i:=2) scNext.nd rfl (Or.inl rfl) pe_int)
   (pss_cons (ps_for PassesOwn.never rfl (pi_range1 rfl T.range (pa_cons (pe_ix ix_list (pe_lst (pa_cons pe_int (pa_cons pe_int pa_nil))) (pe_callTy call_int1 rfl T.int' bt_int (pa_cons (pe_cmpR op_gt (pv 1) (pe_op op_powB pe_int pe_int) (nomark _)) pa_nil)) (fun _ _=>rfl)) pa_nil)) (pg_name (i:=3) scNext.nd rfl (Or.inl rfl))
    (pss_cons (ps_asg (pe_op op_mod (pe_op op_mulB (pe_ix ix_list (pv 0) pe_int (fun _ _=>rfl)) pe_int) pe_int) (pg_sub (pv 0) pe_int set_list))
   (pss_one (ps_set (i:=2) scNext.nd rfl (Or.inl rfl) (pe_op op_add (pe_op op_mulB (pv 2) pe_int) (pe_op op_mod (pe_op op_mulB (pe_ix ix_list (pv 0) pe_int (fun _ _=>rfl)) pe_int) pe_int))))))
   (pss_one (ps_ret (pe_op op_mod (pv 2) (pv 1))))))),?_⟩
  refine ⟨_,rfl,a,_,1,.int fl,rfl,rfl,SqL.of ha,atI_nat (j:=1) rfl,rfl,_,rfl,ite2 (fun hc => ?_) (fun hc => ?_)⟩
  ·have hc':fl=0:=V.int.inj (of_decide_eq_true hc)
   refine ⟨_,rfl,a,_,0,.int n,rfl,rfl,SqL.of ha,atI_nat (j:=0) rfl,_,rfl,_,_,rfl,rfl,(by show 0 < m; omega),?_⟩
   refine ⟨_,rfl,a,_,0,.int n,rfl,rfl,SqL.of ha,atI_nat (j:=0) rfl,_,rfl,_,_,rfl,rfl,⟨by omega,bm⟩,_,rfl,a,_,0,0,rfl,rfl,ha,rfl,?_⟩
   have e:=emod_in n (show (0:Int) < m by omega)
   exact ⟨_,rfl,k _ _ e.1 e.2 SmB.upd ⟨_,fl,upd_same,Int.ediv_nonneg n0 (by omega),.inl hc'⟩⟩
  ·have hf':fl=1/\n < 2147483647:=hf.resolve_left fun z=>hc (decide_eq_true (by rw [z]))
   obtain ⟨rfl,nl⟩:=hf'
   refine ⟨(by show 2<=sizeLine; decide),fun z hz=>⟨_,rfl,_,_,rfl,rfl,⟨by decide,by decide,bk⟩,_,_,rfl,rfl,.inr ⟨_,rfl,z,_,_,_,rfl,rfl,SqL.of upd_same,pick18 _,_,rfl,(pick8 _).1,(pick8 _).2.1,?_⟩⟩⟩
   refine for_range (fun i σ H'=>∃ (d n':Int) (t:Option V),σ=[some (.ref a),some (.int m),some (.int d),t]/\0<=d/\Bt (32*i+1) d/\SmB a H H'/\H' a=some (.lst [.int n',.int 1])/\0<=n'/\n' < 2147483647)
    ⟨0,n,none,rfl,by decide,bt_lt 1 (c:=1) (by decide) (by decide),.of (Same.upd hz),(Same.upd hz) _ _ ha,n0,nl⟩ ?_ ?_
   ·rintro i σ H' hi ⟨d,n',t,rfl,d0,bd,sm,hA,a0,al⟩
    have hi8:=Nat.lt_of_lt_of_le hi (pick8 _).2.2
    have e1:=emod_in (n'*16807) (show (0:Int) < 2147483647 by decide)
    refine ⟨_,rfl,a,_,0,.int n',rfl,rfl,SqL.of hA,atI_nat (j:=0) rfl,_,_,rfl,rfl,⟨b6 (bt_lt 64 a0 al),bl⟩,_,_,rfl,rfl,(by show (0:Int) < 2147483647; decide),_,rfl,a,_,0,0,rfl,rfl,hA,rfl,?_⟩
    have e2:=emod_in (n'*16807 % 2147483647*40692) (show (0:Int) < 2147483629 by decide)
    refine ⟨_,rfl,_,_,rfl,rfl,⟨b6 (bd.mono (show 32*i+1<=300 by omega)),bl⟩,_,rfl,a,_,0,.int (n'*16807 % 2147483647),rfl,rfl,SqL.of upd_same,atI_nat (j:=0) rfl,_,_,rfl,rfl,⟨b6 (bt_lt 64 e1.1 e1.2),bl⟩,_,_,rfl,rfl,(by show (0:Int) < 2147483629; decide),_,_,rfl,rfl,?_⟩
    refine ⟨_,_,_,rfl,?_,?_,sm.trans SmB.upd,upd_same,e1.1,e1.2⟩
    ·have:=Int.mul_nonneg d0 (show (0:Int)<=2147483629 by decide)
     omega
    ·have b1:Bt (32*i+32) (d*2147483629):=(bd.mul (bt_lt 31 (x:=2147483629) (c:=2147483630) (by decide) (by decide))).mono (by omega)
     exact (b1.add ((bt_lt 31 e2.1 e2.2).mono (by omega))).mono (by omega)
   ·rintro σ H' ⟨d,n',t,rfl,d0,bd,sm,hA,a0,al⟩
    have e:=emod_in d (show (0:Int) < m by omega)
    exact ⟨_,rfl,_,rfl,_,_,rfl,rfl,(by show 0 < m; omega),k _ _ e.1 e.2 sm ⟨n',1,hA,a0,.inr ⟨rfl,al⟩⟩⟩
end
end K17
namespace L2
open PySem PySem.Spec PyProof.Rows PySem.W
section
variable {X:Cx}
theorem mt_find:MtR X "str.find" (fun z vs H Q=>∃ x y,z = .str x/\vs=[.str y]/\Q (.int (Txt.find x y)) H):=by
 intro pins s σ H z vs v us Q I rx rv h
 obtain ⟨x,y,rfl,rfl,q⟩:=h
 obtain ⟨t,rfl⟩:=rx
 obtain ⟨u,rfl,tu,rfl⟩:=rv.one
 refine call_gives PySem.F.slot_str_find (typeIs_str _ _ _) PySem.F.entry_str_find (PySem.F.args_str_find_2 _ _) (gives_str_find x y t tu) ?_
 exact ⟨.int _,H,I.tok _,⟨_,rfl⟩,q⟩
end
end L2
namespace TM
open PySem PySem.Spec PyProof.Rows PySem.W
theorem pigeon {α:Type}[BEq α][LawfulBEq α](f:Nat->α) : ∀ (j:Nat) (l:List α),(∀ i,i < j->f i ∈ l)->(∀ i k,i < j->k < j->f i=f k->i=k)->j<=l.length:=by
 intro j
 induction j with
 | zero =>
  intro l _ _
  exact Nat.zero_le _
 | succ j ih =>
  intro l hm hi
  have h1:=hm j (Nat.lt_succ_self _)
  have:=ih (l.erase (f j)) (fun i hij=>(List.mem_erase_of_ne (fun e=>by
   have:=hi i j (by omega) (by omega) e
   omega)).mpr (hm i (by omega))) (fun i k a b e=>hi i k (by omega) (by omega) e)
  rw [List.length_erase_of_mem h1] at this
  have:0 < l.length:=List.length_pos_of_mem h1
  omega
def rd (c j:Nat):Nat:=97+(c - 97+j) % 26
theorem rd_in (c j:Nat):97<=rd c j/\rd c j<=122:=by
 unfold rd
 omega
theorem rd_zero {c:Nat}(h:97<=c/\c<=122):rd c 0=c:=by
 unfold rd
 omega
theorem rd_next (c j:Nat):rd (rd c j) 1=rd c (j+1):=by
 unfold rd
 omega
theorem rd_inj {c i k:Nat}(hi:i < 26)(hk:k < 26)(e:rd c i=rd c k):i=k:=by
 unfold rd at e
 omega
abbrev LET:Str := "abcdefghijklmnopqrstuvwxyz"
theorem find_let {c:Nat}(h:97<=c/\c<=122):Txt.find LET ⟨#[c]⟩=((c - 97:Nat):Int):=by
 have all : ∀ k:Fin 26,Txt.find LET ⟨#[97+k.val]⟩=((k.val:Nat):Int):=by decide +kernel
 have:=all ⟨c - 97,by omega⟩
 simp only at this
 rw [show 97+(c - 97)=c by omega] at this
 exact this
theorem at_let {j:Nat}(h:j < 26):(cps LET)[j]?=some (97+j):=by
 have all : ∀ k:Fin 26,(cps LET)[k.val]?=some (97+k.val):=by decide +kernel
 exact all ⟨j,h⟩
end TM
namespace K17
open PySem PySem.Spec PyProof.Rows L2 GM TM
def T60:Int:=1000000000000000000000000000000000000000000000000000000000000
theorem Lf.keep {H H':Hp}{a:Addr}(h:Lf H a)(s:Same H H'):Lf H' a:=by
 obtain ⟨n,fl,e,r⟩:=h
 exact ⟨n,fl,s _ _ e,r⟩
theorem lenC (x:Str):x.length=(cps x).length:=by simp [Str.length,cps]
theorem lenA (x y:Str):(x ++ y).length=x.length+y.length:=by rw [lenC,cps_append',List.length_append,<- lenC,<- lenC]
theorem sz1000 {n:Nat}(h:n<=1000):n<=sizeLine:=Nat.le_trans h (by decide)
theorem slice_tail {x:Str}(h:1<=x.length):cps (Txt.slice x (some 1) none)=(cps x).drop 1:=by
 have e:Txt.slice x (some 1) none=StrLaws.sliceText x (some 1) none:=rfl
 rw [e,StrLaws.sliceText_from ⟨by decide,by rw [<- lenC]; omega⟩]
 simp [cps]
 exact List.take_of_length_le (by simp)
structure Wr (x:Str):Prop where
 l1:1<=x.length
 l8:x.length<=8
 lt : ∀ c ∈ cps x,97<=c/\c<=122
theorem in_strs {x:Str}{ws:List Str}:inV (.str x) (ws.map V.str)=true ↔ x ∈ ws:=by
 unfold inV
 rw [List.any_map,List.any_eq_true]
 constructor
 ·rintro ⟨y,hy,e⟩
  have:y=x:=by simpa [eqV] using e
  exact this ▸ hy
 ·intro h
  exact ⟨x,h,by simp [eqV]⟩
theorem flat_strs (ws:List Str):(ws.map V.str).all flatV=true:=by
 rw [List.all_map,List.all_eq_true]
 intro x _
 rfl
theorem wide_in (j:Nat)(h:j < 4) : ∃ m:Int,([V.int 26,V.int 2,V.int 26,V.int 3])[j]?=some (V.int m)/\1<=m/\m<=26:=by
 have:j=0\/j=1\/j=2\/j=3:=by omega
 rcases this with rfl | rfl | rfl | rfl
 ·exact ⟨26,rfl,by decide,by decide⟩
 ·exact ⟨2,rfl,by decide,by decide⟩
 ·exact ⟨26,rfl,by decide,by decide⟩
 ·exact ⟨3,rfl,by decide,by decide⟩
theorem SmB.own {a p:Addr}{H H':Hp}{o:HO}(h:SmB a H H')(n:H p=none):SmB a H (L2.upd H' p o):=fun b u nb e=>by
 have ne:b ≠ p:=fun z=>by rw [z,n] at e; cases e
 rw [upd_ne ne]
 exact h b u nb e
theorem Lf.there {H:Hp}{a b:Addr}(h:Lf H a)(n:H b=none):b ≠ a:=fun z=>by
 obtain ⟨_,_,e,_⟩:=h
 rw [<- z,n] at e
 cases e
theorem Lf.own {H:Hp}{a p:Addr}{o:HO}(h:Lf H a)(n:p ≠ a):Lf (upd H p o) a:=by
 obtain ⟨m,fl,e,r⟩:=h
 exact ⟨m,fl,by rw [upd_ne (Ne.symm n)]; exact e,r⟩
theorem nodup_snoc {ws:List Str}{x:Str}(h:ws.Nodup)(n:x ∉ ws):(ws ++ [x]).Nodup:=by
 rw [List.nodup_append]
 refine ⟨h,by simp,fun y hy z hz e => ?_⟩
 rw [List.mem_singleton.mp hz] at e
 exact n (e ▸ hy)
def spNames:Sp:=fun vs H Q _=>∃ (a:Addr) (m:Int),vs=[.ref a,.int m]/\Lf H a/\0<=m/\m<=26/\∀ (ws:List Str) p H',(ws.length:Int)=m->ws.Nodup->(∀ x ∈ ws,Wr x)->SmB a H H'->Lf H' a->H p=none->H' p=some (.lst (ws.map V.str))->Q (.ref p) H'
section
variable {P:Program}{w:World}{K:PySem.W.Frag}{mg:Str->Option Value}{base:Heap}
theorem scNames:FnScope ["_law_left_here","_law_many","_law_letters","_law_wide","_law_names_here","_law_k","_law_word","_law_j"] ["_law_left_here","_law_many"] (defScope sNames):=⟨rfl,rfl,rfl,by decide +kernel,rfl,by decide +kernel,by decide +kernel⟩
theorem ok_names {f:Addr}{fd:FuncData}(F:Fun K "_law_names" "_law_names" sNames f fd)(T:Txt mg)(cN:Cal P w K mg base CX0 1 "_law_next" ["_law_left_here","_law_many"] spNext):FnOk P w K mg base CX0 2 f fd ["_law_left_here","_law_many"] spNames:=by
 refine F.ok scNames (fun vs H Q E h => ?_) (fun cdv A outer s H vs Q E hr h => ?_)
 ·obtain ⟨_,_,rfl,_⟩:=h
  rfl
 ·obtain ⟨a,m,rfl,lf,m0,m20,k⟩:=h
  refine ⟨_,(pss_cons (ps_set (i:=2) scNames.nd rfl (Or.inl rfl) pe_str)
   (pss_cons (ps_set (i:=3) scNames.nd rfl (Or.inl rfl) (pe_ix ix_list (pe_lst (pa_cons pe_int (pa_cons pe_int (pa_cons pe_int (pa_cons pe_int pa_nil))))) (pe_cal cN hr rfl pass0 (pa_cons (pv 0) (pa_cons pe_int pa_nil))) (fun _ _=>rfl)))
   (pss_cons (ps_set (i:=4) scNames.nd rfl (Or.inl rfl) (pe_lst pa_nil))
   (pss_cons (ps_for PassesOwn.never rfl (pi_range1 rfl T.range (pa_cons (pv 1) pa_nil)) (pg_name (i:=5) scNames.nd rfl (Or.inl rfl))
    (pss_cons (ps_set (i:=6) scNames.nd rfl (Or.inl rfl) pe_str)
    (pss_cons (ps_for PassesOwn.never rfl (pi_range1 rfl T.range (pa_cons (pe_op op_add pe_int (pe_cal cN hr rfl pass0 (pa_cons (pv 0) (pa_cons pe_int pa_nil)))) pa_nil)) (pg_name (i:=7) scNames.nd rfl (Or.inl rfl))
     (pss_one (ps_set (i:=6) scNames.nd rfl (Or.inl rfl) (pe_op op_add_str (pv 6) (pe_ix ix_str (pv 2) (pe_cal cN hr rfl pass0 (pa_cons (pv 0) (pa_cons (pv 3) pa_nil))) (fun _ _=>rfl))))))
    (pss_cons (ps_while PassesOwn.never (pt_cmpR op_in_seq (pv 6) (pv 4) rfl)
     (pss_one (ps_set (i:=6) scNames.nd rfl (Or.inl rfl) (pe_op op_add_str (pe_ix ix_str (pv 2) (pe_op op_mod (pe_op op_add (pe_bm PySem.F.plainAttrs_str PySem.F.slot_str_find PySem.F.type_str_find mt_find (pv 2) (pa_cons (pe_ix ix_str (pv 6) pe_int (fun _ _=>rfl)) pa_nil)) pe_int) pe_int) (fun _ _=>rfl)) (pe_slice sl_str (pv 6) (po_some pe_int) po_none)))))
    (pss_one (ps_expr (pe_bm PySem.F.plainAttrs_list PySem.F.slot_list_append PySem.F.type_list_append mt_append (pv 4) (pa_cons (pv 6) pa_nil))))))))
   (pss_one (ps_ret (pv 4))))))),?_⟩
  have bs : ∀ {i:Int},0<=i->i < 100->Bt 9000 i:=fun h0 h=>bt_lt 9000 (c:=100) h0 h
  have zL:LET.length<=sizeLine:=by decide +kernel
  refine ⟨(by show 4<=sizeLine; decide),fun z hz=>⟨_,rfl,a,4,rfl,lf.keep (Same.upd hz),by decide,bs (by decide) (by decide),fun d H1 d0 dl s1 lf1 => ?_⟩⟩
  have za:z ≠ a:=lf.there hz
  obtain ⟨dn,rfl⟩:=Int.eq_ofNat_of_zero_le d0
  obtain ⟨wd,hw,w1,w26⟩:=wide_in dn (by omega)
  refine ⟨z,_,(dn:Int),.int wd,rfl,rfl,SqL.of (s1 z _ za upd_same),atI_nat hw,(by show 0<=sizeLine; decide),fun p hp => ?_⟩
  have pa:p ≠ a:=lf1.there hp
  have s01:SmB a H H1:=(SmB.of (Same.upd hz)).trans s1
  have pn:H p=none:=by
   cases e:H p with
   | none=>rfl
   | some o =>
    have:=s01 p o pa e
    rw [hp] at this
    cases this
  refine ⟨_,rfl,m,rfl,by omega,by omega,?_⟩
  refine for_range (fun i σ H'=>∃ (ws:List Str) (v5 v6 v7:Option V),σ=[some (.ref a),some (.int m),some (.str LET),some (.int wd),some (.ref p),v5,v6,v7]/\ws.length=i/\ws.Nodup/\(∀ x ∈ ws,Wr x)/\SmB a H H'/\Lf H' a/\H' p=some (.lst (ws.map V.str)))
   ⟨[],none,none,none,rfl,rfl,List.nodup_nil,(fun _ h=>nomatch h),s01.own pn,lf1.own pa,upd_same⟩ ?_ ?_
  ·rintro i σ H2 hi ⟨ws,v5,v6,v7,rfl,wl,nd,wr,s2,lf2,hp2⟩
   refine ⟨_,rfl,a,8,rfl,lf2,by decide,bs (by decide) (by decide),fun e H3 e0 el s3 lf3=>⟨_,_,rfl,rfl,1+e,rfl,by omega,by omega,?_⟩⟩
   refine for_range (fun j σ H'=>∃ (x:Str) (v7:Option V),σ=[some (.ref a),some (.int m),some (.str LET),some (.int wd),some (.ref p),some (.int (0+i)),some (.str x),v7]/\x.length=j/\(∀ c ∈ cps x,97<=c/\c<=122)/\SmB a H H'/\Lf H' a/\H' p=some (.lst (ws.map V.str)))
    ⟨"",v7,rfl,rfl,(fun _ h=>nomatch h),s2.trans s3,lf3,s3 _ _ pa hp2⟩ ?_ ?_
   ·rintro j σ H4 hj ⟨x,u7,rfl,xl,xc,s4,lf4,hp4⟩
    refine ⟨_,rfl,_,rfl,_,rfl,_,rfl,a,wd,rfl,lf4,w1,bs (by omega) (by omega),fun g H5 g0 gl s5 lf5 => ?_⟩
    obtain ⟨gn,rfl⟩:=Int.eq_ofNat_of_zero_le g0
    have lx:x.length<=8:=by omega
    refine ⟨LET,(gn:Int),97+gn,rfl,rfl,zL,atI_nat (at_let (by omega)),_,_,rfl,rfl,sz1000 (by show x.length+1<=1000; omega),?_⟩
    refine ⟨_,_,rfl,?_,fun c hc => ?_,s4.trans s5,lf5,s5 _ _ pa hp4⟩
    ·rw [lenA,xl]
     rfl
    ·rw [cps_append'] at hc
     rcases List.mem_append.mp hc with h | h
     ·exact xc c h
     ·have:c=97+gn:=by simpa [cps] using h
      omega
   ·rintro σ H4 ⟨x,u7,rfl,xl,xc,s4,lf4,hp4⟩
    have wx:Wr x:=⟨by omega,by omega,xc⟩
    obtain ⟨c0,r,ec⟩ : ∃ c0 r,cps x=c0 :: r:=List.exists_cons_of_ne_nil fun z=>by
     have:=wx.l1
     rw [lenC,z] at this
     cases this
    have hc0:=xc c0 (by rw [ec]; exact List.mem_cons_self ..)
    refine ⟨fun mm σ H'=>∃ (y:Str) (jj:Nat),σ=[some (.ref a),some (.int m),some (.str LET),some (.int wd),some (.ref p),some (.int (0+i)),some (.str y),u7]/\H'=H4/\Wr y/\mm=26 - jj/\jj < 26/\cps y=rd c0 jj :: r/\∀ q,q < jj->∃ u ∈ ws,cps u=rd c0 q :: r,
     ⟨26,x,0,rfl,rfl,wx,rfl,by decide,by rw [rd_zero hc0]; exact ec,fun q h=>absurd h (by omega)⟩,?_⟩
    rintro mm σ H5 ⟨y,jj,rfl,rfl,wy,rfl,j26,ey,hq⟩
    have zy:y.length<=sizeLine:=sz1000 (by have:=wy.l8; omega)
    refine ⟨_,rfl,_,rfl,p,_,rfl,.inl (SqL.of hp4),rfl,flat_strs ws,_,rfl,ite2 (fun hin => ?_) (fun hno => ?_)⟩
    ·have hin':y ∈ ws:=in_strs.mp hin
     have pg:jj+1<=(ws.map cps).length:=by
      refine pigeon (fun q=>rd c0 q :: r) (jj+1) (ws.map cps) (fun q hq' => ?_) (fun q1 q2 h1 h2 e => ?_)
      ·by_cases z:q=jj
       ·exact List.mem_map.mpr ⟨y,hin',by rw [ey,z]⟩
       ·obtain ⟨u,hu,eu⟩:=hq q (by omega)
        exact List.mem_map.mpr ⟨u,hu,eu⟩
      ·injection e with e1 _
       exact rd_inj (by omega) (by omega) e1
     rw [List.length_map] at pg
     have hr1:=rd_in c0 jj
     have fd:Txt.find LET ⟨#[rd c0 jj]⟩=((rd c0 jj - 97:Nat):Int):=find_let hr1
     refine ⟨_,fun σ' H' h=>h,?_⟩
     refine ⟨_,rfl,_,rfl,rfl,_,rfl,y,0,rd c0 jj,rfl,rfl,zy,(by show atI (cps y) 0=some _; rw [ey]; exact atI_nat (j:=0) rfl),LET,⟨#[rd c0 jj]⟩,rfl,rfl,_,_,rfl,rfl,_,_,rfl,rfl,(by show (0:Int) < 26; decide),LET,_,rd (rd c0 jj) 1,rfl,rfl,zL,?_,?_⟩
     ·rw [fd,show (((rd c0 jj - 97:Nat):Int)+1) % 26=(((rd c0 jj - 97+1) % 26:Nat):Int) by omega]
      exact atI_nat (at_let (Nat.mod_lt _ (by decide)))
     ·have ls:=PyProof.Txt.length_slice_le y (some 1) none
      have l8:=wy.l8
      have ct:cps (Txt.slice y (some 1) none)=r:=by rw [slice_tail wy.l1,ey]; rfl
      have cn:cps ((⟨#[rd (rd c0 jj) 1]⟩:Str) ++ Txt.slice y (some 1) none)=rd c0 (jj+1) :: r:=by
       rw [cps_append',ct,rd_next]
       rfl
      refine ⟨_,rfl,_,rfl,y,rfl,zy,_,_,rfl,rfl,sz1000 (by show 1+_<=1000; omega),26 - (jj+1),by omega,_,jj+1,rfl,rfl,⟨?_,?_,fun c hc => ?_⟩,rfl,by omega,cn,fun q hq' => ?_⟩
      ·rw [lenC,cn]
       exact Nat.succ_le_succ (Nat.zero_le _)
      ·rw [lenC,cn]
       have:y.length=(cps y).length:=lenC y
       rw [ey] at this
       simp at this ⊢
       omega
      ·rw [cn] at hc
       rcases List.mem_cons.mp hc with h | h
       ·rw [h]
        exact rd_in _ _
       ·exact xc c (by rw [ec]; exact List.mem_cons_of_mem _ h)
      ·by_cases z:q=jj
       ·exact ⟨y,hin',by rw [ey,z]⟩
       ·exact hq q (by omega)
    ·have hno':y ∉ ws:=fun z=>hno (in_strs.mpr z)
     refine ⟨_,rfl,.inl ⟨rfl,_,SqL.of hp4⟩,_,rfl,p,_,_,rfl,rfl,hp4,small1000 (by rw [List.length_map]; omega),?_⟩
     refine ⟨ws ++ [y],_,_,_,rfl,by rw [List.length_append,wl]; rfl,nodup_snoc nd hno',fun x hx => ?_,s4.own pn,lf4.own pa,by rw [List.map_append]; exact upd_same⟩
     rcases List.mem_append.mp hx with h | h
     ·exact wr x h
     ·rw [List.mem_singleton.mp h]
      exact wy
  ·rintro σ H2 ⟨ws,v5,v6,v7,rfl,wl,nd,wr,s2,lf2,hp2⟩
   exact ⟨_,rfl,k ws p H2 (by omega) nd wr s2 lf2 pn hp2⟩
end
end K17
namespace GM
structure Fr (M t b N:Int):Prop where
 am:Amt t b
 e:t*M=N*b
theorem Fr.zero {M:Int}:Fr M 0 1 0:=⟨amt_one (by decide),by simp⟩
theorem Fr.uniq {M t b N t' b':Int}(hM:0 < M)(h:Fr M t b N)(h':Fr M t' b' N):t=t'/\b=b':=by
 have c:t'*b=t*b':=by
  refine Int.eq_of_mul_eq_mul_right (show M ≠ 0 by omega) ?_
  calc t'*b*M=(t'*M)*b:=by rw [Int.mul_right_comm]
   _=(N*b')*b:=by rw [h'.e]
   _=(N*b)*b':=by rw [Int.mul_right_comm]
   _=t*M*b':=by rw [h.e]
   _=t*b'*M:=by rw [Int.mul_right_comm]
 obtain ⟨e1,e2⟩:=low_unique h.am.t0 h.am.b1 h'.am c
 rw [h.am.g,Int.ediv_one] at e1 e2
 exact ⟨e1,e2⟩
end GM
namespace BQ
open GM L2
abbrev Q:=Int × Int
def lw (T B:Int):Q:=(T / G T B,B / G T B)
def add (a b:Q):Q:=lw (a.1*b.2+b.1*a.2) (a.2*b.2)
def Am (a:Q):Prop:=Amt a.1 a.2
theorem mul1 {a b:Int}(ha:1<=a)(hb:1<=b):1<=a*b:=by
 have:=Int.mul_le_mul ha hb (by decide) (by omega)
 omega
theorem lw_am {T B:Int}(h0:0<=T)(h1:1<=B):Am (lw T B):=low_amt h0 h1
theorem lw_cross (T B:Int):(lw T B).1*B=T*(lw T B).2:=low_cross T B
theorem lw_eq {T B:Int}{a:Q}(h0:0<=T)(h1:1<=B)(h:Am a)(e:a.1*B=T*a.2):lw T B=a:=by
 obtain ⟨e1,e2⟩:=low_unique h0 h1 h e
 exact Prod.ext e1 e2
theorem lw_uniq {T B T' B':Int}(h0:0<=T)(h1:1<=B)(h0':0<=T')(h1':1<=B')(e:T*B'=T'*B):lw T B=lw T' B':=by
 refine lw_eq h0 h1 (lw_am h0' h1') ?_
 have c:=lw_cross T' B'
 generalize lw T' B'=a at c ⊢
 refine Int.eq_of_mul_eq_mul_right (show B' ≠ 0 by omega) ?_
 grind
theorem lw_pos {T B:Int}(h0:1<=T)(h1:1<=B):1<=(lw T B).1:=by
 have am:=lw_am (show 0<=T by omega) h1
 have c:=lw_cross T B
 have t0:=am.t0
 have b1:=am.b1
 by_cases z:(lw T B).1=0
 ·rw [z,Int.zero_mul] at c
  have:=mul1 h0 b1
  omega
 ·omega
theorem lw_le {T B:Int}(h0:0<=T)(h1:1<=B):(lw T B).1<=T/\(lw T B).2<=B:=⟨Int.ediv_le_self _ h0,Int.ediv_le_self _ (by omega)⟩
theorem lw_bt {T B:Int}{n:Nat}(h0:0<=T)(h1:1<=B)(hT:Bt n T)(hB:Bt n B):Bt n (lw T B).1/\Bt n (lw T B).2:=⟨hT.le (lw_am h0 h1).t0 (lw_le h0 h1).1,hB.le (by have:=(lw_am h0 h1).b1; omega) (lw_le h0 h1).2⟩
theorem Am.mul {a b:Q}(h:Am a)(k:Am b):1<=a.2*b.2:=mul1 h.b1 k.b1
theorem Am.num {a b:Q}(h:Am a)(k:Am b):0<=a.1*b.2+b.1*a.2:=by
 have:=Int.mul_nonneg h.t0 (show 0<=b.2 by have:=k.b1; omega)
 have:=Int.mul_nonneg k.t0 (show 0<=a.2 by have:=h.b1; omega)
 omega
theorem add_am {a b:Q}(h:Am a)(k:Am b):Am (add a b):=lw_am (h.num k) (h.mul k)
theorem am0:Am (0,1):=amt_one (by decide)
def Fq (M:Int)(a:Q)(N:Int):Prop:=Fr M a.1 a.2 N
def fo (l:Q)(ss:List Q):Q:=ss.foldl add l
def nsum (M:Int)(ss:List Q):Int:=(ss.map fun s=>s.1*(M / s.2)).sum
theorem fo_am : ∀ {ss:List Q} {l:Q},(∀ s ∈ ss,Am s)->Am l->Am (fo l ss)
 | [],_,_,h=>h
 | s :: r,l,hs,h=>fo_am (ss:=r) (fun x hx=>hs x (List.mem_cons_of_mem _ hx)) (add_am h (hs s (List.mem_cons_self ..)))
def prod (ss:List Q):Int:=(ss.map (·.2)).foldr (· * ·) 1
theorem fo_append (l:Q)(a b:List Q):fo l (a ++ b)=fo (fo l a) b:=List.foldl_append ..
open PySem (Str)
inductive Rw where
 | take (a:Q) (x:Str)
 | parts (a:Q) (ps:List (Int × Str))
 | to (n:Int) (x:Str)
 | fill (a:Q) (x:Str)
abbrev Pu:=Int × Str × Q
def ptot (ps:List (Int × Str)):Int:=(ps.map (·.1)).sum
def lacks (a l:Q):Q:=lw (a.1*l.2 - l.1*a.2) (a.2*l.2)
def rowP (i:Int)(l:Q):Rw->List Pu
 | .take a x=>[(i,x,a)]
 | .parts a ps=>ps.map fun p=>(i,p.2,lw (a.1*p.1) (a.2*ptot ps))
 | .to n x=>[(i,x,lw (l.1*n) l.2)]
 | .fill a x=>if 0 < (lacks a l).1 then [(i,x,lacks a l)] else []
def amts (ps:List Pu):List Q:=ps.map (·.2.2)
structure Sm (a:Q):Prop where
 am:Am a
 t1:1<=a.1
 bt:Bt 31 a.1
 bb:Bt 31 a.2
def ROk (l:Q):Rw->Prop
 | .take a _=>Sm a
 | .parts a ps=>Sm a/\1<=ps.length/\ps.length<=4/\∀ p ∈ ps,1<=p.1/\p.1<=9
 | .to n _=>1<=n/\n<=9/\1<=l.1
 | .fill a _=>Sm a/\l.1*a.2<=a.1*l.2
inductive Rs:List Rw->List Pu->Q->Prop
 | nil:Rs [] [] (0,1)
 | snoc {rs ps l r}:Rs rs ps l->ROk l r->Rs (rs ++ [r]) (ps ++ rowP rs.length l r) (fo l (amts (rowP rs.length l r)))
theorem ptot_ge : ∀ {ps:List (Int × Str)} {p:Int × Str},(∀ p ∈ ps,1<=p.1)->p ∈ ps->p.1<=ptot ps
 | q :: r,p,h,hp=>by
  have nn:0<=ptot r:=by
   clear hp
   have h' : ∀ p ∈ r,1<=p.1:=fun p hp=>h p (List.mem_cons_of_mem _ hp)
   clear h
   induction r with
   | nil=>exact Int.le_refl _
   | cons a b ih =>
    have:=ih fun p hp=>h' p (List.mem_cons_of_mem _ hp)
    have:=h' a (List.mem_cons_self ..)
    show 0<=((a :: b).map (·.1)).sum
    rw [List.map_cons,List.sum_cons]
    show 0<=a.1+ptot b
    omega
  have e:ptot (q :: r)=q.1+ptot r:=by unfold ptot; rw [List.map_cons,List.sum_cons]
  rw [e]
  rcases List.mem_cons.mp hp with h' | h'
  ·rw [h']; omega
  ·have:=ptot_ge (ps:=r) (fun p hp=>h p (List.mem_cons_of_mem _ hp)) h'
   have:=h q (List.mem_cons_self ..)
   omega
structure RI (n:Nat)(ps:List Pu)(l:Q)(M N V:Int):Prop where
 fq:Fq M l N
 M0:0 < M
 bM:Bt (40*n+1) M
 V1:1<=V
 bV:Bt (38*n+1) V
 NV:N<=V*M
 dv : ∀ p ∈ ps,Am p.2.2/\1<=p.2.2.1/\p.2.2.2 ∣ M/\p.2.2.1<=V*p.2.2.2
 lf:l=fo (0,1) (amts ps)
 ln:ps.length<=4*n
 ps':1<=n->1<=l.1
theorem bt_of (n:Nat){x c:Int}(h0:0<=x)(h:x < c)(hc:c<=((2 ^ n:Nat):Int):=by decide +kernel):Bt n x:=by
 show x.natAbs < 2 ^ n
 omega
end BQ
namespace BQ
open GM L2
open PySem (Str)
theorem add_pos {a b:Q}(h:Am a)(k:Am b)(p:1<=a.1\/1<=b.1):1<=(add a b).1:=by
 refine lw_pos ?_ (h.mul k)
 have n1:=Int.mul_nonneg h.t0 (show 0<=b.2 by have:=k.b1; omega)
 have n2:=Int.mul_nonneg k.t0 (show 0<=a.2 by have:=h.b1; omega)
 rcases p with p | p
 ·have:=mul1 p k.b1; omega
 ·have:=mul1 p h.b1; omega
theorem lacks_am {a l:Q}(ha:Am a)(hl:Am l)(le:l.1*a.2<=a.1*l.2):Am (lacks a l):=lw_am (by omega) (ha.mul hl)
end BQ
namespace BQ
open PySem PySem.Spec PyProof.Rows L2 GM
structure L2R {α:Type}(R:V->α->Prop)(us:List V)(ps:List α):Prop where
 len:us.length=ps.length
 at' : ∀ (i:Nat) u p,us[i]?=some u->ps[i]?=some p->R u p
theorem L2R.nil {α:Type}{R:V->α->Prop}:L2R R [] []:=⟨rfl,fun i u p h=>by simp at h⟩
theorem L2R.imp {α:Type}{R S:V->α->Prop}{us:List V}{ps:List α}(h:L2R R us ps)(f : ∀ u p,R u p->S u p):L2R S us ps:=⟨h.len,fun i u p a b=>f u p (h.at' i u p a b)⟩
theorem L2R.get {α:Type}{R:V->α->Prop}{us:List V}{ps:List α}(h:L2R R us ps){i:Nat}{u:V}(e:us[i]?=some u) : ∃ p,ps[i]?=some p/\R u p:=by
 have hi:i < ps.length:=by rw [<- h.len]; exact (List.getElem?_eq_some_iff.mp e).1
 exact ⟨ps[i],List.getElem?_eq_getElem hi,h.at' i u _ e (List.getElem?_eq_getElem hi)⟩
theorem L2R.snoc {α:Type}{R:V->α->Prop}{us:List V}{ps:List α}{u:V}{p:α}(h:L2R R us ps)(r:R u p):L2R R (us ++ [u]) (ps ++ [p]):=by
 refine ⟨by rw [List.length_append,List.length_append,h.len]; rfl,fun i v q hv hq => ?_⟩
 rcases snoc_get hv with ⟨_,a⟩ | ⟨e,rfl⟩
 ·rcases snoc_get hq with ⟨_,b⟩ | ⟨e,_⟩
  ·exact h.at' i v q a b
  ·have:=(List.getElem?_eq_some_iff.mp a).1
   have:=h.len
   omega
 ·rcases snoc_get hq with ⟨l,_⟩ | ⟨_,rfl⟩
  ·have:=h.len
   omega
  ·exact r
theorem L2R.of {α:Type}{R:V->α->Prop}{us:List V}{ps:List α}(len:us.length=ps.length)(h : ∀ (i:Nat) p u,ps[i]?=some p->us[i]?=some u->R u p):L2R R us ps:=⟨len,fun i u p a b=>h i p u b a⟩
theorem L2R.one {α:Type}{R:V->α->Prop}{u:V}{p:α}(r:R u p):L2R R [u] [p]:=by
 have:=(L2R.nil (R:=R)).snoc r
 exact this
abbrev AmV (H:Hp)(m:Addr)(a:Q):Prop:=H m=some (.tup [.int a.1,.int a.2])
def PrV (H:Hp)(v:V)(p:Int × Str):Prop:=∃ z,v = .ref z/\H z=some (.tup [.int p.1,.str p.2])
def PaV (H:Hp)(v:V)(p:Str × Q):Prop:=∃ z m,v = .ref z/\H z=some (.tup [.str p.1,.ref m])/\AmV H m p.2
def PuV (H:Hp)(v:V)(p:Pu):Prop:=∃ z m,v = .ref z/\H z=some (.tup [.int p.1,.str p.2.1,.ref m])/\AmV H m p.2.2
theorem PrV.keep {H H':Hp}{v:V}{p:Int × Str}(k:Tk H H')(h:PrV H v p):PrV H' v p:=by
 obtain ⟨z,e,a⟩:=h
 exact ⟨z,e,k _ _ a⟩
theorem PaV.keep {H H':Hp}{v:V}{p:Str × Q}(k:Tk H H')(h:PaV H v p):PaV H' v p:=by
 obtain ⟨z,m,e,a,b⟩:=h
 exact ⟨z,m,e,k _ _ a,k _ _ b⟩
inductive RowV (H:Hp):V->Rw->Prop
 | take {p m a x}:H p=some (.tup [.str "take",.ref m,.str x])->AmV H m a->RowV H (.ref p) (.take a x)
 | parts {p m q a us ps}:H p=some (.tup [.str "parts",.ref m,.ref q])->AmV H m a->H q=some (.tup us)->L2R (PrV H) us ps->RowV H (.ref p) (.parts a ps)
 | to {p n x}:H p=some (.tup [.str "to",.int n,.str x])->RowV H (.ref p) (.to n x)
 | fill {p m a x}:H p=some (.tup [.str "fill",.ref m,.str x])->AmV H m a->RowV H (.ref p) (.fill a x)
theorem RowV.keep {H H':Hp}{v:V}{r:Rw}(k:Tk H H')(h:RowV H v r):RowV H' v r:=by
 cases h with
 | take a b=>exact .take (k _ _ a) (k _ _ b)
 | parts a b c d=>exact .parts (k _ _ a) (k _ _ b) (k _ _ c) (d.imp fun _ _ x=>x.keep k)
 | to a=>exact .to (k _ _ a)
 | fill a b=>exact .fill (k _ _ a) (k _ _ b)
def rowQ (l:Q)(r:Rw):List (Str × Q):=(rowP 0 l r).map (·.2)
structure Sz (a:Q):Prop where
 am:Am a
 bt:Bt 4000 a.1
 bb:Bt 4000 a.2
end BQ
namespace BQ
open GM L2
open PySem (Str)
structure SmR (a:Q):Prop where
 am:Am a
 t1:1<=a.1
 tm:a.1<=999999999
 bm:a.2<=999999999
theorem SmR.bt {a:Q}(h:SmR a):Bt 30 a.1/\Bt 30 a.2:=⟨bt_of 30 (c:=1000000000) h.am.t0 (by have:=h.tm; omega),bt_of 30 (c:=1000000000) (by have:=h.am.b1; omega) (by have:=h.bm; omega)⟩
def ROL (l:Q):Rw->Prop
 | .take a _=>SmR a
 | .parts a ps=>SmR a/\1<=ps.length/\ps.length<=4/\∀ p ∈ ps,1<=p.1/\p.1<=1000
 | .to n _=>1<=n/\n<=1000/\1<=l.1
 | .fill a _=>SmR a/\l.1*a.2<=a.1*l.2
def bhd (l:Q):Rw->Q
 | .take a _=>add l a
 | .parts a _=>add l a
 | .to n _=>lw (l.1*(n+1)) l.2
 | .fill a _=>a
inductive RsL:List Rw->Q->Prop
 | nil:RsL [] (0,1)
 | snoc {rs l r}:RsL rs l->ROL l r->RsL (rs ++ [r]) (bhd l r)
theorem add_bt {a b:Q}{n:Nat}(h:Am a)(k:Am b)(h1:Bt n a.1)(h2:Bt n a.2)(k1:Bt 30 b.1)(k2:Bt 30 b.2):Bt (n+40) (add a b).1/\Bt (n+40) (add a b).2:=by
 have e1:Bt (n+30) (a.1*b.2):=h1.mul k2
 have e2:Bt (n+30) (b.1*a.2):=by have:=k1.mul h2; rwa [Nat.add_comm] at this
 exact lw_bt (h.num k) (h.mul k) ((e1.add e2).mono (by omega)) ((h2.mul k2).mono (by omega))
theorem bhd_ok {l:Q}{r:Rw}{n:Nat}(h:Am l)(h1:Bt n l.1)(h2:Bt n l.2)(ok:ROL l r):Am (bhd l r)/\Bt (n+40) (bhd l r).1/\Bt (n+40) (bhd l r).2/\1<=(bhd l r).1:=by
 cases r with
 | take a x =>
  have ok':SmR a:=ok
  have b:=add_bt h ok'.am h1 h2 ok'.bt.1 ok'.bt.2
  exact ⟨add_am h ok'.am,b.1,b.2,add_pos h ok'.am (.inr ok'.t1)⟩
 | parts a ps =>
  have ok':SmR a:=ok.1
  have b:=add_bt h ok'.am h1 h2 ok'.bt.1 ok'.bt.2
  exact ⟨add_am h ok'.am,b.1,b.2,add_pos h ok'.am (.inr ok'.t1)⟩
 | to m x =>
  obtain ⟨m1,m2,l1⟩:=ok
  have b:Bt 10 (m+1):=bt_of 10 (c:=1002) (by omega) (by omega)
  have p1:1<=l.1*(m+1):=mul1 l1 (by omega)
  have:=lw_bt (T:=l.1*(m+1)) (B:=l.2) (n:=n+40) (by omega) h.b1 ((h1.mul b).mono (by omega)) (h2.mono (by omega))
  exact ⟨lw_am (by omega) h.b1,this.1,this.2,lw_pos p1 h.b1⟩
 | fill a x =>
  have ok':SmR a:=ok.1
  exact ⟨ok'.am,ok'.bt.1.mono (by omega),ok'.bt.2.mono (by omega),ok'.t1⟩
theorem RsL.ok {rs:List Rw}{l:Q}(h:RsL rs l):Am l/\Bt (40*rs.length+40) l.1/\Bt (40*rs.length+40) l.2/\(rs=[]->l=(0,1)):=by
 induction h with
 | nil=>exact ⟨am0,(bt_of 2 (c:=2) (by decide) (by decide):Bt 2 (0:Int)).mono (by decide),(bt_of 2 (c:=2) (by decide) (by decide):Bt 2 (1:Int)).mono (by decide),fun _=>rfl⟩
 | @snoc rs l r _ ok ih =>
  obtain ⟨a,b,c,_⟩:=ih
  obtain ⟨a',b',c',_⟩:=bhd_ok a b c ok
  refine ⟨a',?_,?_,fun z=>by simp at z⟩
  ·rw [List.length_append]; exact b'.mono (by simp; omega)
  ·rw [List.length_append]; exact c'.mono (by simp; omega)
theorem RsL.rows {rs:List Rw}{l:Q}(h:RsL rs l) : ∀ r ∈ rs,∃ l',ROL l' r:=by
 induction h with
 | nil=>exact fun r h=>nomatch h
 | snoc _ ok ih =>
  intro r hr
  rcases List.mem_append.mp hr with h | h
  ·exact ih r h
  ·rw [List.mem_singleton.mp h]; exact ⟨_,ok⟩
def thg:Rw->List Str
 | .take _ x=>[x]
 | .parts _ ps=>ps.map (·.2)
 | .to _ x=>[x]
 | .fill _ x=>[x]
theorem add_ge {l o:Q}(hl:Am l)(ho:Am o):l.1*(add l o).2<=(add l o).1*l.2:=by
 have am:=add_am hl ho
 have cr:(add l o).1*(l.2*o.2)=(l.1*o.2+o.1*l.2)*(add l o).2:=lw_cross _ _
 have b1:=hl.b1
 have b2:=ho.b1
 have b3:=am.b1
 have o0:=ho.t0
 generalize add l o=z at *
 refine Int.le_of_mul_le_mul_right (a:=l.2*o.2) ?_ (by have:=BQ.mul1 b1 b2; omega)
 have e:z.1*l.2*(l.2*o.2)=z.1*(l.2*o.2)*l.2:=by grind
 rw [e,cr]
 have n:0<=o.1*l.2*z.2*l.2:=Int.mul_nonneg (Int.mul_nonneg (Int.mul_nonneg o0 (by omega)) (by omega)) (by omega)
 have e2:(l.1*o.2+o.1*l.2)*z.2*l.2=l.1*z.2*(l.2*o.2)+o.1*l.2*z.2*l.2:=by grind
 omega
theorem lw_smr {T B:Int}(h0:1<=T)(h1:1<=B)(hT:T<=999999999)(hB:B<=999999999):SmR (lw T B):=by
 have l:=lw_le (T:=T) (B:=B) (by omega) h1
 exact ⟨lw_am (by omega) h1,lw_pos h0 h1,by have:=l.1; omega,by have:=l.2; omega⟩
end BQ
namespace L2
open PySem PySem.Spec PyProof.Rows
variable {X:Cx}
theorem Vals.of_get : ∀ {xs:List V} {us:List Value},xs.length=us.length->(∀ (i:Nat) (x:V) (u:Value),xs[i]?=some x->us[i]?=some u->RelV x u)->Vals xs us
 | [],[],_,_=>.nil
 | x :: xs,u :: us,hl,h=>.cons (h 0 x u rfl rfl) (Vals.of_get (by simpa using hl) fun i y v hy hv=>h (i+1) y v (by simpa using hy) (by simpa using hv))
 | [],_ :: _,hl,_=>by simp at hl
 | _ :: _,[],hl,_=>by simp at hl
def tRev (K:PySem.W.Frag)(te:TE)(tk:TO):TE:=fun σ H Q=>te σ H fun x H1=>tk σ H1 fun st H2=>st=some (-1)/\∃ a xs,x = .ref a/\SqL K H2 a xs/\∀ p,H2 p=none->Q (.ref p) (upd H2 p (.lst xs.reverse))
def tListRng (ta:TA):TE:=fun σ H Q=>ta σ H fun vs H1=>∃ i j:Int,vs=[.int i,.int j]/\(-(2 ^ 62)<=i/\i < 2 ^ 62 /\ -(2 ^ 62)<=j/\j < 2 ^ 62)/\(j - i).toNat<=1000/\∀ p,H1 p=none->Q (.ref p) (upd H1 p (.lst (rngV i (j - i).toNat)))
theorem rng_vals {a:Int}{n:Nat}{acc:Array Value}(h:ItemsOf (fun i v=>∃ t,v = .int (a+i*1) t) acc n):Vals (rngV a n) acc.toList:=by
 refine Vals.of_get (by rw [rngV_len,Array.length_toList,h.1]) fun i x u hx hu => ?_
 obtain ⟨_,rfl⟩:=rngV_get hx
 obtain ⟨t,rfl⟩:=h.2 i u (by rw [<- Array.getElem?_toList]; exact hu)
 exact ⟨t,by rw [Int.mul_one]⟩
theorem pe_listRng {e1 e2:Expr}{ta:TA}{p p' pos pos':Pos}(hc:X.calm=true)(hg:Gl X "list")(hm:X.mg "list" = none)(hg':Gl X "range")(hm':X.mg "range" = none)(ha:PA X [e1,e2] ta)
  (hs:starEach [e1,e2] X.env=[(false,eval e1 X.env),(false,eval e2 X.env)]:=by rfl) (hs2:starEach [e2] X.env=[(false,eval e2 X.env)]:=by rfl)
  (hs3:starEach [Expr.Call (.Name "range" p') [e1,e2] [] pos'] X.env=[(false,eval (.Call (.Name "range" p') [e1,e2] [] pos') X.env)]:=by rfl) :
  PE X (.Call (.Name "list" p) [.Call (.Name "range" p') [e1,e2] [] pos'] [] pos) (tListRng ta):=by
 intro pins s σ H Q I h
 refine wpAny_Call_Name_kw (ld_blt I hg hm bt_list (PyProof.Rows.callWith_type1 ?_ hs3 rfl))
 rw [hs3]
 show wpAny _ _ (spliced ((false,eval (.Call (.Name "range" p') [e1,e2] [] pos') X.env) :: backTo pos [])) _ _ s
 refine Calls.spliced_cons ?_
 refine Call_ (ld_blt I hg' hm' boot_range (PyProof.Rows.callWith_type1 (thn (ha pos' pins s σ H _ I h) fun us s1 ⟨vs,H1,I1,r1,q1⟩ => ?_) (by rw [hs,hs2]) (by rw [hs2]; rfl)))
 obtain ⟨i,j,e,⟨q1,q2,q3,q4⟩,hn,q⟩:=q1
 subst e
 cases r1 with
 | cons r rr =>
  cases rr with
  | cons r' rr =>
   cases rr
   obtain ⟨t,rfl⟩:=r
   obtain ⟨t',rfl⟩:=r'
   refine call_range_2 (Calls.spliced_nil ?_)
   have I2:Inv X pins σ H1 { s1 with heap:=s1.heap.push { cls:=.type "range",data:=.fields #[.int i t,.int j t',.int 1 s1.toks] },toks:=s1.toks+1 }:=I1.kept fun b o e=>Heap.get?_push_of_some _ e
   refine call_list_range (n:=(j - i).toNat) (I2.ok.hd hc) (IsRange.new ..) (small_one q1 q2 q3 q4) (by rw [rangeSize_one]; split <;> omega) (by omega) fun h' tk acc' c' hk hS' hacc => ?_
   refine ⟨.ref _,_,I2.laid (o:=.lst (rngV i (j - i).toNat)) hk (Nat.le_refl _) ?_,rfl,q _ (I2.hok.fresh (Nat.le_refl _))⟩
   exact ⟨by rw [rngV_len]; exact sz1000 hn,acc'.toList,c',rng_vals hacc,hS'⟩
def tListVals (td:TE):TE:=fun σ H Q=>td σ H fun x H1=>∃ a kvs,x = .ref a/\H1 a=some (.dK kvs)/\∀ p,H1 p=none->Q (.ref p) (upd H1 p (.lst (kvs.map (·.2))))
end L2
namespace L2
open PySem PySem.Spec PyProof.Rows
def Itz2 (K:PySem.W.Frag)(a b:Addr):It :=
  ⟨fun i H=>∃ xs ys,SqT K H a xs/\SqT K H b ys/\i < xs.length/\i < ys.length,
   fun i H v H'=>∃ T,H T=none/\v = .ref T/\∀ xs ys,SqT K H a xs->SqT K H b ys->∃ x y,xs[i]?=some x/\ys[i]?=some y/\H'=upd H T (.tup [x,y]),
   fun i H=>∃ xs ys,SqT K H a xs/\SqT K H b ys/\(i=xs.length\/(i < xs.length/\i=ys.length))⟩
def ZipSt2 (n a b:Nat)(i:Nat)(h:Heap):Prop:=IsZip h (n+4) (n+2) (n+3) .none/\IsPair h (n+2) (.ref n) (.ref (n+1))/\(∃ x y,IsPair h (n+3) x y)/\h.IsTupleIter n a i/\h.IsTupleIter (n+1) b i
theorem turn_zip2 {P:Program}{w:World}{K:PySem.W.Frag}{es:List Expr}{k1:Nat}{p1:Pos}{n a b:Nat}(ha:a < n)(hb:b < n) :
  Turn P w K (.Tuple es k1 p1) (Itz2 K a b) [n+4,n+2,n+3,n,n+1] (n+4) (ZipSt2 n a b) where
 mem:=by simp
 obj:=fun i h st c hc=>by
  obtain ⟨c1,c2,⟨x,y,c3⟩,⟨o4,d4,_,f4⟩,⟨o5,d5,_,f5⟩⟩:=st
  have hc':c=n+4\/c=n+2\/c=n+3\/c=n\/c=n+1:=by simpa using hc
  rcases hc' with e | e | e | e | e
  ·subst e; exact ⟨_,c1,fun v z=>by cases z⟩
  ·subst e; exact ⟨_,c2,fun v z=>by cases z⟩
  ·subst e; exact ⟨_,c3,fun v z=>by cases z⟩
  ·subst e; exact ⟨_,d4,fun v z=>by rw [f4] at z; cases z⟩
  ·subst e; exact ⟨_,d5,fun v z=>by rw [f5] at z; cases z⟩
 keep:=fun i h h' st k=>by
  obtain ⟨c1,c2,⟨x,y,c3⟩,c4,c5⟩:=st
  exact ⟨k _ (by simp) _ c1,k _ (by simp) _ c2,⟨x,y,k _ (by simp) _ c3⟩,c4.at fun o e=>k _ (by simp) o e,c5.at fun o e=>k _ (by simp) o e⟩
 item:=by
  intro X hP hw hK hc i pins s σ H E I hf st hg
  subst hP hw hK
  obtain ⟨xs,ys,hx,hy,l1,l2⟩:=hg
  obtain ⟨its,r1,tx,_⟩:=I.tuple hx
  obtain ⟨its',r2,ty,_⟩:=I.tuple hy
  have e1:=r1.length
  have e2:=r2.length
  obtain ⟨c1,c2,⟨x0,y0,c3⟩,c4,c5⟩:=st
  have hh:X.A.in1.handled=none:=I.ok.hd hc
  refine zipPy (drawsTup hh n a (by show (_:Nat) ≠ _; omega) its.toArray) (drawsTup hh (n+1) b (by show (_:Nat) ≠ _; omega) its'.toArray) (ap_new ha hb) c1 c2 c3 ⟨c4,tx⟩ ⟨c5,ty⟩ (by rw [List.size_toArray]; omega) (by rw [List.size_toArray]; omega) fun x y T g t' px py hT cz cO s1 s2 cT kp=>⟨.ref T,rfl,?_⟩
  subst hT
  refine wpAny_letOwnedTupleGo_zip (s:={ s with heap:=g,toks:=t' }) cz fun g' cz' sb => ?_
  obtain ⟨vx,hvx⟩ : ∃ v,xs[i]?=some v:=⟨_,List.getElem?_eq_getElem l1⟩
  obtain ⟨vy,hvy⟩ : ∃ v,ys[i]?=some v:=⟨_,List.getElem?_eq_getElem l2⟩
  obtain ⟨ux,hux,rx⟩:=r1.get hvx
  obtain ⟨uy,huy,ry⟩:=r2.get hvy
  have ex:x=ux:=by
   have:its.toArray[i]?=some x:=px
   rw [<- Array.getElem?_toList,List.toList_toArray,hux] at this
   exact (Option.some.inj this).symm
  have ey:y=uy:=by
   have:its'.toArray[i]?=some y:=py
   rw [<- Array.getElem?_toList,List.toList_toArray,huy] at this
   exact (Option.some.inj this).symm
  subst ex ey
  have hfr:H s.heap.objs.size=none:=I.hok.fresh (Nat.le_refl _)
  have I0:Inv X pins σ (upd H s.heap.objs.size (.tup [vx,vy])) { s with heap:=s.heap.push { cls:=.type "tuple",data:=.seq #[x,y] },toks:=t' } :=
   I.laid (fun c u q=>Heap.get?_push_of_some _ q) (Nat.le_refl _) ⟨by show 2<=sizeLine; decide,[x,y],.cons rx (.cons ry .nil),⟨_,Heap.get?_push_size s.heap rfl,rfl,_,rfl⟩⟩
  have lz:n+4 < s.heap.objs.size:=Heap.lt_size c1
  have fpn : ∀ c ∈ [n+4,n+2,n+3,n,n+1],c ≠ s.heap.objs.size:=fun c hc'=>by
   have hc'':c=n+4\/c=n+2\/c=n+3\/c=n\/c=n+1:=by simpa using hc'
   rcases hc'' with e | e | e | e | e <;> (subst e; exact Nat.ne_of_lt (by omega))
  have hf0 : ∀ c ∈ [n+4,n+2,n+3,n,n+1],FpOk X pins (upd H s.heap.objs.size (.tup [vx,vy])) c:=fun c hc'=>⟨by rw [upd_ne (fpn c hc')]; exact (hf c hc').1,(hf c hc').2⟩
  have I1:Inv X pins σ (upd H s.heap.objs.size (.tup [vx,vy])) { s with heap:=g',toks:=t' }:=by
   refine Inv.turnedL (s:={ s with heap:=s.heap.push { cls:=.type "tuple",data:=.seq #[x,y] },toks:=t' }) (h':=g') (t':=t') (ch:=[n+4,n+2,n+3,n,n+1]) I0 (fun c o hc' e => ?_) hf0
   replace e:(s.heap.push { cls:=.type "tuple",data:=.seq #[x,y] }).get? c=some o:=e
   have hn : ∀ d ∈ [n+4,n+2,n+3,n,n+1],c ≠ d:=fun d hd z=>hc' (by rw [z]; exact hd)
   refine sb.extBut _ _ (hn _ (by simp)) ?_
   by_cases ec:c=s.heap.objs.size
   ·rw [ec] at e ⊢
    rw [Heap.get?_push_size s.heap rfl] at e
    cases e
    exact cT
   ·rw [Heap.get?_push_ne _ _ _ ec] at e
    exact kp c o (hn _ (by simp)) (hn _ (by simp)) (hn _ (by simp)) (hn _ (by simp)) e
  refine ⟨.ref s.heap.objs.size,_,I1,rfl,⟨_,hfr,rfl,fun xs' ys' hx' hy'=>⟨vx,vy,by rw [I.tuple_inj hx' hx]; exact hvx,by rw [I.tuple_inj hy' hy]; exact hvy,rfl⟩⟩,?_,fun c hc'=>(hf0 c hc').1⟩
  have nz : ∀ d:Nat,d < n+4->d ≠ n+4:=fun d hd=>Nat.ne_of_lt hd
  exact ⟨cz',sb.extBut _ _ (nz _ (by omega)) (kp _ _ (nz _ (by omega)) (by show (_:Nat) ≠ _; omega) (by show (_:Nat) ≠ _; omega) (by show (_:Nat) ≠ _; omega) c2),⟨x,y,sb.extBut _ _ (nz _ (by omega)) cO⟩,s1.1.extBut sb.extBut (nz _ (by omega)),s2.1.extBut sb.extBut (nz _ (by omega))⟩
 done:=by
  intro X hP hw hK hc i pins s σ H E I hf st hg
  subst hP hw hK
  obtain ⟨xs,ys,hx,hy,l⟩:=hg
  obtain ⟨its,r1,tx,_⟩:=I.tuple hx
  obtain ⟨its',r2,ty,_⟩:=I.tuple hy
  have e1:=r1.length
  have e2:=r2.length
  obtain ⟨c1,c2,⟨x0,y0,c3⟩,c4,c5⟩:=st
  have hh:X.A.in1.handled=none:=I.ok.hd hc
  refine zipPyStop (drawsTup hh n a (by show (_:Nat) ≠ _; omega) its.toArray) (drawsTup hh (n+1) b (by show (_:Nat) ≠ _; omega) its'.toArray) (ap_new ha hb) c1 c2 c3 ⟨c4,tx⟩ ⟨c5,ty⟩ (by rw [List.size_toArray,List.size_toArray]; omega) fun g t' kp=>⟨rfl,I.turnedL (ch:=[n+4,n+2,n+3,n,n+1]) (fun c o hc' e => ?_) hf⟩
  have hn : ∀ d ∈ [n+4,n+2,n+3,n,n+1],c ≠ d:=fun d hd z=>hc' (by rw [z]; exact hd)
  exact kp c o (hn _ (by simp)) (hn _ (by simp)) (hn _ (by simp)) (hn _ (by simp)) e
 self:=fun _ _ _ _ _ st h=>wpAny_pyIter_zip st.1 h
abbrev yo1 (h:Heap)(a:Addr):Heap:=h.push { cls:=.type "tuple_iterator",data:=.fields #[.ref a,.int 0 0] }
abbrev yo2 (h:Heap)(a b:Addr):Heap:=(yo1 h a).push { cls:=.type "tuple_iterator",data:=.fields #[.ref b,.int 0 0] }
abbrev yo3 (h:Heap)(a b:Addr):Heap:=(yo2 h a b).push { cls:=.type "tuple",data:=.seq #[.ref h.objs.size,.ref (yo1 h a).objs.size] }
abbrev yo4 (h:Heap)(a b:Addr):Heap:=(yo3 h a b).push { cls:=.type "tuple",data:=.seq #[.none,.none] }
abbrev yo5 (h:Heap)(a b:Addr):Heap:=(yo4 h a b).push { cls:=.type "zip",data:=.fields #[.none,.bool false,.bool false,.ref (yo2 h a b).objs.size,.ref (yo3 h a b).objs.size] }
theorem zipMade2 (a b:Addr)(xs ys:Array Value):Meets (Builtin.«zip.__new__» ⟨[.type "zip",.ref a,.ref b],[]⟩) (fun _ R s=>s.heap.IsTuple a xs/\s.heap.IsTuple b ys/\R (.ok (.ret (.ref (yo4 s.heap a b).objs.size))) { s with heap:=yo5 s.heap a b }):=.of_wp fun prog w A R s h=>by
 obtain ⟨hp,g,d,tk,os⟩:=s
 obtain ⟨q1,q2,q⟩:=h
 have hsub:=sub_zip
 have u1:Heap.IsTuple (Shared.heap ⟨hp,g,d,tk,os⟩) a xs:=q1
 have u2:Heap.IsTuple (Shared.heap ⟨hp.push { cls:=.type "tuple_iterator",data:=.fields #[.ref a,.int 0 0] },g,d,tk,os⟩) b ys:=Heap.IsTuple.push q2 _
 wp_walk using wpAny_pyIter_tuple u1,wpAny_pyIter_tuple u2
 exact ⟨_,rfl,q⟩
theorem call_zipTT {prog:Program}{w:World}{A:Around}{E:Value->Shared->Prop}{s:Shared}{a b:Addr}{xs ys:Array Value}{Q:Value->Shared->Prop}(q1:s.heap.IsTuple a xs)(q2:s.heap.IsTuple b ys)
  (q : ∀ g,ZipSt2 s.heap.objs.size a b 0 g->(∀ c o,s.heap.get? c=some o->g.get? c=some o)->Q (.ref (s.heap.objs.size+4)) { s with heap:=g }):wpAny (model prog w) A (call (.type "zip") [.ref a,.ref b]) Q E s:=by
 refine callType_new F.called_zip (by decide) (F.typeCall_zip_2 _ _) (F.newCall_zip_2 _ _) (fun obj=>F.args_object_init_3 obj _ _) F.entry_zip_new (zipMade2 a b xs ys) ⟨q1,q2,?_⟩
 have z1:(yo1 s.heap a).objs.size=s.heap.objs.size+1:=Heap.size_push ..
 have z2:(yo2 s.heap a b).objs.size=s.heap.objs.size+2:=by rw [Heap.size_push,z1]
 have z3:(yo3 s.heap a b).objs.size=s.heap.objs.size+3:=by rw [Heap.size_push,z2]
 have z4:(yo4 s.heap a b).objs.size=s.heap.objs.size+4:=by rw [Heap.size_push,z3]
 have o5:(yo5 s.heap a b).get? (yo4 s.heap a b).objs.size=some _:=Heap.get?_push_size _ rfl
 have o4:(yo5 s.heap a b).get? (yo3 s.heap a b).objs.size=some _:=Heap.get?_push_of_some _ (Heap.get?_push_size _ rfl)
 have o3:(yo5 s.heap a b).get? (yo2 s.heap a b).objs.size=some _:=Heap.get?_push_of_some _ (Heap.get?_push_of_some _ (Heap.get?_push_size _ rfl))
 have o2:(yo5 s.heap a b).get? (yo1 s.heap a).objs.size=some _:=Heap.get?_push_of_some _ (Heap.get?_push_of_some _ (Heap.get?_push_of_some _ (Heap.get?_push_size _ rfl)))
 have o1:(yo5 s.heap a b).get? s.heap.objs.size=some _:=Heap.get?_push_of_some _ (Heap.get?_push_of_some _ (Heap.get?_push_of_some _ (Heap.get?_push_of_some _ (Heap.get?_push_size _ rfl))))
 rw [z2,z3,z4] at o5
 rw [z1,z2] at o3
 rw [z3] at o4
 rw [z1] at o2
 show _/\_
 rw [z4]
 exact ⟨⟨_,o5,rfl⟩,q _ ⟨o5,o3,⟨_,_,o4⟩,⟨_,o1,rfl,rfl⟩,⟨_,o2,rfl,rfl⟩⟩ fun c o x=>Heap.get?_push_of_some _ (Heap.get?_push_of_some _ (Heap.get?_push_of_some _ (Heap.get?_push_of_some _ (Heap.get?_push_of_some _ x))))⟩
def iZip2 (K:PySem.W.Frag)(ta:TA):TI:=fun σ H R=>ta σ H fun vs H1=>∃ a b,vs=[.ref a,.ref b]/\(∃ xs,SqT K H1 a xs)/\(∃ ys,SqT K H1 b ys)/\R (Itz2 K a b) H1
theorem pi_zip2 {X:Cx}{es:List Expr}{k1:Nat}{p1:Pos}{e1 e2:Expr}{ta:TA}{p pos:Pos}(hg:Gl X "zip")(hm:X.mg "zip" = none)(ha:PA X [e1,e2] ta)(hs:starEach [e1,e2] X.env=[(false,eval e1 X.env),(false,eval e2 X.env)]:=by rfl)(hs2:starEach [e2] X.env=[(false,eval e2 X.env)]:=by rfl) :
  PI X (.Tuple es k1 p1) (.Call (.Name "zip" p) [e1,e2] [] pos) (iZip2 X.K ta):=by
 intro pins s σ H R I h
 refine Call_ (ld_blt I hg hm bt_zip (PyProof.Rows.callWith_type1 (thn (ha pos pins s σ H _ I h) fun us s1 ⟨vs,H1,I1,r1,q1⟩ => ?_) (by rw [hs,hs2]) (by rw [hs2]; rfl)))
 obtain ⟨a,b,rfl,⟨xs,hx⟩,⟨ys,hy⟩,q⟩:=q1
 cases r1 with
 | cons r rr =>
  cases rr with
  | cons r' rr =>
   cases rr
   cases r
   cases r'
   obtain ⟨its,_,tx,_⟩:=I1.tuple hx
   obtain ⟨its',_,ty,_⟩:=I1.tuple hy
   have la:a < s1.heap.objs.size:=by obtain ⟨o,e,_⟩:=tx; exact Heap.lt_size e
   have lb:b < s1.heap.objs.size:=by obtain ⟨o,e,_⟩:=ty; exact Heap.lt_size e
   refine call_zipTT tx (ty) fun g st kp=>wpAny_pyIter_zip st.1 ?_
   have I2:Inv X pins σ H1 { s1 with heap:=g }:=I1.kept (t':=s1.toks) kp
   refine ⟨s1.heap.objs.size+4,_,_,_,H1,rfl,I2,turn_zip2 la lb,st,fun c hc => ?_,q⟩
   refine I1.fpOk ?_ (I1.hok.fresh ?_)
   all_goals
    have hc':c=s1.heap.objs.size+4\/c=s1.heap.objs.size+2\/c=s1.heap.objs.size+3\/c=s1.heap.objs.size\/c=s1.heap.objs.size+1:=by simpa using hc
    rcases hc' with e | e | e | e | e <;> (subst e; omega)
theorem for_zip2 {K:PySem.W.Frag}{a b:Addr}{xs ys:List V}{g:TG}{tb:TS}{D:Ends}{σ:St}{H:Hp}(Pv:Nat->St->Hp->Prop)(h0:Pv 0 σ H)(hl : ∀ i σ H,i<=xs.length->Pv i σ H->SqT K H a xs/\SqT K H b ys)(hn:xs.length=ys.length)
  (hs : ∀ i x y T σ H,xs[i]?=some x->ys[i]?=some y->H T=none->Pv i σ H->g (.ref T) σ (upd H T (.tup [x,y])) fun σ2 H2=>tb { D with nx:=Pv (i+1),ct:=Pv (i+1),bk:=D.nx } σ2 H2) (hd : ∀ σ H,Pv xs.length σ H->D.nx σ H) :
  ∃ W:Nat->Nat->St->Hp->Prop,(∃ m,W 0 m σ H)/\∀ i m σ H,W i m σ H ->
   ((Itz2 K a b).stop i H/\D.nx σ H)\/((Itz2 K a b).go i H/\∃ N:St->Hp->Prop,(∀ σ' H',N σ' H'->∃ m',m' < m/\W (i+1) m' σ' H')/\∀ v H',(Itz2 K a b).yld i H v H'->g v σ H' fun σ2 H2=>tb { D with nx:=N,ct:=N,bk:=D.nx } σ2 H2):=by
 refine ⟨fun i m σ H=>m=xs.length - i/\i<=xs.length/\Pv i σ H,⟨xs.length,by simp,Nat.zero_le _,h0⟩,?_⟩
 rintro i m σ H ⟨rfl,hi,p⟩
 obtain ⟨q1,q2⟩:=hl i σ H hi p
 by_cases hlt:i < xs.length
 ·refine .inr ⟨⟨xs,ys,q1,q2,hlt,by omega⟩,Pv (i+1),fun σ' H' p'=>⟨xs.length - (i+1),by omega,rfl,hlt,p'⟩,fun v H' y => ?_⟩
  obtain ⟨T,hT,rfl,y⟩:=y
  obtain ⟨x',y',e1,e2,rfl⟩:=y xs ys q1 q2
  exact hs i x' y' T σ H e1 e2 hT p
 ·have e:i=xs.length:=by omega
  subst e
  exact .inl ⟨⟨xs,ys,q1,q2,.inl rfl⟩,hd σ H p⟩
end L2
namespace L2
open PySem PySem.Spec PyProof.Rows
variable {X:Cx}
def rListD:List V->Hp->VK->Prop:=fun xs H Q=>∃ a kvs,∃ ss:List Str,xs=[.ref a]/\H a=some (.dK kvs)/\kvs.map (·.1)=ss.map Sum.inr/\∀ p,H p=none->Q (.ref p) (upd H p (.lst (ss.map V.str)))
def tListRng3 (ta:TA):TE:=fun σ H Q=>ta σ H fun vs H1=>∃ i j c:Int,vs=[.int i,.int j,.int c]/\(-(2 ^ 20)<=i/\i < 2 ^ 20 /\ -(2 ^ 20)<=j/\j < 2 ^ 20/\1<=c/\c < 2 ^ 20)/\(j - i) / c<=900 /\
 ∀ p (ms:List Int),(∀ x ∈ ms,i<=x/\x < j)->(ms.length:Int)<=max 0 ((j - i - 1) / c+1)->H1 p=none->Q (.ref p) (upd H1 p (.lst (ms.map V.int)))
end L2
namespace L2
open PySem PySem.Spec PyProof.Rows
variable {X:Cx}
theorem Inv.freeze {pins:List (Addr × Obj)}{σ:St}{H:Hp}{s:Shared}(I:Inv X pins σ H s){d:Addr}{kvs:List (Key × V)}{ob:Obj}(hH:H d=some (.dK kvs))(ho:s.heap.get? d=some ob) :
  Inv X pins σ (upd H d (.frz ob (.dK kvs))) s:=by
 have nd : ∀ b u,H b=some u->u ≠ .dK kvs->b ≠ d:=fun b u e n z=>by
  rw [z,hH] at e
  exact n (Option.some.inj e).symm
 refine I.step (g':=s.gens) (d':=s.drawn) (t':=s.toks) (h':=s.heap) (ch:=[]) (fun _ z=>nomatch z) (fun b o _ _ _ e _=>e) (fun b o _ _ _ e _=>⟨o.slots,e⟩) (fun b o _ e n => ?_) (fun b o _ e=>⟨o,e⟩) (fun b xs e => ?_) (fun b o u e => ?_) (fun b ps e=>⟨#[],?_⟩) (fun m hm=>hm) (fun b u e => ?_) I.bare
 ·rw [upd_ne (fun z=>by rw [z,hH] at n; cases n)]
  exact n
 ·rw [upd_ne (nd b _ e (by intro z; cases z))]
  exact e
 ·rw [upd_ne (nd b _ e (by intro z; cases z))]
  exact e
 ·rw [upd_ne (nd b _ e (by intro z; cases z)),e]
  simp
 ·have st : ∀ {a:Addr} {u:HO},ObjOk X.prog X.w H s.heap a u->ObjOk X.prog X.w (upd H d (.frz ob (.dK kvs))) s.heap a u:=fun x =>
   x.stay (fun c v _ q=>q) (fun c q=>by rw [upd_ne (nd c _ q (by intro z; cases z))]; exact q) fun c xs q=>by rw [upd_ne (nd c _ q (by intro z; cases z))]; exact q
  by_cases e':b=d
  ·subst e'
   rw [upd_same] at e
   cases e
   exact ⟨ho,st (I.hok b _ hH)⟩
  ·rw [upd_ne e'] at e
   exact st (I.hok b u e)
def Itd (d:Addr)(ob:Obj)(kvs:List (Key × V)):It :=
 ⟨fun i H=>H d=some (.frz ob (.dK kvs))/\i < kvs.length,fun i H v H'=>H'=H/\∃ kv,kvs[i]?=some kv/\v=kV kv.1,fun i H=>H d=some (.frz ob (.dK kvs))/\kvs.length<=i⟩
theorem key_rel {P:Program}{w:World}{k:Key}{v:Value}(h:(mixKind P w).is k v=true):RelV (kV k) v:=by
 cases k with
 | inl n =>
  obtain ⟨t,rfl⟩:=Value.isInt_shape (k:=n) (v:=v) h
  exact ⟨t,rfl⟩
 | inr x =>
  obtain ⟨t,rfl⟩:=Value.isStrOf_shape (x:=x) (v:=v) h
  exact ⟨t,rfl⟩
theorem turn_dict {P:Program}{w:World}{K:PySem.W.Frag}{tg:Expr}(d it:Addr)(ob:Obj)(kvs:List (Key × V))(vs:List (Key × Value))(ep:Nat)(rel:KV kvs vs)(hob : ∀ h:Heap,h.get? d=some ob->h.DictAt (mixKind P w) d vs ep) :
  Turn P w K tg (Itd d ob kvs) [it] it (fun i h=>h.IsKeyIter it d i vs.length ep) where
 mem:=by simp
 obj:=fun i h st b hb=>by
  have e:b=it:=by simpa using hb
  subst e
  obtain ⟨o,e,c,d⟩:=st
  exact ⟨o,e,fun v z=>by rw [d] at z; cases z⟩
 keep:=fun i h h' st k=>st.at fun o e=>k it (by simp) o e
 item:=by
  intro X hP hw hK hc i pins s σ H E I hf st hg
  subst hP hw hK
  obtain ⟨hfz,hi⟩:=hg
  have ho:s.heap.get? d=some ob:=(show ObjOk X.prog X.w H s.heap d (.frz ob (.dK kvs)) from I.hok d _ hfz).1
  have hat:=hob _ ho
  have hl:=rel.length
  obtain ⟨⟨k,x⟩,hx⟩ : ∃ p,vs[i]?=some p:=⟨_,List.getElem?_eq_getElem (by omega)⟩
  obtain ⟨f0,f1,f2,f3,f4,f5⟩:=hf it (by simp)
  refine wpAny_pyNext_dict_item st hat hx fun key h' hkey st' sb => ?_
  have I1:Inv X pins σ H { s with heap:=h' }:=I.turned (t':=s.toks) (fun b o hb e=>(sb.2 b hb).trans e) f0 f1 f3 f4 f5
  obtain ⟨kv,hkv⟩ : ∃ kv,kvs[i]?=some kv:=⟨_,List.getElem?_eq_getElem hi⟩
  have ek:kv.1=k:=by
   have:=congrArg (fun l=>l[i]?) rel.keys
   simp only [List.getElem?_map,hkv,hx,Option.map_some] at this
   exact Option.some.inj this
  obtain ⟨o,e,c,d'⟩:=id st'
  exact ⟨key,rfl,go_of (s:={ s with heap:=h' }) e c d' (by decide) ⟨kV k,H,I1,key_rel hkey,⟨rfl,kv,hkv,by rw [ek]⟩,st',fun b hb=>(hf b hb).1⟩⟩
 done:=by
  intro X hP hw hK hc i pins s σ H E I hf st hg
  subst hP hw hK
  obtain ⟨hfz,hi⟩:=hg
  have ho:s.heap.get? d=some ob:=(show ObjOk X.prog X.w H s.heap d (.frz ob (.dK kvs)) from I.hok d _ hfz).1
  have hat:=hob _ ho
  have hl:=rel.length
  obtain ⟨f0,f1,f2,f3,f4,f5⟩:=hf it (by simp)
  exact wpAny_pyNext_dict_end (I.ok.hd hc) st hat (List.getElem?_eq_none (by omega)) fun h' eb=>⟨rfl,I.turned (t':=s.toks) (fun b o hb e=>eb b o hb e) f0 f1 f3 f4 f5⟩
 self:=fun _ _ _ _ _ st h=>wpAny_pyIter_keyiter st h
def iDict (tl:TE):TI:=fun σ H R=>tl σ H fun x H1=>∃ d kvs,x = .ref d/\H1 d=some (.dK kvs)/\∀ ob,R (Itd d ob kvs) (upd H1 d (.frz ob (.dK kvs)))
theorem pi_dict {tg l:Expr}{tl:TE}(hl:PE X l tl):PI X tg l (iDict tl):=by
 intro pins s σ H R I h
 refine thn (hl pins s σ H _ I h) fun v s1 ⟨x,H1,I1,r1,q1⟩ => ?_
 obtain ⟨d,kvs,e,hH,q⟩:=q1
 subst e
 cases r1
 obtain ⟨z,lo,vs,rel,dd⟩:=dk_of I1.hok hH
 obtain ⟨ep,hat⟩:=dd.dictAt
 obtain ⟨ob,es,ho,rest⟩:=id hat
 refine wpAny_pyIter_dict lo hat ?_
 have I2:=I1.freeze hH ho
 refine ⟨s1.heap.objs.size,[s1.heap.objs.size],_,_,_,rfl,I2.kept (t':=s1.toks) fun b o e=>Heap.get?_push_of_some _ e,turn_dict d _ ob kvs vs ep rel (fun h e=>⟨ob,es,e,rest⟩),⟨_,Heap.get?_push_size _ rfl,rfl,rfl⟩,fun b hb => ?_,q ob⟩
 have e:b=s1.heap.objs.size:=by simpa using hb
 subst e
 exact I2.fpOk (Nat.le_refl _) (I2.hok.fresh (Nat.le_refl _))
theorem Ys.dict {d:Addr}{ob:Obj}{kvs:List (Key × V)}{H1:Hp}(h:H1 d=some (.frz ob (.dK kvs))):Ys (Itd d ob kvs) (kvs.map fun kv=>kV kv.1) H1 where
 go:=fun i H s hi=>⟨s _ _ h,by rwa [List.length_map] at hi⟩
 yld:=fun i H x H' s hi y=>by
  obtain ⟨e,kv,hkv,rfl⟩:=y
  exact ⟨e,by rw [List.getElem?_map,hkv]; rfl⟩
 stop:=fun i H s hi=>⟨s _ _ h,by rwa [List.length_map] at hi⟩
theorem for_dict {d:Addr}{ob:Obj}{kvs:List (Key × V)}{g:TG}{tb:TS}{D:Ends}{σ:St}{H:Hp}(Pv:Nat->St->Hp->Prop)(h0:Pv 0 σ H)(hl : ∀ i σ H,i<=kvs.length->Pv i σ H->H d=some (.frz ob (.dK kvs)))
  (hs : ∀ i kv σ H,kvs[i]?=some kv->Pv i σ H->g (kV kv.1) σ H fun σ2 H2=>tb { D with nx:=Pv (i+1),ct:=Pv (i+1),bk:=D.nx } σ2 H2) (hd : ∀ σ H,Pv kvs.length σ H->D.nx σ H) :
  ∃ W:Nat->Nat->St->Hp->Prop,(∃ m,W 0 m σ H)/\∀ i m σ H,W i m σ H ->
   ((Itd d ob kvs).stop i H/\D.nx σ H)\/((Itd d ob kvs).go i H/\∃ N:St->Hp->Prop,(∀ σ' H',N σ' H'->∃ m',m' < m/\W (i+1) m' σ' H')/\∀ v H',(Itd d ob kvs).yld i H v H'->g v σ H' fun σ2 H2=>tb { D with nx:=N,ct:=N,bk:=D.nx } σ2 H2):=by
 refine ⟨fun i m σ H=>m=kvs.length - i/\i<=kvs.length/\Pv i σ H,⟨kvs.length,by simp,Nat.zero_le _,h0⟩,?_⟩
 rintro i m σ H ⟨rfl,hi,p⟩
 have q:=hl i σ H hi p
 by_cases hlt:i < kvs.length
 ·refine .inr ⟨⟨q,hlt⟩,Pv (i+1),fun σ' H' p'=>⟨kvs.length - (i+1),by omega,rfl,hlt,p'⟩,fun v H' y => ?_⟩
  obtain ⟨rfl,kv,hkv,rfl⟩:=y
  exact hs i kv σ H' hkv p
 ·have e:i=kvs.length:=by omega
  subst e
  exact .inl ⟨⟨q,Nat.le_refl _⟩,hd σ H p⟩
end L2
namespace L2
open PySem PySem.Spec PyProof.Rows PySem.W
def PassesAt (CX:CXT)(X:Cx)(σ:St)(E:XK):Prop:=∀ (pins:List (Addr × Obj)) (H:Hp) (s:Shared) (e:Value) (s':Shared),Inv X pins σ H s->CX X.stack H s E e s'->X.xe e s'
section
variable {X:Cx}
theorem run_fnS {CX:CXT}{k:Nat}{f:Addr}{fd:FuncData}{ps:List Str}{sp:Sp}{E:XK}{pins:List (Addr × Obj)}{σ:St}{H:Hp}{s:Shared}{Q:VK}{us:List Value}{vs:List V}(F:FnOk X.prog X.w X.K X.mg X.base CX k f fd ps sp)(hr:Room k X.A)(hb:Binds X.K fd ps [])(hx:PassesAt CX X σ E)
  (I:Inv X pins σ H s) (r:Vals vs us) (h:sp (vs ++ []) H Q E):wpAny (model X.prog X.w) X.A (call (.ref f) us) (EP X pins σ Q) X.xe s:=by
 have r2:Vals (vs ++ []) (us ++ []):=r.append .nil
 have hl:(us ++ []).length=ps.length:=by rw [<- r2.length]; exact F.len _ _ _ _ h
 refine wpAny_call (codeAny_mono (F.run X.A X.stack s H ⟨us,[]⟩ (us ++ []) (vs ++ []) Q E hr I.env0 (hb s us I.kIn hl) r2 h) fun r s' hq => ?_)
 cases r with
 | error e=>exact hx pins H s e s' I hq
 | ok fl =>
  cases fl with
  | ret u=>exact I.after hq
  | next=>exact False.elim hq
  | brk=>exact False.elim hq
  | cont=>exact False.elim hq
theorem pe_calS {CX:CXT}{k:Nat}{x:Str}{ps:List Str}{sp:Sp}{E:XK}{e:Expr}{es:List Expr}{t:TA}{p pos:Pos}{σ:St}(C:Cal X.prog X.w X.K X.mg X.base CX k x ps sp)(hr:Room k X.A)(hg:Gl X x)(hx:PassesAt CX X σ E)
  (ha:PA X (e :: es) t) (hdb:(x == ("__debug__" : Str))=false:=by decide) (he:starEach (e :: es) X.env=(false,eval e X.env) :: starEach es X.env:=by rfl) (hpl:(backTo pos (starEach es X.env)).any (·.1)=false:=by rfl) :
  PE X (.Call (.Name x p) (e :: es) [] pos) (fun σ' H Q=>σ'=σ/\tCall sp [] E t σ' H Q):=by
 obtain ⟨f,fd,hm,hk,hb,F⟩:=C.ex
 intro pins s σ' H Q I h
 obtain ⟨es',h⟩:=h
 subst es'
 refine wpAny_Call_Name_kw (ld_glob I hg hm ?_ hdb)
 refine PySem.W.callWith_K (h₀:=X.base) I.ok.mod.kin hk (thn (ha pos pins s σ' H _ I h) fun us s1 ⟨vs,H1,I1,r,q⟩=>⟨I1.kIn,?_⟩) he hpl
 exact run_fnS F hr hb hx I1 r q
def tTryS (K:Frag)(i j:Nat)(Dc:Addr)(tb:St->XK->TS):TS:=fun D σ H=>tb σ (fun cls dd H'=>∃ C,cls = .ref C/\ExK K C/\subIn K (.ref C) (.ref Dc)=some true/\∀ a,H' a=none->D.nx (((σ.set i (some (.ref a))).set j (some (.ref a))).set i none) (upd H' a (excD a C dd))) D σ H
theorem ps_tryS {body:List Stmt}{tb:St->XK->TS}{d n y:Str}{dp np py apos hpos pos:Pos}{i j:Nat}{Dc:Addr}(O:OwnF X)(hg:Gl X d)(hm:X.mg d=some (.ref Dc))(F:CtK X.K Dc)(hN:X.N.Nodup)(hi:X.N[i]?=some n)
  (hki:X.env.scope.names.lookup n=some .local) (hj:X.N[j]?=some y) (hkj:X.env.scope.names.lookup y=some .local) (hij:i ≠ j)
  (hb : ∀ (pins:List (Addr × Obj)) (E':Value->Shared->Prop) (σ:St) (Ec:XK),PassesAt (CXg X.prog X.w) (X.trying pins E') σ Ec->PSs (X.trying pins E') body (tb σ Ec))
  (hdb:(d == ("__debug__" : Str))=false:=by decide) (hnb:(n == ("__debug__" : Str))=false:=by decide) (hnc:(n == ("__classdict__" : Str))=false:=by decide)
  (hs:swapsWith (.Name n np) (some (.Name y py)) apos.line X.env=pure false:=by rfl) :
  PS X (.Try body [.ExceptHandler (some (.Name d dp)) (some n) [.Assign [.Name y py] (.Name n np) apos] hpos] [] [] pos) (tTryS X.K i j Dc tb):=by
 intro pins s σ H D I h
 refine wpAny_Try_except (wpAny_mono (hb pins _ σ _ ?hp [] s σ H D (I.trying _) h) (fun f s1 z => ?_) fun _ _ z=>z)
 case hp =>
  intro pl Hc sc e s' I0 hx
  have I1:Inv X pins σ Hc sc:=I0.tried
  obtain ⟨ea,C,dd,H',rfl,Fl,C',e1,FK,hsub,hk⟩:=hx
  cases e1
  obtain ⟨B,hok,fl,bk,th⟩:=Fl.fl
  have hfr:X.A.frames=some (X.env :: X.outer):=by rw [<- O.stk]; exact I1.ok.frames
  have fl':FlyD B (X.env :: X.outer) ea (.ref C) dd .none s'.heap:=by rw [<- O.stk]; exact fl
  have hBe:B.get? ea=none:=fl.no
  refine noteD hfr O.fr fl' fun h4 held4 up4 => ?_
  refine flightD held4 fun h5 fl5 up5 => ?_
  have mk : ∀ h6:Heap,B.StaysIn h6->s'.heap.UpToSlots h6->Inv X pins σ H' { s' with heap:=h6 }:=fun h6 st up =>
   I1.call' (s':={ s' with heap:=h6 }) (ch:=[]) Fl.os (un_here I1 Fl.un bk th st up) (hok.kept st) Fl.bare (by simp)
  have I5:=mk h5 fl5.st (up4.trans up5)
  obtain ⟨ob,_,hob,hobc,_,_⟩:=fl5.at
  refine wpAny_handleBy_cons (codeAny_handlers_test (ld_glob (I5.within (.ref ea)) hg hm ?_ hdb)) (by intro q; cases q)
  refine exc_matches I5.kIn ⟨hob,hobc⟩ F hsub ?_
  refine codeAny_handlers_suite_as ?_
  refine flightD fl5 fun h6 fl6 up6 => ?_
  have I6:=mk h6 fl6.st ((up4.trans up5).trans up6)
  obtain ⟨ob6,ws,hob6,hobc6,hobdd,hobd6⟩:=fl6.at
  have nfr:ea ∉ frs X.stack:=fun z=>by
   obtain ⟨_,o',ho',hnf⟩:=I6.stack.mem z
   rw [hob6] at ho'
   cases ho'
   exact hnf ws hobd6
  have nsc:sc.heap.get? ea=none:=by
   cases q:sc.heap.get? ea with
   | none=>rfl
   | some o =>
    obtain ⟨o',e'⟩:=th ea o q nfr
    rw [hBe] at e'
    cases e'
  have nH:H' ea=none:=by
   cases q:H' ea with
   | none=>rfl
   | some o =>
    exfalso
    have lt:=hok.lt q
    obtain ⟨o',e'⟩ : ∃ o',B.get? ea=some o':=by
     exact objThere (hok ea o q)
    rw [hBe] at e'
    cases e'
  have n0:X.s₀.heap.get? ea=none:=by
   cases q:X.s₀.heap.get? ea with
   | none=>rfl
   | some o =>
    obtain ⟨o',e'⟩:=I1.base.there ea o q (by rw [O.ex]; simp)
    rw [nsc] at e'
    cases e'
  have nL:ea ≠ X.env.locals:=fun z=>by
   obtain ⟨m,⟨oL,_,_,hoL,_⟩,_⟩:=I1.loc
   rw [<- z,nsc] at hoL
   cases hoL
  have I7:Inv X pins σ (upd H' ea (excD ea C dd)) { s' with heap:=h6 }:=I6.track nH n0 nL
   (fun x c q z=>by obtain ⟨v,o,ho,_⟩:=I1.cell x c q; rw [z,nsc] at ho; cases ho)
   (fun p q z=>by have:=(I1.pin p q).1; rw [z,nsc] at this; cases this)
   ⟨⟨ob6,⟨hob6,hobc6⟩,hobdd,_,hobd6⟩,⟨ob6,hob6⟩,fun h1 h2 ⟨o,ho,hd⟩ k=>⟨o,⟨k o ho.at_,ho.cls⟩,hd⟩⟩
  have J:=I7.within (.ref ea)
  refine store_ok (X:=X.within (.ref ea)) J hN hi (.inl hki) (show RelV (.ref ea) (.ref ea) from rfl) (fun s8 I8 => ?_) (.inr hki)
  have hiσ:i < σ.length:=by rw [I1.len]; exact (List.getElem?_eq_some_iff.mp hi).1
  have z:=pss_one (ps_set (X:=X.within (.ref ea)) (pos:=apos) (pos':=py) (i:=j) hN hj (.inl hkj) (pe_var (X:=X.within (.ref ea)) (pos:=np) hi (.inl hki) hnb hnc) hs (.inr hkj)) pins s8 (σ.set i (some (.ref ea))) (upd H' ea (excD ea C dd))
   { nx:=fun σ9 H9=>σ9=(σ.set i (some (.ref ea))).set j (some (.ref ea))/\H9=upd H' ea (excD ea C dd),rt:=fun _ _=>False } I8 ⟨_,List.getElem?_set_self hiσ,rfl,rfl⟩
  refine wpAny_mono z (fun f s9 hf => ?_) (fun _ _ q=>q.elim)
  cases f with
  | next =>
   obtain ⟨σ9,H9,I9,rfl,rfl⟩:=hf
   refine name_gone (I9.without I1.ok) hN hi hki fun s10 I10 => ?_
   exact ⟨_,_,I10,hk ea nH⟩
  | brk=>obtain ⟨_,_,_,q⟩:=hf; exact q.elim
  | cont=>obtain ⟨_,_,_,q⟩:=hf; exact q.elim
  | ret u=>obtain ⟨_,_,_,_,_,q⟩:=hf; exact q.elim
 ·have z':=SP.tried z
  cases f with
  | next=>exact wpAny_execs_nil z'
  | brk=>exact z'
  | cont=>exact z'
  | ret u=>exact z'
end
end L2
namespace L2
open PySem PySem.Spec PyProof.Rows
variable {X:Cx}
def rSortDSR:List V->Hp->VK->Prop:=fun xs H Q=>∃ a kvs,∃ ss:List Str,xs=[.ref a]/\Rd H a (.dK kvs)/\kvs.map (·.1)=ss.map Sum.inr/\kvs.length < 64/\∀ (p:Addr) (ss':List Str),ss'.Perm ss->sortedS ss'=true->H p=none->Q (.ref p) (upd H p (.lst (ss'.map V.str)))
def tListValsR (td:TE):TE:=fun σ H Q=>td σ H fun x H1=>∃ a kvs,x = .ref a/\Rd H1 a (.dK kvs)/\∀ p,H1 p=none->Q (.ref p) (upd H1 p (.lst (kvs.map (·.2))))
end L2
namespace L2
open PySem PySem.Spec PyProof.Rows
def Fz (H H':Hp):Prop:=∀ b o,H b=some o->H' b=some o\/∃ ob kvs,o = .dK kvs/\H' b=some (.frz ob (.dK kvs))
def Hld (d:Addr)(ob:Obj)(kvs:List (Key × V))(H H':Hp):Prop:=H' d=some (.frz ob (.dK kvs))/\(∀ b,b ≠ d->H' b=H b)/\(H d=some (.dK kvs)\/H d=some (.frz ob (.dK kvs)))
section
variable {X:Cx}
def iDictR (tl:TE):TI:=fun σ H R=>tl σ H fun x H1=>∃ d kvs,x = .ref d/\Rd H1 d (.dK kvs)/\∀ ob H2,Hld d ob kvs H1 H2->R (Itd d ob kvs) H2
def rDictD:List V->Hp->VK->Prop:=fun xs H Q=>∃ a kvs,xs=[.ref a]/\Rd H a (.dK kvs)/\∀ p,H p=none->Q (.ref p) (upd H p (.dK kvs))
def DDeq (K:PySem.W.Frag)(H:Hp)(ka kb:List (Key × V)):Prop:=ka.length=kb.length/\∀ kv ∈ ka,∃ v' d,valV kb kv.1=some v'/\Dv K H 30 kv.2 d/\Dv K H 30 v' d
def rNeDD (K:PySem.W.Frag):R2:=fun x y H Q=>∃ a b ka kb,x = .ref a/\y = .ref b/\Rd H a (.dK ka)/\Rd H b (.dK kb)/\DDeq K H ka kb/\Q (.bl false) H
def rEqDD (K:PySem.W.Frag):R2:=fun x y H Q=>∃ a b ka kb,x = .ref a/\y = .ref b/\Rd H a (.dK ka)/\Rd H b (.dK kb)/\DDeq K H ka kb/\Q (.bl true) H
end
end L2
namespace L2
open PySem PySem.Spec PyProof.Rows
def EqIn (P:Program)(w:World)(A:Around)(s:Shared)(y x:Value):Prop:=∀ (E:Value->Shared->Prop) (Q:Bool->Shared->Prop),Q true s->wpAny (model P w) A (eqBool y x) Q E s
section
open AutoSeq1 MeetsSeq MeetsSeq2 MeetsSeq3 SeqAt
variable {P:Program}{w:World}
end
section
variable {X:Cx}
def rNeLD (K:PySem.W.Frag):R2:=fun x y H Q=>∃ a b xs ys,x = .ref a/\y = .ref b/\SqL K H a xs/\SqL K H b ys/\xs.length=ys.length /\
 (∀ (j:Nat) x y,xs[j]?=some x->ys[j]?=some y->∃ da db ka kb,x = .ref da/\y = .ref db/\Rd H da (.dK ka)/\Rd H db (.dK kb)/\DDeq K H ka kb)/\Q (.bl false) H
end
end L2
namespace HT
open PySem PyProof.Rows
def lexLtS:List Str->List Str->Bool
 | [],[]=>false
 | [],_ :: _=>true
 | _ :: _,[]=>false
 | x :: xs,y :: ys=>if x=y then lexLtS xs ys else decide (x.cps.toList < y.cps.toList)
section
open PySem.SeqAt
open PySem.AutoSeq1 (wpAny_loadPart')
open PySem.MeetsSeq PySem.MeetsSeq2 PySem.MeetsSeq3
end
section
variable {prog:Program}{w:World}{A:Around}{E:Value->Shared->Prop}{s:Shared}
end
end HT
namespace L2
open PySem PySem.Spec PyProof.Rows
section
variable {X:Cx}
def rLtTS (K:PySem.W.Frag):R2:=fun x y H Q=>∃ a b ns ms,x = .ref a/\y = .ref b/\SqT K H a (ns.map V.str)/\SqT K H b (ms.map V.str)/\Q (.bl (HT.lexLtS ns ms)) H
end
end L2
namespace HT
open PySem PySem.Spec PyProof.Rows
section
variable {prog:Program}{w:World}{A:Around}{E:Value->Shared->Prop}{s:Shared}
end
end HT
namespace L2
open PySem PySem.Spec PyProof.Rows
section
variable {X:Cx}
def rCatT0 (K:PySem.W.Frag):R2:=fun x y H Q=>∃ a b ys,x = .ref a/\y = .ref b/\SqT K H a []/\SqT K H b ys/\Q (.ref b) H
def rCatTA (K:PySem.W.Frag):R2:=fun x y H Q=>rCatT0 K x y H Q\/rCatT K x y H Q
def rRepT (K:PySem.W.Frag):R2:=fun x y H Q=>∃ a k xs,x = .ref a/\y = .int k/\SqT K H a xs/\xs ≠ []/\2<=k/\k<=1000/\xs.length<=1000/\∀ p,H p=none->Q (.ref p) (upd H p (.tup (List.replicate k.toNat xs).flatten))
end
end L2
namespace L2
open PySem PySem.Spec PyProof.Rows
def Itr3 (lo c:Int)(n:Nat):It:=⟨fun i _=>i < n,fun i H x H'=>H'=H/\x = .int (lo+(i:Nat)*c),fun i _=>n<=i⟩
def iRng3 (ta:TA):TI:=fun σ H R=>ta σ H fun vs H1=>∃ i j c:Int,vs=[.int i,.int j,.int c]/\(-(2 ^ 20)<=i/\i<=2 ^ 20 /\ -(2 ^ 20)<=j/\j<=2 ^ 20/\0 < c/\c<=2 ^ 20)/\R (Itr3 i c (if i < j then (j - i - 1) / c+1 else 0).toNat) H1
end L2
namespace L2
open PySem PySem.Spec PyProof.Rows
def tSortR (K:PySem.W.Frag)(te:TE):TE:=fun σ H Q=>te σ H fun x H1=>∃ (a:Addr) (ns:List Int),x = .ref a/\SqL K H1 a (ns.map V.int)/\ns.length < 64 /\
 ∀ (p:Addr) (ns':List Int),ns'.Perm ns->ns'.Pairwise (· ≥ ·)->H1 p=none->Q (.ref p) (upd H1 p (.lst (ns'.map V.int)))
abbrev rngObj (n:Int)(t u v:Tok):Obj:={ cls:=.type "range",data:=.fields #[.int 0 t,.int n u,.int 1 v] }
abbrev rngIt (n:Int):Obj:={ cls:=.type "range_iterator",data:=.fields #[rawInt (n - 1),rawInt n,rawInt (-1)] }
section
variable {prog:Program}{w:World}{A:Around}{E:Value->Shared->Prop}{s:Shared}
end
def iRev (ta:TA):TI:=fun σ H R=>ta σ H fun vs H1=>∃ n:Int,vs=[.int n]/\0<=n/\n < 2 ^ 62/\R (Itr3 (n - 1) (-1) n.toNat) H1
end L2
namespace TR
open PySem PySem.Spec PyProof.Rows L2 GM
theorem seq_nx {t u:TS}{D:Ends}{σ:L2.St}{H:Hp}(S:L2.St->Hp->Prop)(h : ∀ σ' H',S σ' H'->u D σ' H')(g : ∀ N:L2.St->Hp->Prop,(∀ σ' H',S σ' H'->N σ' H')->t { D with nx:=N } σ H):tSeq t u D σ H:=g (u D) h
def Top2 (l:List Int)(f s:Int):Prop:=∃ r,(l ++ [0,0]).Perm (f :: s :: r)/\s<=f/\∀ x ∈ r,x<=s
def Nd (ds:List Int)(d:Int):Prop:=∃ f s,Top2 ds f s/\d=max f (s+1)
def av:List Int->Int
 | []=>0
 | c :: r=>av r - c+1
def Okc:List Int->Prop
 | []=>True
 | c :: r=>Okc r/\0<=c/\c < 64/\c<=av r
def Gd (p:List Int)(m l:Int):Prop:=∀ r,Okc r->l<=av r->Okc (p ++ r)/\av r - l+m<=av (p ++ r)
def Am (H:Hp)(m:Addr)(n:Nat):Prop:=∃ t b:Int,H m=some (.tup [.int t,.int b])/\0<=t/\1<=b/\Bt (64*n - 1) t/\Bt (64*n - 1) b
abbrev Pt:=V × Nat × Int
def szs (cs:List Pt):Nat:=(cs.map (·.2.1)).sum
def Tr (H:Hp):Nat->V->Nat->Int->Prop
 | 0,_,_,_=>False
 | n+1,v,s,d =>
  (∃ (p m:Addr) (x:Str),v = .ref p/\H p=some (.tup [.str "ware",.str x,.ref m])/\Am H m 1/\s=1/\d=0) \/
  (∃ (p m q:Addr) (x:Str) (cs:List Pt),v = .ref p/\H p=some (.tup [.str "recipe",.str x,.ref m,.ref q])/\H q=some (.tup (cs.map (·.1)))/\1<=cs.length/\cs.length < 64 /\
   (∀ c ∈ cs,Tr H n c.1 c.2.1 c.2.2)/\s=1+szs cs/\Nd (cs.map (·.2.2)) d/\Am H m s)
def Bx (a:Addr)(H H':Hp):Prop:=∀ b o,b ≠ a->H b=some o->H' b=some o
theorem Bx.tk {a:Addr}{H H':Hp}{xs:List V}(h:Bx a H H')(ha:H a=some (.lst xs)):Tk H H':=fun b ys e=>h b _ (fun z=>by rw [z,ha] at e; cases e) e
def nzc (cs:List Int):Nat:=(cs.filter fun c=>c != 0).length
structure Pile (H:Hp)(cs:List Int)(j:Nat)(pl:List Pt):Prop where
 tr : ∀ c ∈ pl,Tr H (nzc (cs.drop (cs.length - j))+1) c.1 c.2.1 c.2.2
 sz:szs pl=j
 ln:(pl.length:Int)=av (cs.drop (cs.length - j))
 hd:1<=j->∃ pl' q,pl=pl' ++ [q]/\∀ c,cs[cs.length - j]?=some c->1<=c->1<=q.2.2
def AtP (H:Hp):V->List Nat->V->Prop
 | v,[],u=>v=u
 | v,k :: r,u=>∃ (p m q:Addr) (x:Str) (vs:List V) (c:V),v = .ref p/\H p=some (.tup [.str "recipe",.str x,.ref m,.ref q])/\H q=some (.tup vs)/\vs[k]?=some c/\AtP H c r u
abbrev pth (ks:List Nat):List V:=ks.map fun (k:Nat)=>V.int (k:Int)
def Ent (H:Hp)(root:V)(N:Nat)(e:Addr)(s:Nat):Prop:=∃ (pa:Addr) (ks:List Nat) (v:V) (n:Nat) (d:Int),H e=some (.tup [.ref pa,v])/\H pa=some (.tup (pth ks))/\AtP H root ks v/\Tr H n v s d/\ks.length+n<=N
end TR
namespace L2
open PySem PySem.Spec PyProof.Rows
theorem comp_relL {J:It}{xs:List V}{D:Addr}{g:TG}{te:TE}{σ0:St}{QD:Hp->Prop}{H1:Hp}(Y:Ys J xs H1)(Pr:Nat->V->V->Hp->Prop)(hP : ∀ i x y H H',Pr i x y H->(∀ b o,b ≠ D->H b=some o->H' b=some o)->Pr i x y H')(hD:H1 D=none)(hl:xs.length<=1000)
  (hs : ∀ i x H' (R:VK),xs[i]?=some x->Same H1 H'->(∃ ys,H' D=some (.lst ys))->(∀ y H4,Same H' H4->Pr i x y H4->R y H4)->g x σ0 H' fun σ2 H2=>Keep σ0 σ2/\te σ2 H2 R)
  (hd : ∀ ys H',Same H1 H'->H' D=some (.lst ys)->ys.length=xs.length->(∀ i x y,xs[i]?=some x->ys[i]?=some y->Pr i x y H')->QD H') :
  ∃ W:Nat->Nat->List V->Hp->Prop,(∃ m,W 0 m [] (upd H1 D (.lst [])))/\∀ i m ys H,W i m ys H->H D=some (.lst ys)/\ys.length < sizeLine /\
   ((J.stop i H/\QD H)\/(J.go i H/\∀ x H',J.yld i H x H'->g x σ0 H' fun σ2 H2=>Keep σ0 σ2/\tNoIf σ2 H2 fun b H3 =>
    if b=true then te σ2 H3 fun y H4=>H4 D=some (.lst ys)/\∃ m',m' < m/\W (i+1) m' (ys ++ [y]) (upd H4 D (.lst (ys ++ [y]))) else ∃ m',m' < m/\W (i+1) m' ys H3)):=by
 refine ⟨fun i m ys H=>m=xs.length - i/\i<=xs.length/\Same H1 H/\H D=some (.lst ys)/\ys.length=i/\∀ j x y,xs[j]?=some x->ys[j]?=some y->Pr j x y H,
  ⟨_,rfl,Nat.zero_le _,Same.upd hD,upd_same,rfl,fun j x y _ h=>by simp at h⟩,?_⟩
 rintro i m ys H ⟨rfl,hi,sm,hDH,yl,pr⟩
 refine ⟨hDH,small1000 (by omega),?_⟩
 by_cases hlt:i < xs.length
 ·refine .inr ⟨Y.go i H sm hlt,fun x H' y => ?_⟩
  obtain ⟨rfl,hx⟩:=Y.yld i H x H' sm hlt y
  refine hs i x H' _ hx sm ⟨_,hDH⟩ fun y H4 s4 py => ?_
  have hD4:=s4 _ _ hDH
  have tk : ∀ b o,b ≠ D->H4 b=some o->upd H4 D (.lst (ys ++ [y])) b=some o:=fun b o nb hb=>by rw [upd_ne nb]; exact hb
  refine ⟨hD4,xs.length - (i+1),by omega,rfl,hlt,fun b o hb => ?_,upd_same,by rw [List.length_append,yl]; rfl,fun j x' y' hx' hy' => ?_⟩
  ·rw [upd_ne (ne_of_none hb hD)]
   exact s4 _ _ (sm _ _ hb)
  ·rcases snoc_get hy' with ⟨_,hy'⟩ | ⟨e,e'⟩
   ·exact hP _ _ _ _ _ (hP _ _ _ _ _ (pr j x' y' hx' hy') fun b o _ hb=>s4 b o hb) tk
   ·subst e'
    have:j=i:=by omega
    subst this
    rw [hx] at hx'
    cases hx'
    exact hP _ _ _ _ _ py tk
 ·have e:i=xs.length:=by omega
  subst e
  exact .inl ⟨Y.stop _ H sm (Nat.le_refl _),hd ys H sm hDH yl pr⟩
end L2
namespace L2
open PySem PySem.Spec PyProof.Rows
theorem comp_nils {J:It}{xs:List V}{D:Addr}{g:TG}{te:TE}{σ0:St}{QD:Hp->Prop}{H1:Hp}(Y:Ys J xs H1)(hD:H1 D=none)(hl:xs.length<=1000)
  (hs : ∀ (i:Nat) x H' (R:VK),xs[i]?=some x->Same H1 H'->(∀ p,H' p=none->R (.ref p) (upd H' p (.lst [])))->g x σ0 H' fun σ2 H2=>Keep σ0 σ2/\te σ2 H2 R)
  (hd : ∀ (as:List Addr) H',Same H1 H'->H' D=some (.lst (as.map V.ref))->as.length=xs.length->as.Nodup->(∀ a ∈ as,a ≠ D/\H1 a=none/\H' a=some (.lst []))->QD H') :
  ∃ W:Nat->Nat->List V->Hp->Prop,(∃ m,W 0 m [] (upd H1 D (.lst [])))/\∀ i m ys H,W i m ys H->H D=some (.lst ys)/\ys.length < sizeLine /\
   ((J.stop i H/\QD H)\/(J.go i H/\∀ x H',J.yld i H x H'->g x σ0 H' fun σ2 H2=>Keep σ0 σ2/\tNoIf σ2 H2 fun b H3 =>
    if b=true then te σ2 H3 fun y H4=>H4 D=some (.lst ys)/\∃ m',m' < m/\W (i+1) m' (ys ++ [y]) (upd H4 D (.lst (ys ++ [y]))) else ∃ m',m' < m/\W (i+1) m' ys H3)):=by
 refine ⟨fun i m ys H=>m=xs.length - i/\i<=xs.length/\Same H1 H/\∃ as:List Addr,ys=as.map V.ref/\H D=some (.lst (as.map V.ref))/\as.length=i/\as.Nodup/\∀ a ∈ as,a ≠ D/\H1 a=none/\H a=some (.lst []),
  ⟨_,rfl,Nat.zero_le _,Same.upd hD,[],rfl,upd_same,rfl,List.nodup_nil,fun a h=>nomatch h⟩,?_⟩
 rintro i m ys H ⟨rfl,hi,sm,as,rfl,hDH,al,nd,pr⟩
 refine ⟨hDH,small1000 (by rw [List.length_map]; omega),?_⟩
 by_cases hlt:i < xs.length
 ·refine .inr ⟨Y.go i H sm hlt,fun x H' y => ?_⟩
  obtain ⟨rfl,hx⟩:=Y.yld i H x H' sm hlt y
  refine hs i x H' _ hx sm fun p hp => ?_
  have pD:p ≠ D:=fun e=>by rw [e,hDH] at hp; cases hp
  have hD4:upd H' p (.lst []) D=some (.lst (as.map V.ref)):=by rw [upd_ne (Ne.symm pD)]; exact hDH
  have p1:H1 p=none:=by
   cases e:H1 p with
   | none=>rfl
   | some o=>rw [sm _ _ e] at hp; cases hp
  refine ⟨hD4,xs.length - (i+1),by omega,rfl,hlt,fun b o hb => ?_,as ++ [p],by simp,?_,by rw [List.length_append,al]; rfl,?_,fun a ha => ?_⟩
  ·rw [upd_ne (ne_of_none hb hD),upd_ne (ne_of_none hb p1)]
   exact sm _ _ hb
  ·rw [upd_same,List.map_append]; rfl
  ·refine List.nodup_append.mpr ⟨nd,List.nodup_cons.mpr ⟨by simp,List.nodup_nil⟩,fun a ha b hb e => ?_⟩
   rw [e,List.mem_singleton.mp hb] at ha
   rw [(pr p ha).2.2] at hp
   cases hp
  ·rcases List.mem_append.mp ha with h | h
   ·obtain ⟨a1,a2,a3⟩:=pr a h
    refine ⟨a1,a2,?_⟩
    rw [upd_ne a1,upd_ne (fun e=>by rw [e,hp] at a3; cases a3)]
    exact a3
   ·rw [List.mem_singleton.mp h]
    refine ⟨pD,p1,?_⟩
    rw [upd_ne pD]
    exact upd_same
 ·have e:i=xs.length:=by omega
  subst e
  exact .inl ⟨Y.stop _ H sm (Nat.le_refl _),hd as H sm hDH al nd pr⟩
def tOrT (K:PySem.W.Frag)(ta tb:TE):TE:=fun σ H Q=>ta σ H fun x H1=>∃ k,TruV K x H1 k/\if k=true then Q x H1 else tb σ H1 Q
theorem pe_orT {X:Cx}{a b:Expr}{rest:List Expr}{pos:Pos}{ta tb:TE}(ha:PE X a ta)(hb:PE X (.BoolOp .Or (b :: rest) pos) tb):PE X (.BoolOp .Or (a :: b :: rest) pos) (tOrT X.K ta tb):=by
 intro pins s σ H Q I h
 refine BoolOp_or (thn (ha pins s σ H _ I h) fun v s1 ⟨x,H1,I1,r1,q1⟩ => ?_)
 obtain ⟨k,tv,q1⟩:=q1
 refine thn (tru_ok pins s1 σ H1 x v (fun c H2=>if c=true then Q x H2 else tb σ H2 Q) I1 r1 ⟨k,tv,q1⟩) fun c s2 ⟨H2,I2,q2⟩ => ?_
 cases c with
 | false=>exact hb pins s2 σ H2 Q I2 q2
 | true=>exact ⟨x,H2,I2,r1,q2⟩
end L2
namespace K17
open PySem PySem.Spec PyProof.Rows L2 GM TM
open BQ TR
theorem clOk_plain {X:Cx}{scope:Scope}(h : ∀ y ∈ scope.names,y.2 = .local\/y.2 = .globalImplicit):ClOk X scope []:=by
 refine ⟨closureFor_none fun x hx z => ?_,fun x c e=>by simp at e,fun x e => ?_⟩
 ·rcases h x hx with q | q <;> rw [q] at z <;> cases z
 ·exfalso
  have e' : ∃ k,(k=NameKind.cell\/k=NameKind.free)/\(relabel scope X.env).names.lookup x=some k:=by
   rcases e with e | e
   ·exact ⟨_,.inl rfl,e⟩
   ·exact ⟨_,.inr rfl,e⟩
  obtain ⟨k,hk,e⟩:=e'
  have hm:=PySem.mem_of_lookup e
  obtain ⟨y,hy,hy2⟩:=List.mem_map.mp hm
  have hl:=h y hy
  obtain ⟨n,kk⟩:=y
  simp only at hl
  rcases hl with hl | hl <;> subst hl <;> simp at hy2 <;> rcases hk with rfl | rfl <;> exact absurd hy2.2 (by decide)
theorem list_eq {α:Type}{ys l:List α}(hl:ys.length=l.length)(h : ∀ (i:Nat) x y,l[i]?=some x->ys[i]?=some y->y=x):ys=l:=by
 refine List.ext_getElem? fun i => ?_
 by_cases hi:i < l.length
 ·have e1:=List.getElem?_eq_getElem hi
  have e2:ys[i]?=some (ys[i]'(by omega)):=List.getElem?_eq_getElem (by omega)
  rw [e1,e2,h i _ _ e1 e2]
 ·rw [List.getElem?_eq_none (by omega),List.getElem?_eq_none (by omega)]
end K17
namespace L2
open PySem PySem.Spec PyProof.Rows
section
variable {D:Ends}{σ:L2.St}{H:Hp}
end
end L2
namespace K17
open PySem PySem.Spec PyProof.Rows L2 GM TM
structure Tw (K:PySem.W.Frag)(H:Hp)(p q:Addr)(t1 b1 t2 b2:Int):Prop where
 sp:SqT K H p [.int t1,.int b1]
 sq:SqT K H q [.int t2,.int b2]
 a1:Amt t1 b1
 a2:Amt t2 b2
 st1:Bt 4000 t1
 sb1:Bt 4000 b1
 st2:Bt 4000 t2
 sb2:Bt 4000 b2
def spTimes (K:PySem.W.Frag):Sp:=fun vs H Q _=>∃ (p q:Addr) (t1 b1 t2 b2:Int),vs=[.ref p,.ref q]/\Tw K H p q t1 b1 t2 b2 /\
 RetT H Q [(t1*t2) / G (t1*t2) (b1*b2),(b1*b2) / G (t1*t2) (b1*b2)]
def spOver (K:PySem.W.Frag):Sp:=fun vs H Q _=>∃ (p q:Addr) (t1 b1 t2 b2:Int),vs=[.ref p,.ref q]/\Tw K H p q t1 b1 t2 b2/\1<=t2 /\
 RetT H Q [(t1*b2) / G (t1*b2) (b1*t2),(b1*t2) / G (t1*b2) (b1*t2)]
def spLess (K:PySem.W.Frag):Sp:=fun vs H Q _=>∃ (p q:Addr) (t1 b1 t2 b2:Int),vs=[.ref p,.ref q]/\Tw K H p q t1 b1 t2 b2/\Q (.bl (decide (t1*b2 < t2*b1))) H
def spMinus (K:PySem.W.Frag):Sp:=fun vs H Q _=>∃ (p q:Addr) (t1 b1 t2 b2:Int),vs=[.ref p,.ref q]/\Tw K H p q t1 b1 t2 b2/\t2*b1<=t1*b2 /\
 RetT H Q [(t1*b2 - t2*b1) / G (t1*b2 - t2*b1) (b1*b2),(b1*b2) / G (t1*b2 - t2*b1) (b1*b2)]
def spPlus (K:PySem.W.Frag):Sp:=fun vs H Q _=>∃ (p q:Addr) (t1 b1 t2 b2:Int),vs=[.ref p,.ref q]/\Tw K H p q t1 b1 t2 b2 /\
 ∀ r H',Same H H'->SqT K H' r [.int ((t1*b2+t2*b1) / G (t1*b2+t2*b1) (b1*b2)),.int ((b1*b2) / G (t1*b2+t2*b1) (b1*b2))]->Q (.ref r) H'
section
variable {P:Program}{w:World}{K:PySem.W.Frag}{mg:Str->Option Value}{base:Heap}
theorem mul1 {a b:Int}(ha:1<=a)(hb:1<=b):1<=a*b:=by
 have:=Int.mul_le_mul ha hb (by decide) (by omega)
 omega
theorem scTimes:FnScope ["one","other"] ["one","other"] (defScope sTimes):=⟨rfl,rfl,rfl,by decide +kernel,rfl,by decide +kernel,by decide +kernel⟩
theorem ok_times {f:Addr}{fd:FuncData}(F:Fun K "times" "times" sTimes f fd)(cL:Cal P w K mg base CX0 2 "lowest_terms" ["top","bottom"] spLow):FnOk P w K mg base CX0 3 f fd ["one","other"] (spTimes K):=by
 refine F.ok scTimes (fun vs H Q E h => ?_) (fun cdv A outer s H vs Q E hr h => ?_)
 ·obtain ⟨_,_,_,_,_,_,rfl,_⟩:=h
  rfl
 ·obtain ⟨p,q,t1,b1,t2,b2,rfl,T,k⟩:=h
  refine ⟨_,pss_one (ps_ret (pe_cal cL hr rfl pass0 (pa_cons (pe_op op_mulB (pit 0 0) (pit 1 0)) (pa_cons (pe_op op_mulB (pit 0 1) (pit 1 1)) pa_nil)))),?_⟩
  refine ⟨p,_,_,rfl,T.sp,rfl,q,_,_,rfl,T.sq,rfl,_,_,rfl,rfl,⟨b6 T.st1,b6 T.st2⟩,?_⟩
  exact ⟨p,_,_,rfl,T.sp,rfl,q,_,_,rfl,T.sq,rfl,_,_,rfl,rfl,⟨b6 T.sb1,b6 T.sb2⟩,_,_,rfl,Int.mul_nonneg T.a1.t0 T.a2.t0,mul1 T.a1.b1 T.a2.b1,(T.sb1.mul T.sb2).mono (by decide),k⟩
theorem scOver:FnScope ["one","other"] ["one","other"] (defScope sOver):=⟨rfl,rfl,rfl,by decide +kernel,rfl,by decide +kernel,by decide +kernel⟩
theorem ok_over {f aN:Addr}{fd:FuncData}(F:Fun K "over" "over" sOver f fd)(mN:mg "NOUGHT" = some (.ref aN))(sN : ∀ H:Hp,SqT K H aN [.int 0,.int 1])(cL:Cal P w K mg base CX0 2 "lowest_terms" ["top","bottom"] spLow):FnOk P w K mg base CX0 3 f fd ["one","other"] (spOver K):=by
 refine F.ok scOver (fun vs H Q E h => ?_) (fun cdv A outer s H vs Q E hr h => ?_)
 ·obtain ⟨_,_,_,_,_,_,rfl,_⟩:=h
  rfl
 ·obtain ⟨p,q,t1,b1,t2,b2,rfl,T,h1,k⟩:=h
  refine ⟨_,pss_cons (ps_if (pt_cmpR (op_eqI hr.units) (pv 1) (pe_glob (v:=.ref aN) rfl mN rfl) (nomark _)) (pss_one ps_never) pss_nil)
   (pss_one (ps_ret (pe_cal cL hr rfl pass0 (pa_cons (pe_op op_mulB (pit 0 0) (pit 1 1)) (pa_cons (pe_op op_mulB (pit 0 1) (pit 1 0)) pa_nil))))),?_⟩
  refine ⟨_,rfl,q,aN,[t2,b2],[0,1],rfl,rfl,T.sq,sN H,_,rfl,?_⟩
  rw [decide_eq_false (fun e=>by injection e with e1 e; omega)]
  refine iteF ⟨p,_,_,rfl,T.sp,rfl,q,_,_,rfl,T.sq,rfl,_,_,rfl,rfl,⟨b6 T.st1,b6 T.sb2⟩,?_⟩
  exact ⟨p,_,_,rfl,T.sp,rfl,q,_,_,rfl,T.sq,rfl,_,_,rfl,rfl,⟨b6 T.sb1,b6 T.st2⟩,_,_,rfl,Int.mul_nonneg T.a1.t0 (by have:=T.a2.b1; omega),mul1 T.a1.b1 h1,(T.sb1.mul T.st2).mono (by decide),k⟩
theorem scLess:FnScope ["one","other"] ["one","other"] (defScope sLess):=⟨rfl,rfl,rfl,by decide +kernel,rfl,by decide +kernel,by decide +kernel⟩
theorem ok_less {f:Addr}{fd:FuncData}(F:Fun K "less" "less" sLess f fd):FnOk P w K mg base CX0 1 f fd ["one","other"] (spLess K):=by
 refine F.ok scLess (fun vs H Q E h => ?_) (fun cdv A outer s H vs Q E hr h => ?_)
 ·obtain ⟨_,_,_,_,_,_,rfl,_⟩:=h
  rfl
 ·obtain ⟨p,q,t1,b1,t2,b2,rfl,T,k⟩:=h
  refine ⟨_,pss_one (ps_ret (pe_cmpR op_lt (pe_op op_mulB (pit 0 0) (pit 1 1)) (pe_op op_mulB (pit 1 0) (pit 0 1)) (nomark _))),?_⟩
  refine ⟨p,_,_,rfl,T.sp,rfl,q,_,_,rfl,T.sq,rfl,_,_,rfl,rfl,⟨b6 T.st1,b6 T.sb2⟩,q,_,_,rfl,T.sq,rfl,p,_,_,rfl,T.sp,rfl,_,_,rfl,rfl,⟨b6 T.st2,b6 T.sb1⟩,_,_,rfl,rfl,k⟩
theorem scMinus:FnScope ["one","other"] ["one","other"] (defScope sMinus):=⟨rfl,rfl,rfl,by decide +kernel,rfl,by decide +kernel,by decide +kernel⟩
theorem ok_minus {f:Addr}{fd:FuncData}(F:Fun K "minus" "minus" sMinus f fd)(cE:Cal P w K mg base CX0 2 "less" ["one","other"] (spLess K))(cL:Cal P w K mg base CX0 2 "lowest_terms" ["top","bottom"] spLow):FnOk P w K mg base CX0 3 f fd ["one","other"] (spMinus K):=by
 refine F.ok scMinus (fun vs H Q E h => ?_) (fun cdv A outer s H vs Q E hr h => ?_)
 ·obtain ⟨_,_,_,_,_,_,rfl,_⟩:=h
  rfl
 ·obtain ⟨p,q,t1,b1,t2,b2,rfl,T,le,k⟩:=h
  refine ⟨_,pss_cons (ps_if (pt_val (pe_cal cE hr rfl pass0 (pa_cons (pv 0) (pa_cons (pv 1) pa_nil)))) (pss_one ps_never) pss_nil)
   (pss_one (ps_ret (pe_cal cL hr rfl pass0 (pa_cons (pe_op op_sub (pe_op op_mulB (pit 0 0) (pit 1 1)) (pe_op op_mulB (pit 1 0) (pit 0 1))) (pa_cons (pe_op op_mulB (pit 0 1) (pit 1 1)) pa_nil))))),?_⟩
  refine ⟨_,rfl,_,rfl,p,q,t1,b1,t2,b2,rfl,T,_,rfl,?_⟩
  rw [decide_eq_false (by omega)]
  refine iteF ⟨p,_,_,rfl,T.sp,rfl,q,_,_,rfl,T.sq,rfl,_,_,rfl,rfl,⟨b6 T.st1,b6 T.sb2⟩,q,_,_,rfl,T.sq,rfl,p,_,_,rfl,T.sp,rfl,_,_,rfl,rfl,⟨b6 T.st2,b6 T.sb1⟩,_,_,rfl,rfl,?_⟩
  exact ⟨p,_,_,rfl,T.sp,rfl,q,_,_,rfl,T.sq,rfl,_,_,rfl,rfl,⟨b6 T.sb1,b6 T.sb2⟩,_,_,rfl,by omega,mul1 T.a1.b1 T.a2.b1,(T.sb1.mul T.sb2).mono (by decide),k⟩
theorem scPlus:FnScope ["one","other"] ["one","other"] (defScope sPlus):=⟨rfl,rfl,rfl,by decide +kernel,rfl,by decide +kernel,by decide +kernel⟩
theorem ok_plus {f aN:Addr}{fd:FuncData}(F:Fun K "plus" "plus" sPlus f fd)(mN:mg "NOUGHT" = some (.ref aN))(sN : ∀ H:Hp,SqT K H aN [.int 0,.int 1])(cL:Cal P w K mg base CX0 2 "lowest_terms" ["top","bottom"] spLow):FnOk P w K mg base CX0 3 f fd ["one","other"] (spPlus K):=by
 refine F.ok scPlus (fun vs H Q E h => ?_) (fun cdv A outer s H vs Q E hr h => ?_)
 ·obtain ⟨_,_,_,_,_,_,rfl,_⟩:=h
  rfl
 ·obtain ⟨p,q,t1,b1,t2,b2,rfl,T,k⟩:=h
  refine ⟨_,pss_cons (ps_if (pt_cmpR (op_eqI hr.units) (pv 0) (pe_glob (v:=.ref aN) rfl mN rfl) (nomark _)) (pss_one (ps_ret (pv 1))) pss_nil)
   (pss_one (ps_ret (pe_cal cL hr rfl pass0 (pa_cons (pe_op op_add (pe_op op_mulB (pit 0 0) (pit 1 1)) (pe_op op_mulB (pit 1 0) (pit 0 1))) (pa_cons (pe_op op_mulB (pit 0 1) (pit 1 1)) pa_nil))))),?_⟩
  have bs1:=mul1 T.a1.b1 T.a2.b1
  have hs:=T.sq
  have m1:=Int.mul_nonneg T.a1.t0 (show 0<=b2 by have:=T.a2.b1; omega)
  have m2:=Int.mul_nonneg T.a2.t0 (show 0<=b1 by have:=T.a1.b1; omega)
  have a0:=T.a2.t0
  have a1:=T.a2.b1
  refine ⟨_,rfl,p,aN,[t1,b1],[0,1],rfl,rfl,T.sp,sN H,_,rfl,ite2 (fun hc => ?_) (fun _ => ?_)⟩
  ·have e:=of_decide_eq_true hc
   injection e with e1 e
   injection e with e2 e
   subst e1 e2
   refine ⟨_,rfl,?_⟩
   have u:=low_unique (t:=0*b2+t2*1) (b:=1*b2) (by omega) (by omega) T.a2 (by rw [Int.zero_mul,Int.zero_add,Int.one_mul,Int.mul_one])
   rw [u.1,u.2] at k
   exact k q H (Same.refl H) T.sq
  ·refine ⟨p,_,_,rfl,T.sp,rfl,q,_,_,rfl,hs,rfl,_,_,rfl,rfl,⟨b6 T.st1,b6 T.sb2⟩,q,_,_,rfl,hs,rfl,p,_,_,rfl,T.sp,rfl,_,_,rfl,rfl,⟨b6 T.st2,b6 T.sb1⟩,_,_,rfl,rfl,?_⟩
   exact ⟨p,_,_,rfl,T.sp,rfl,q,_,_,rfl,hs,rfl,_,_,rfl,rfl,⟨b6 T.sb1,b6 T.sb2⟩,_,_,rfl,by omega,bs1,(T.sb1.mul T.sb2).mono (by decide),fun r H2 s2 h2=>k r H2 s2 (SqT.of h2)⟩
end
end K17
namespace L2
open PySem PySem.Spec PyProof.Rows
def Itv (K:PySem.W.Frag)(a:Addr)(n:Nat):It :=
 ⟨fun i H=>∃ xs,SqL K H a xs/\xs.length=n/\i < n,fun i H x H'=>H'=H/\∀ xs,SqL K H a xs->xs[n - 1 - i]?=some x,fun i H=>n<=i⟩
def iRevL (K:PySem.W.Frag)(ta:TA):TI:=fun σ H R=>ta σ H fun vs H1=>∃ a xs,vs=[.ref a]/\SqL K H1 a xs/\R (Itv K a xs.length) H1
end L2
namespace L2
open PySem PySem.Spec PyProof.Rows
end L2
namespace L2
open PySem PySem.Spec PyProof.Rows
end L2
namespace L2
open PySem PySem.Spec PyProof.Rows PySem.W
structure Cal1 (P:Program)(w:World)(K:Frag)(mg:Str->Option Value)(base:Heap)(CX:CXT)(k:Nat)(x:Str)(ps:List Str)(sp:Sp)(dv:V):Prop where
 ex : ∃ (f:Addr) (fd:FuncData) (u:Value),mg x=some (.ref f)/\keepIn K (.ref f)=true/\Binds K fd ps [u]/\RelV dv u/\FnOk P w K mg base CX k f fd ps sp
end L2
namespace L2
open PySem PySem.Spec PyProof.Rows
theorem for_listN {K:PySem.W.Frag}{a:Addr}{xs:List V}{g:TG}{tb:TS}{D:Ends}{σ:St}{H:Hp}(Pv:Nat->St->Hp->Prop)(h0:Pv 0 σ H)(hl : ∀ i σ H,i<=xs.length->Pv i σ H->SqL K H a xs)
  (hs : ∀ i x σ H (D':Ends),(∀ σ' H',Pv (i+1) σ' H'->D'.nx σ' H')->xs[i]?=some x->Pv i σ H->g x σ H (tb D')) (hd : ∀ σ H,Pv xs.length σ H->D.nx σ H) :
  ∃ W:Nat->Nat->St->Hp->Prop,(∃ m,W 0 m σ H)/\∀ i m σ H,W i m σ H ->
   ((Itl K a).stop i H/\D.nx σ H)\/((Itl K a).go i H/\∃ N:St->Hp->Prop,(∀ σ' H',N σ' H'->∃ m',m' < m/\W (i+1) m' σ' H')/\∀ x H',(Itl K a).yld i H x H'->g x σ H' fun σ2 H2=>tb { D with nx:=N,ct:=N,bk:=D.nx } σ2 H2) :=
 for_list Pv h0 hl (fun i x σ H hx p=>hs i x σ H { D with nx:=Pv (i+1),ct:=Pv (i+1),bk:=D.nx } (fun _ _ h=>h) hx p) hd
theorem for_tupN {K:PySem.W.Frag}{a:Addr}{xs:List V}{g:TG}{tb:TS}{D:Ends}{σ:St}{H:Hp}(Pv:Nat->St->Hp->Prop)(h0:Pv 0 σ H)(hl : ∀ i σ H,i<=xs.length->Pv i σ H->SqT K H a xs)
  (hs : ∀ i x σ H (D':Ends),(∀ σ' H',Pv (i+1) σ' H'->D'.nx σ' H')->xs[i]?=some x->Pv i σ H->g x σ H (tb D')) (hd : ∀ σ H,Pv xs.length σ H->D.nx σ H) :
  ∃ W:Nat->Nat->St->Hp->Prop,(∃ m,W 0 m σ H)/\∀ i m σ H,W i m σ H ->
   ((Itt K a).stop i H/\D.nx σ H)\/((Itt K a).go i H/\∃ N:St->Hp->Prop,(∀ σ' H',N σ' H'->∃ m',m' < m/\W (i+1) m' σ' H')/\∀ x H',(Itt K a).yld i H x H'->g x σ H' fun σ2 H2=>tb { D with nx:=N,ct:=N,bk:=D.nx } σ2 H2) :=
 for_tup Pv h0 hl (fun i x σ H hx p=>hs i x σ H { D with nx:=Pv (i+1),ct:=Pv (i+1),bk:=D.nx } (fun _ _ h=>h) hx p) hd
theorem for_rangeN {lo:Int}{n:Nat}{g:TG}{tb:TS}{D:Ends}{σ:St}{H:Hp}(Pv:Nat->St->Hp->Prop)(h0:Pv 0 σ H)
  (hs : ∀ i σ H (D':Ends),(∀ σ' H',Pv (i+1) σ' H'->D'.nx σ' H')->i < n->Pv i σ H->g (.int (lo+i)) σ H (tb D')) (hd : ∀ σ H,Pv n σ H->D.nx σ H) :
  ∃ W:Nat->Nat->St->Hp->Prop,(∃ m,W 0 m σ H)/\∀ i m σ H,W i m σ H ->
   ((Itr lo n).stop i H/\D.nx σ H)\/((Itr lo n).go i H/\∃ N:St->Hp->Prop,(∀ σ' H',N σ' H'->∃ m',m' < m/\W (i+1) m' σ' H')/\∀ x H',(Itr lo n).yld i H x H'->g x σ H' fun σ2 H2=>tb { D with nx:=N,ct:=N,bk:=D.nx } σ2 H2) :=
 for_range Pv h0 (fun i σ H hi p=>hs i σ H { D with nx:=Pv (i+1),ct:=Pv (i+1),bk:=D.nx } (fun _ _ h=>h) hi p) hd
theorem for_dictN {d:Addr}{ob:Obj}{kvs:List (Key × V)}{g:TG}{tb:TS}{D:Ends}{σ:St}{H:Hp}(Pv:Nat->St->Hp->Prop)(h0:Pv 0 σ H)(hl : ∀ i σ H,i<=kvs.length->Pv i σ H->H d=some (.frz ob (.dK kvs)))
  (hs : ∀ i kv σ H (D':Ends),(∀ σ' H',Pv (i+1) σ' H'->D'.nx σ' H')->kvs[i]?=some kv->Pv i σ H->g (kV kv.1) σ H (tb D')) (hd : ∀ σ H,Pv kvs.length σ H->D.nx σ H) :
  ∃ W:Nat->Nat->St->Hp->Prop,(∃ m,W 0 m σ H)/\∀ i m σ H,W i m σ H ->
   ((Itd d ob kvs).stop i H/\D.nx σ H)\/((Itd d ob kvs).go i H/\∃ N:St->Hp->Prop,(∀ σ' H',N σ' H'->∃ m',m' < m/\W (i+1) m' σ' H')/\∀ v H',(Itd d ob kvs).yld i H v H'->g v σ H' fun σ2 H2=>tb { D with nx:=N,ct:=N,bk:=D.nx } σ2 H2) :=
 for_dict Pv h0 hl (fun i x σ H hx p=>hs i x σ H { D with nx:=Pv (i+1),ct:=Pv (i+1),bk:=D.nx } (fun _ _ h=>h) hx p) hd
end L2
namespace K17
open PySem PySem.Spec PyProof.Rows L2 GM TM BQ TR
theorem sm_none' {H H1:Hp}{p:Addr}(h:Same H H1)(n:H1 p=none):H p=none:=by
 cases e:H p with
 | none=>rfl
 | some o=>rw [h _ _ e] at n; cases n
theorem sm_own' {H H1:Hp}{p:Addr}{o:HO}(h:Same H H1)(n:H p=none):Same H (upd H1 p o):=fun b u e=>by
 have ne:b ≠ p:=fun z=>by rw [z,n] at e; cases e
 rw [upd_ne ne]
 exact h b u e
theorem sb_none {a b:Addr}{H H':Hp}(s:SmB a H H')(h:H' b=none)(ne:b ≠ a):H b=none:=by
 cases e:H b with
 | none=>rfl
 | some o=>rw [s _ _ ne e] at h; cases h
theorem lf_tk {a:Addr}{H H':Hp}(s:SmB a H H')(l:Lf H a):Tk H H':=by
 obtain ⟨n,fl,e,_⟩:=l
 exact Bx.tk s e
theorem bt31 {x:Int}(h0:0<=x)(h:x<=1000000000):Bt 31 x:=bt_of 31 (c:=1000000001) h0 (by omega)
theorem bl9 {n:Nat}{x:Int}(h:Bt n x)(hn:n<=9000:=by decide):Bt 9000 x:=h.mono hn
theorem b16 {m:Int}(h1:1<=m)(h2:m < 16):Bt 9000 m:=bl9 (bt_of 4 (c:=16) (by omega) h2)
theorem pick91 (k:Bool):atI [V.int 9,V.int 1000] (if k=true then 1 else 0)=some (V.int (if k=true then 1000 else 9)):=by cases k <;> rfl
theorem pick91b (k:Bool):1<=(if k=true then (1000:Int) else 9)/\(if k=true then (1000:Int) else 9)<=1000:=by cases k <;> decide
def NmV (H:Hp)(l:Addr)(ws:List Str):Prop:=H l=some (.lst (ws.map V.str))/\1<=ws.length/\ws.length<=30
def spLam:Sp:=fun vs H Q _=>∃ a,vs=[.ref a]/\Lf H a/\∀ (q:BQ.Q) p H',SmR q->SmB a H H'->Lf H' a->AmV H' p q->Q (.ref p) H'
def spLparts:Sp:=fun vs H Q _=>∃ (a al:Addr) (ws:List Str),vs=[.ref a,.ref al]/\Lf H a/\NmV H al ws/\al ≠ a/\∀ p q ps H',ROL (0,1) (.parts q ps)->(∀ x ∈ ps,x.2 ∈ ws)->SmB a H H'->Lf H' a->RowV H' (.ref p) (.parts q ps)->Q (.ref p) H'
def spFilled:Sp:=fun vs H Q _=>∃ (a m:Addr) (x:Str) (l:BQ.Q),vs=[.ref a,.str x,.ref m]/\Lf H a/\AmV H m l/\BQ.Am l/\Bt 400 l.1/\Bt 400 l.2/\∀ p r H',ROL l r->thg r=[x]->SmB a H H'->Lf H' a->RowV H' (.ref p) r->Q (.ref p) H'
def spLrow:Sp:=fun vs H Q _=>∃ (a al m:Addr) (ws:List Str) (l:BQ.Q),vs=[.ref a,.ref al,.ref m]/\Lf H a/\NmV H al ws/\al ≠ a/\AmV H m l/\BQ.Am l/\Bt 400 l.1/\Bt 400 l.2/\∀ p r H',ROL l r->(∀ y ∈ thg r,y ∈ ws)->SmB a H H'->Lf H' a->RowV H' (.ref p) r->Q (.ref p) H'
def spBehind:Sp:=fun vs H Q _=>∃ (m:Addr) (v:V) (l:BQ.Q) (r:Rw),vs=[.ref m,v]/\AmV H m l/\BQ.Am l/\Bt 400 l.1/\Bt 400 l.2/\RowV H v r/\ROL l r/\∀ p H',Same H H'->AmV H' p (bhd l r)->Q (.ref p) H'
section
variable {P:Program}{w:World}{K:PySem.W.Frag}{mg:Str->Option Value}{base:Heap}
theorem scLam:FnScope ["_law_left_here","_law_top"] ["_law_left_here"] (defScope sLam):=⟨rfl,rfl,rfl,by decide +kernel,rfl,by decide +kernel,by decide +kernel⟩
theorem ok_lam {f:Addr}{fd:FuncData}(F:Fun K "_law_amount" "_law_amount" sLam f fd)(cN:Cal P w K mg base CX0 2 "_law_next" ["_law_left_here","_law_many"] spNext)(cL:Cal P w K mg base CX0 2 "_law_low" ["_law_top","_law_bottom"] spLow):FnOk P w K mg base CX0 3 f fd ["_law_left_here"] spLam:=by
 refine F.ok scLam (fun vs H Q E h => ?_) (fun cdv A outer s H vs Q E hr h => ?_)
 ·obtain ⟨_,rfl,_⟩:=h
  rfl
 ·obtain ⟨a,rfl,lf,k⟩:=h
  refine ⟨_,(pss_cons (ps_if (pt_cmpR op_eq (pe_cal cN hr rfl pass0 (pa_cons (pv 0) (pa_cons pe_int pa_nil))) pe_int (nomark _))
    (pss_cons (ps_set (i:=1) scLam.nd rfl (Or.inl rfl) (pe_op op_add pe_int (pe_cal cN hr rfl pass0 (pa_cons (pv 0) (pa_cons pe_int pa_nil)))))
   (pss_one (ps_ret (pe_cal cL hr rfl pass0 (pa_cons (pv 1) (pa_cons (pe_op op_add pe_int (pe_cal cN hr rfl pass0 (pa_cons (pv 0) (pa_cons pe_int pa_nil)))) pa_nil))))))
    pss_nil)
   (pss_cons (ps_set (i:=1) scLam.nd rfl (Or.inl rfl) (pe_op op_add pe_int (pe_cal cN hr rfl pass0 (pa_cons (pv 0) (pa_cons pe_int pa_nil)))))
   (pss_one (ps_ret (pe_cal cL hr rfl pass0 (pa_cons (pv 1) (pa_cons (pe_op op_add pe_int (pe_cal cN hr rfl pass0 (pa_cons (pv 0) (pa_cons pe_int pa_nil)))) pa_nil))))))),?_⟩
  have fin : ∀ (T B:Int) (H1:Hp),1<=T->1<=B->T<=999999999->B<=999999999->SmB a H H1->Lf H1 a->spLow [.int T,.int B] H1 Q E0:=fun T B H1 T1 B1 bT bB sb lf1=>by
   refine ⟨T,B,rfl,by omega,B1,bl9 (bt31 (by omega) (by omega)),fun p H2 s2 hp => ?_⟩
   exact k (lw T B) p H2 (lw_smr T1 B1 bT bB) (sb.trans (SmB.of s2)) (lf1.keep s2) hp
  refine ⟨_,rfl,a,6,rfl,lf,by decide,b16 (by decide) (by decide),fun d H1 d0 dl s1 lf1=>⟨rfl,_,rfl,ite2 (fun _ => ?_) (fun _ => ?_)⟩⟩
  ·refine ⟨_,rfl,a,999999999,rfl,lf1,by decide,bl9 (bt31 (by decide) (by decide)),fun d2 H2 d20 d2l s2 lf2=>⟨_,_,rfl,rfl,?_⟩⟩
   refine ⟨_,rfl,_,rfl,a,999999999,rfl,lf2,by decide,bl9 (bt31 (by decide) (by decide)),fun d3 H3 d30 d3l s3 lf3=>⟨_,_,rfl,rfl,?_⟩⟩
   exact fin _ _ H3 (by omega) (by omega) (by omega) (by omega) ((s1.trans s2).trans s3) lf3
  ·refine ⟨_,rfl,a,12,rfl,lf1,by decide,b16 (by decide) (by decide),fun d2 H2 d20 d2l s2 lf2=>⟨_,_,rfl,rfl,?_⟩⟩
   refine ⟨_,rfl,_,rfl,a,12,rfl,lf2,by decide,b16 (by decide) (by decide),fun d3 H3 d30 d3l s3 lf3=>⟨_,_,rfl,rfl,?_⟩⟩
   exact fin _ _ H3 (by omega) (by omega) (by omega) (by omega) ((s1.trans s2).trans s3) lf3
theorem scLparts:FnScope ["_law_left_here","_law_allowed","_law_pairs","_law_k","_law_most","_law_many"] ["_law_left_here","_law_allowed"] (defScope sLparts):=⟨rfl,rfl,rfl,by decide +kernel,rfl,by decide +kernel,by decide +kernel⟩
theorem ok_lparts {f:Addr}{fd:FuncData}(F:Fun K "_law_parts" "_law_parts" sLparts f fd)(T:Txt mg)(cN:Cal P w K mg base CX0 3 "_law_next" ["_law_left_here","_law_many"] spNext)(cA:Cal P w K mg base CX0 3 "_law_amount" ["_law_left_here"] spLam):FnOk P w K mg base CX0 4 f fd ["_law_left_here","_law_allowed"] spLparts:=by
 refine F.ok scLparts (fun vs H Q E h => ?_) (fun cdv A outer s H vs Q E hr h => ?_)
 ·obtain ⟨_,_,_,rfl,_⟩:=h
  rfl
 ·obtain ⟨a,al,ws,rfl,lf,⟨hal,w1,w20⟩,ala,k⟩:=h
  refine ⟨_,(pss_cons (ps_set (i:=2) scLparts.nd rfl (Or.inl rfl) (pe_lst pa_nil))
   (pss_cons (ps_for PassesOwn.never rfl (pi_range1 rfl T.range (pa_cons (pe_op op_add pe_int (pe_cal cN hr rfl pass0 (pa_cons (pv 0) (pa_cons pe_int pa_nil)))) pa_nil)) (pg_name (i:=3) scLparts.nd rfl (Or.inl rfl))
    (pss_cons (ps_set (i:=4) scLparts.nd rfl (Or.inl rfl) (pe_ix ix_list (pe_lst (pa_cons pe_int (pa_cons pe_int pa_nil))) (pe_callTy call_int1 rfl T.int' bt_int (pa_cons (pe_cmpR op_eq (pe_cal cN hr rfl pass0 (pa_cons (pv 0) (pa_cons pe_int pa_nil))) pe_int (nomark _)) pa_nil)) (fun _ _=>rfl)))
   (pss_cons (ps_set (i:=5) scLparts.nd rfl (Or.inl rfl) (pe_op op_add pe_int (pe_cal cN hr rfl pass0 (pa_cons (pv 0) (pa_cons (pv 4) pa_nil)))))
   (pss_one (ps_expr (pe_bm PySem.F.plainAttrs_list PySem.F.slot_list_append PySem.F.type_list_append mt_append (pv 2) (pa_cons (pe_tup (pa_cons (pv 5) (pa_cons (pe_ix ix_list (pv 1) (pe_cal cN hr rfl pass0 (pa_cons (pv 0) (pa_cons (pe_callB call_len_seq rfl T.len PySem.boot_len (pa_cons (pv 1) pa_nil)) pa_nil))) (fun _ _=>rfl)) pa_nil))) pa_nil)))))))
   (pss_one (ps_ret (pe_tup (pa_cons pe_str (pa_cons (pe_cal cA hr rfl pass0 (pa_cons (pv 0) pa_nil)) (pa_cons (pe_callTy call_tuple_of rfl T.tup' bt_tuple (pa_cons (pv 2) pa_nil)) pa_nil)))))))),?_⟩
  refine ⟨(by show 0<=sizeLine; decide),fun Pl nP => ?_⟩
  have Pa:Pl ≠ a:=lf.there nP
  have sP:SmB a H (upd H Pl (.lst [])):=SmB.refl.own nP
  refine ⟨_,rfl,a,4,rfl,lf.own Pa,by decide,b16 (by decide) (by decide),fun d H1 d0 dl s1 lf1=>⟨_,_,rfl,rfl,_,rfl,by omega,by omega,?_⟩⟩
  refine for_rangeN (fun i σ H'=>∃ (us:List V) (ps:List (Int × Str)) (v3 v4 v5:Option V),σ=[some (.ref a),some (.ref al),some (.ref Pl),v3,v4,v5]/\SmB a H H'/\Lf H' a/\H' Pl=some (.lst us)/\L2R (PrV H') us ps/\ps.length=i/\(∀ p ∈ ps,1<=p.1/\p.1<=1000)/\∀ p ∈ ps,p.2 ∈ ws)
   ⟨[],[],none,none,none,rfl,sP.trans s1,lf1,s1 _ _ Pa upd_same,L2R.nil,rfl,(fun _ h=>nomatch h),(fun _ h=>nomatch h)⟩ ?_ ?_
  ·intro i σ H2 D' hN hi hh
   obtain ⟨us,ps,v3,v4,v5,rfl,s2,lf2,hP2,hu2,pl,hn,hw⟩:=hh
   refine ⟨(by show 2<=sizeLine; decide),fun z0 nz0 => ?_⟩
   have z0a:z0 ≠ a:=lf2.there nz0
   have sz0:=Same.upd (o:=.lst [.int 9,.int 1000]) nz0
   have lf2':=lf2.keep sz0
   refine ⟨_,rfl,a,5,rfl,lf2',by decide,b16 (by decide) (by decide),fun d1 H2b d10 d1l s2b lf2b=>⟨rfl,.inr ⟨_,rfl,z0,_,_,_,rfl,rfl,SqL.of (s2b _ _ z0a upd_same),pick91 _,?_⟩⟩⟩
   have pk:=pick91b (decide (V.int d1=V.int 1))
   generalize (if decide (V.int d1=V.int 1)=true then (1000:Int) else 9)=mo at pk ⊢
   have s02:=(s2.trans (SmB.of sz0)).trans s2b
   refine ⟨_,rfl,_,rfl,a,mo,rfl,lf2b,pk.1,bl9 (bt_of 10 (c:=1024) (by omega) (by omega)),fun d2 H3 d20 d2l s3 lf3=>⟨_,_,rfl,rfl,?_⟩⟩
   have s03:=s02.trans s3
   have hP3:=s3 _ _ Pa (s2b _ _ Pa (sz0 _ _ hP2))
   have hal3:=s03 _ _ ala hal
   refine ⟨_,rfl,.inl ⟨rfl,_,SqL.of hP3⟩,_,rfl,_,rfl,_,rfl,_,rfl,al,_,rfl,.inl (SqL.of hal3),a,_,rfl,lf3,?_,?_,fun d3 H4 d30 d3l s4 lf4 => ?_⟩
   ·rw [List.length_map]; omega
   ·rw [List.length_map]; exact bl9 (bt_of 8 (c:=256) (by omega) (by omega):Bt 8 ((ws.length:Nat):Int))
   rw [List.length_map] at d3l
   obtain ⟨dn,rfl⟩:=Int.eq_ofNat_of_zero_le d30
   obtain ⟨x,hx⟩ : ∃ x,ws[dn]?=some x:=⟨_,List.getElem?_eq_getElem (by omega)⟩
   have s04:=s03.trans s4
   have hP4:=s4 _ _ Pa hP3
   refine ⟨al,_,(dn:Int),.str x,rfl,rfl,SqL.of (s4 _ _ ala hal3),atI_nat (by rw [List.getElem?_map,hx]; rfl),(by show 2<=sizeLine; decide),fun z nz => ?_⟩
   have za:z ≠ a:=lf4.there nz
   have zP:z ≠ Pl:=fun e=>by rw [e,hP4] at nz; cases nz
   have sz:=Same.upd (o:=.tup [.int (1+d2),.str x]) nz
   have hP5:=sz _ _ hP4
   have ul:=hu2.len
   refine ⟨Pl,_,_,rfl,rfl,hP5,small1000 (by omega),hN _ _ ?_⟩
   have tkP:Tk (upd H4 z (.tup [.int (1+d2),.str x])) (upd (upd H4 z (.tup [.int (1+d2),.str x])) Pl (.lst (us ++ [.ref z]))):=Tk.lst hP5
   have tkA:=((sz0.tk.trans (lf_tk s2b lf2')).trans ((lf_tk s3 lf2b).trans (lf_tk s4 lf3))).trans (sz.tk.trans tkP)
   have nz0':H z=none:=sb_none s04 nz za
   refine ⟨us ++ [.ref z],ps ++ [(1+d2,x)],_,_,_,rfl,(s04.own nz0').own nP,(lf4.own za).own Pa,upd_same,(hu2.imp fun _ _ y=>y.keep tkA).snoc ⟨z,rfl,tkP _ _ upd_same⟩,by rw [List.length_append,pl]; rfl,fun p hp => ?_,fun p hp => ?_⟩
   ·rcases List.mem_append.mp hp with h | h
    ·exact hn p h
    ·rw [List.mem_singleton.mp h]
     exact ⟨by show 1<=1+d2; omega,by show 1+d2<=1000; omega⟩
   ·rcases List.mem_append.mp hp with h | h
    ·exact hw p h
    ·rw [List.mem_singleton.mp h]
     exact List.mem_of_getElem? hx
  ·intro σ H2 hh
   obtain ⟨us,ps,v3,v4,v5,rfl,s2,lf2,hP2,hu2,pl,hn,hw⟩:=hh
   refine ⟨_,rfl,a,rfl,lf2,fun q m H3 sq s3 lf3 hm => ?_⟩
   have hP3:=s3 _ _ Pa hP2
   have tk3:=lf_tk s3 lf2
   refine ⟨_,rfl,Pl,us,rfl,.inl ⟨SqL.of hP3,fun t nt => ?_⟩⟩
   have ta:t ≠ a:=lf3.there nt
   have st:=Same.upd (o:=.tup us) nt
   refine ⟨(by show 3<=sizeLine; decide),fun r nr => ?_⟩
   have sr:=Same.upd (o:=.tup [.str "parts",.ref m,.ref t]) nr
   have str':=st.trans sr
   refine k r q ps _ ⟨sq,by omega,by omega,hn⟩ hw ((s2.trans s3).trans (SmB.of str')) (lf3.keep str') ?_
   exact .parts upd_same (str' _ _ hm) (sr _ _ upd_same) (hu2.imp fun _ _ y=>y.keep (tk3.trans str'.tk))
end
end K17
namespace BQ
open PySem PySem.Spec PyProof.Rows L2 GM
theorem fo_bt : ∀ {ss:List Q} {l:Q} {n:Nat},Am l->Bt n l.1->Bt n l.2->(∀ s ∈ ss,Am s/\Bt 400 s.1/\Bt 400 s.2)->Bt (n+401*ss.length) (fo l ss).1/\Bt (n+401*ss.length) (fo l ss).2
 | [],l,n,_,h1,h2,_=>⟨h1,h2⟩
 | s :: r,l,n,al,h1,h2,hs=>by
  obtain ⟨am,b1,b2⟩:=hs s (List.mem_cons_self ..)
  have a1:Bt (n+401) (l.1*s.2+s.1*l.2):=((h1.mul b2).add ((b1.mul h2).mono (by omega))).mono (by omega)
  have a2:Bt (n+401) (l.2*s.2):=(h2.mul b2).mono (by omega)
  have w:=lw_bt (al.num am) (al.mul am) a1 a2
  have:=fo_bt (ss:=r) (l:=add l s) (n:=n+401) (add_am al am) w.1 w.2 fun x hx=>hs x (List.mem_cons_of_mem _ hx)
  have e:n+401*(s :: r).length=n+401+401*r.length:=by rw [List.length_cons]; omega
  rw [e]
  exact this
theorem fo_sz {ss:List Q}(hl:ss.length<=4)(hs : ∀ s ∈ ss,Am s/\Bt 400 s.1/\Bt 400 s.2)(i:Nat):Sz (fo (0,1) (ss.take i)):=by
 have hs' : ∀ s ∈ ss.take i,Am s/\Bt 400 s.1/\Bt 400 s.2:=fun s h=>hs s (List.mem_of_mem_take h)
 have l4:(ss.take i).length<=4:=by rw [List.length_take]; omega
 have b:=fo_bt (l:=(0,1)) (n:=2) am0 (bt_of 2 (c:=2) (by decide) (by decide)) (bt_of 2 (c:=2) (by decide) (by decide)) hs'
 exact ⟨fo_am (fun s h=>(hs' s h).1) am0,b.1.mono (by omega),b.2.mono (by omega)⟩
end BQ
namespace BQ
open PySem PySem.Spec PyProof.Rows L2 GM
def vl (a:Q):Rat:=(a.1:Rat) / (a.2:Rat)
theorem icast {n:Int}(h:1<=n):(0:Rat) < (n:Rat):=by exact_mod_cast (by omega:0 < n)
theorem icast_ne {n:Int}(h:1<=n):(n:Rat) ≠ 0:=fun e=>by
 have:=icast h
 rw [e] at this
 exact absurd this (by decide)
theorem vl_lw {T B:Int}(h0:0<=T)(h1:1<=B):vl (lw T B)=(T:Rat) / B:=by
 have c:(((lw T B).1:Int):Rat)*(B:Rat)=(T:Rat)*((lw T B).2:Rat):=by exact_mod_cast lw_cross T B
 have n1:=icast_ne h1
 have n2:=icast_ne (lw_am h0 h1).b1
 unfold vl
 generalize ((lw T B).1:Rat)=x at *
 generalize ((lw T B).2:Rat)=y at *
 generalize (T:Rat)=t at *
 generalize (B:Rat)=b at *
 grind
theorem vl_zero:vl (0,1)=0:=by
 show ((0:Int):Rat) / ((1:Int):Rat)=0
 rw [Rat.div_def]
 exact Rat.zero_mul _
theorem vl_add {a b:Q}(ha:Am a)(hb:Am b):vl (add a b)=vl a+vl b:=by
 unfold add
 rw [vl_lw (ha.num hb) (ha.mul hb)]
 have n1:=icast_ne ha.b1
 have n2:=icast_ne hb.b1
 unfold vl
 rw [Rat.intCast_add,Rat.intCast_mul,Rat.intCast_mul,Rat.intCast_mul]
 generalize (a.1:Rat)=x at *
 generalize (a.2:Rat)=y at *
 generalize (b.1:Rat)=t at *
 generalize (b.2:Rat)=b at *
 grind
theorem vl_nn {a:Q}(ha:Am a):0<=vl a:=by
 unfold vl
 have h1:(0:Rat)<=(a.1:Rat):=by exact_mod_cast ha.t0
 have h2:=icast ha.b1
 rw [Rat.div_def]
 exact Rat.mul_nonneg h1 (Rat.le_of_lt (Rat.inv_pos.mpr h2))
theorem vl_cross {a b:Q}(ha:Am a)(hb:Am b)(h:vl a=vl b):a.1*b.2=b.1*a.2:=by
 have n1:=icast_ne ha.b1
 have n2:=icast_ne hb.b1
 unfold vl at h
 have:(a.1:Rat)*(b.2:Rat)=(b.1:Rat)*(a.2:Rat):=by
  generalize (a.1:Rat)=x at *
  generalize (a.2:Rat)=y at *
  generalize (b.1:Rat)=t at *
  generalize (b.2:Rat)=b at *
  grind
 exact_mod_cast this
theorem vl_inj {a b:Q}(ha:Am a)(hb:Am b)(h:vl a=vl b):a=b:=by
 have e1:lw a.1 a.2=a:=lw_eq ha.t0 ha.b1 ha rfl
 have e2:lw b.1 b.2=b:=lw_eq hb.t0 hb.b1 hb rfl
 rw [<- e1,<- e2]
 exact lw_uniq ha.t0 ha.b1 hb.t0 hb.b1 (vl_cross ha hb h)
theorem vl_pos {a:Q}(ha:Am a):0 < vl a ↔ 1<=a.1:=by
 constructor
 ·intro h
  have:=ha.t0
  by_cases e:a.1=0
  ·unfold vl at h
   rw [e] at h
   have:((0:Int):Rat) / (a.2:Rat)=0:=by rw [Rat.div_def]; exact Rat.zero_mul _
   rw [this] at h
   exact absurd h (by decide)
  ·omega
 ·intro h
  unfold vl
  rw [Rat.div_def]
  exact Rat.mul_pos (icast h) (Rat.inv_pos.mpr (icast ha.b1))
def Dn (D:Int)(r:Rat):Prop:=∃ n:Int,r*(D:Rat)=(n:Rat)
def sm {α:Type}:List α->(α->Rat)->Rat
 | [],_=>0
 | x :: r,f=>f x+sm r f
theorem sm_congr {α:Type}{f g:α->Rat} : ∀ {a:List α},(∀ x ∈ a,f x=g x)->sm a f=sm a g
 | [],_=>rfl
 | x :: r,h=>by
  show f x+sm r f=g x+sm r g
  rw [h x (List.mem_cons_self ..),sm_congr fun y hy=>h y (List.mem_cons_of_mem _ hy)]
theorem sm_mul {α:Type}(c:Rat)(f:α->Rat) : ∀ (a:List α),sm a (fun x=>c*f x)=c*sm a f
 | []=>by show (0:Rat)=c*0; rw [Rat.mul_zero]
 | x :: r=>by
  show c*f x+sm r (fun x=>c*f x)=c*(f x+sm r f)
  rw [sm_mul c f r,Rat.mul_add]
def bmp {α:Type}[DecidableEq α](f:α->Rat)(y:α)(c:Rat):α->Rat:=fun x=>if x=y then f x+c else f x
theorem sm_fo : ∀ {ss:List Q} {x:Q},(∀ s ∈ ss,Am s)->Am x->vl (fo x ss)=vl x+sm ss vl
 | [],x,_,_=>by show vl x=vl x+0; rw [Rat.add_zero]
 | s :: ss,x,hs,hx=>by
  have h1:=hs s (List.mem_cons_self ..)
  show vl (fo (add x s) ss)=vl x+(vl s+sm ss vl)
  rw [sm_fo (fun s' h'=>hs s' (List.mem_cons_of_mem _ h')) (add_am hx h1),vl_add hx h1,Rat.add_assoc]
theorem sm_map {α β:Type}(f:β->Rat)(g:α->β) : ∀ (a:List α),sm (a.map g) f=sm a (fun x=>f (g x))
 | []=>rfl
 | x :: r=>by show f (g x)+sm (r.map g) f=f (g x)+sm r _; rw [sm_map f g r]
end BQ
namespace K17
open PySem PySem.Spec PyProof.Rows L2 GM TM BQ
theorem tw_mk {K:PySem.W.Frag}{H:Hp}{p q:Addr}{a b:Q}(hp:SqT K H p [.int a.1,.int a.2])(hq:SqT K H q [.int b.1,.int b.2])(ha:Sz a)(hb:Sz b):Tw K H p q a.1 a.2 b.1 b.2:=⟨hp,hq,ha.am,hb.am,ha.bt,ha.bb,hb.bt,hb.bb⟩
def spWholeL (K:PySem.W.Frag):Sp:=fun vs H Q _=>∃ (l:Addr) (us:List V) (ps:List (Str × BQ.Q)),vs=[.ref l]/\SqL K H l us/\L2R (PaV H) us ps/\(∀ p ∈ ps,Sz p.2)/\(∀ i,Sz (fo (0,1) ((ps.map (·.2)).take i))) /\
 ∀ r H',Same H H'->SqT K H' r [.int (fo (0,1) (ps.map (·.2))).1,.int (fo (0,1) (ps.map (·.2))).2]->Q (.ref r) H'
def spShares (K:PySem.W.Frag):Sp:=fun vs H Q _=>∃ (m q:Addr) (a:BQ.Q) (us:List V) (ps:List (Int × Str)),vs=[.ref m,.ref q]/\AmV H m a/\H q=some (.tup us)/\L2R (PrV H) us ps/\SmR a/\1<=ps.length/\ps.length<=4/\(∀ p ∈ ps,1<=p.1/\p.1<=1000) /\
 ∀ l vs' H',Same H H'->H l=none->H' l=some (.lst vs')->L2R (PaV H') vs' (ps.map fun p=>(p.2,lw (a.1*p.1) (a.2*ptot ps)))->Q (.ref l) H'
def RwC (l:BQ.Q):Rw->Prop
 | .take a _=>SmR a
 | .parts a ps=>SmR a/\1<=ps.length/\ps.length<=4/\∀ p ∈ ps,1<=p.1/\p.1<=1000
 | .to n _=>1<=n/\n<=1000
 | .fill a _=>SmR a/\l.1*a.2<=a.1*l.2
def spPutBy (K:PySem.W.Frag):Sp:=fun vs H Q _=>∃ (v:V) (m:Addr) (l:BQ.Q) (r:Rw),vs=[v,.ref m]/\RowV H v r/\SqT K H m [.int l.1,.int l.2]/\Am l/\Bt 400 l.1/\Bt 400 l.2/\RwC l r /\
 ∀ z vs' H',Same H H'->H z=none->H' z=some (.lst vs')->L2R (PaV H') vs' (rowQ l r)->Q (.ref z) H'
theorem sh_eq {a:BQ.Q}{n S:Int}(ha:Am a)(n1:1<=n)(S1:1<=S):lw ((lw (a.1*1) (a.2*S)).1*n) ((lw (a.1*1) (a.2*S)).2*1)=lw (a.1*n) (a.2*S):=by
 have a0:=ha.t0
 have a1:=ha.b1
 have c1:=BQ.mul1 a1 S1
 have am:=lw_am (show 0<=a.1*1 by omega) c1
 have cr:=lw_cross (a.1*1) (a.2*S)
 generalize lw (a.1*1) (a.2*S)=z at *
 have z0:=am.t0
 have z1:=am.b1
 exact lw_uniq (Int.mul_nonneg z0 (by omega)) (by omega) (Int.mul_nonneg a0 (by omega)) c1 (by grind)
theorem ptot_leK : ∀ {ps:List (Int × Str)},(∀ p ∈ ps,p.1<=1000)->ptot ps<=1000*ps.length
 | [],_=>by decide
 | q :: r,h=>by
  have e:ptot (q :: r)=q.1+ptot r:=by unfold ptot; rw [List.map_cons,List.sum_cons]
  have:=ptot_leK (ps:=r) fun p hp=>h p (List.mem_cons_of_mem _ hp)
  have:=h q (List.mem_cons_self ..)
  rw [e,List.length_cons]
  omega
theorem sz_one {n:Int}(h0:0<=n)(h:n<=4000):Sz (n,1):=⟨amt_one h0,(bt_of 12 (c:=4096) h0 (by omega):Bt 12 n).mono (by decide),(bt_of 2 (c:=2) (by decide) (by decide):Bt 2 (1:Int)).mono (by decide)⟩
theorem sm_sz {a:BQ.Q}(h:SmR a):Sz a:=⟨h.am,h.bt.1.mono (by decide),h.bt.2.mono (by decide)⟩
theorem sz400 {a:BQ.Q}(h:Am a)(b1:Bt 400 a.1)(b2:Bt 400 a.2):Sz a:=⟨h,b1.mono (by decide),b2.mono (by decide)⟩
section
variable {P:Program}{w:World}{K:PySem.W.Frag}{mg:Str->Option Value}{base:Heap}
theorem scWholeL:FnScope ["one","found","ware","part"] ["one"] (defScope sWholeL):=⟨rfl,rfl,rfl,by decide +kernel,rfl,by decide +kernel,by decide +kernel⟩
theorem ok_wholel {f aN:Addr}{fd:FuncData}(F:Fun K "whole" "whole" sWholeL f fd)(mN:mg "NOUGHT" = some (.ref aN))(sN : ∀ H:Hp,SqT K H aN [.int 0,.int 1])(cP:Cal P w K mg base CX0 3 "plus" ["one","other"] (spPlus K)):FnOk P w K mg base CX0 4 f fd ["one"] (spWholeL K):=by
 refine F.ok scWholeL (fun vs H Q E h => ?_) (fun cdv A outer s H vs Q E hr h => ?_)
 ·obtain ⟨_,_,_,rfl,_⟩:=h
  rfl
 ·obtain ⟨l,us,ps,rfl,hl,hu,hs,ht,k⟩:=h
  refine ⟨_,(pss_cons (ps_set (i:=1) scWholeL.nd rfl (Or.inl rfl) (pe_glob (v:=.ref aN) rfl mN rfl))
   (pss_cons (ps_for PassesOwn.never rfl (pi_list (pv 0)) (pg_tup rfl (pgs_cons (pg_name (i:=2) scWholeL.nd rfl (Or.inl rfl)) (pgs_cons (pg_name (i:=3) scWholeL.nd rfl (Or.inl rfl)) pgs_nil)))
    (pss_one (ps_set (i:=1) scWholeL.nd rfl (Or.inl rfl) (pe_cal cP hr rfl pass0 (pa_cons (pv 1) (pa_cons (pv 3) pa_nil))))))
   (pss_one (ps_ret (pv 1))))),?_⟩
  refine ⟨_,rfl,l,rfl,⟨_,hl⟩,?_⟩
  refine for_list (xs:=us) (fun i σ H'=>∃ (g:Addr) (v2 v3:Option V),σ=[some (.ref l),some (.ref g),v2,v3]/\Same H H'/\SqT K H' g [.int (fo (0,1) ((ps.map (·.2)).take i)).1,.int (fo (0,1) ((ps.map (·.2)).take i)).2]) ⟨aN,none,none,rfl,Same.refl _,sN H⟩ (fun i σ H' _ ⟨_,_,_,_,sm,_⟩=>sm.seq hl) ?_ ?_
  ·rintro i v σ H1 hv ⟨g,v2,v3,rfl,sm,hg⟩
   obtain ⟨p,hp,z,m,rfl,hz,hm⟩:=hu.get hv
   refine ⟨z,_,rfl,SqT.of (sm _ _ hz),rfl,_,_,rfl,_,_,rfl,rfl,?_⟩
   refine ⟨_,rfl,_,rfl,g,m,_,_,p.2.1,p.2.2,rfl,tw_mk hg (SqT.of (sm _ _ hm)) (ht i) (hs p (List.mem_of_getElem? hp)),fun r H2 s2 hr2 => ?_⟩
   refine ⟨r,_,_,rfl,sm.trans s2,?_⟩
   have e:(ps.map (·.2)).take (i+1)=(ps.map (·.2)).take i ++ [p.2]:=by rw [List.take_add_one,List.getElem?_map,hp]; rfl
   rw [e,fo_append]
   exact hr2
  ·rintro σ H1 ⟨g,v2,v3,rfl,sm,hg⟩
   rw [hu.len,List.take_of_length_le (by rw [List.length_map]; exact Nat.le_refl _)] at hg
   exact ⟨_,rfl,k g H1 sm hg⟩
theorem ndS1:(["number","thing"]:List Str).Nodup:=by decide +kernel
theorem ndS2:(["number","thing","one_part"]:List Str).Nodup:=by decide +kernel
theorem scShares:FnScope ["all_of_it","pairs","one_part"] ["all_of_it","pairs"] (defScope sShares):=⟨rfl,rfl,rfl,by decide +kernel,rfl,by decide +kernel,by decide +kernel⟩
theorem ok_shares {f:Addr}{fd:FuncData}(F:Fun K "shares" "shares" sShares f fd)(T:Txt mg)(cO:Cal P w K mg base CX0 3 "over" ["one","other"] (spOver K))(cT:Cal P w K mg base CX0 3 "times" ["one","other"] (spTimes K)):FnOk P w K mg base CX0 4 f fd ["all_of_it","pairs"] (spShares K):=by
 refine F.ok scShares (fun vs H Q E h => ?_) (fun cdv A outer s H vs Q E hr h => ?_)
 ·obtain ⟨_,_,_,_,_,rfl,_⟩:=h
  rfl
 ·obtain ⟨m,q,a,us,ps,rfl,hm,hq,hu,sa,l1,l4,hn,k⟩:=h
  refine ⟨_,(pss_cons (ps_set (i:=2) scShares.nd rfl (Or.inr rfl) (pe_cal cO hr rfl pass0 (pa_cons (pv 0) (pa_cons (pe_tup (pa_cons (pe_callB (call_sum rfl) rfl T.sum' boot_sum (pa_cons
     (pe_comp (N':=["number","thing"]) (cl:=[]) (g:=gTup K 2 (gCons (L2.gName 0) (gCons (L2.gName 1) gNil))) (fun _=>[none,none]) rfl rfl (by decide +kernel) (by decide +kernel) (clOk_plain (by decide +kernel)) (fun _ _=>blkN_none)
    (pi_tup (pv 1)) (fun _ _ _ _ _=>pg_tup rfl (pgs_cons (pg_name (i:=0) ndS1 rfl (Or.inl rfl) (Or.inr rfl)) (pgs_cons (pg_name (i:=1) ndS1 rfl (Or.inl rfl) (Or.inr rfl)) pgs_nil))) (fun _ _ _ _ _=>pifs_nil)
    (fun _ _ _ _ _=>pv 0)) pa_nil)) (pa_cons pe_int pa_nil))) pa_nil))))
   (pss_one (ps_ret (pe_compC (N':=["number","thing","one_part"]) (g:=gTup K 2 (gCons (L2.gName 0) (gCons (L2.gName 1) gNil))) (fun σ=>[none,none,some 2].map fun t=>t.bind fun j=>(σ[j]?).join) rfl rfl (by decide +kernel) (by decide +kernel)
     (hk_of (sc:=defScope sShares) rfl (by decide +kernel)) (fun _ _ _=>blkN_by (sc:=defScope sShares) (N:=["all_of_it","pairs","one_part"]) [none,none,some 2] rfl rfl rfl rfl (by decide +kernel))
     (pi_tup (pv 1)) (fun _ _ _ _ _ _=>pg_tup rfl (pgs_cons (pg_name (i:=0) ndS2 rfl (Or.inl rfl) (Or.inr rfl)) (pgs_cons (pg_name (i:=1) ndS2 rfl (Or.inl rfl) (Or.inr rfl)) pgs_nil)))
     (fun _ _ _ _ _ _=>pifs_nil)
     (fun _ _ _ _ _ _=>pe_tup (pa_cons (pv 1) (pa_cons (pe_cal cT hr rfl pass0 (pa_cons (pv 2) (pa_cons (pe_tup (pa_cons (pv 0) (pa_cons pe_int pa_nil))) pa_nil))) pa_nil))))))),?_⟩
  have ul:=hu.len
  have S1:1<=ptot ps:=by
   cases ps with
   | nil=>exact absurd l1 (by decide)
   | cons p r =>
    have:=ptot_ge (fun p hp=>(hn p hp).1) (List.mem_cons_self (a:=p) (l:=r))
    have:=(hn p (List.mem_cons_self ..)).1
    omega
  have S36:=ptot_leK fun p hp=>(hn p hp).2
  refine ⟨_,rfl,_,rfl,q,rfl,⟨_,SqT.of hq⟩,fun D hD => ?_⟩
  refine comp_rel (Ys.tup (SqT.of hq)) (fun i _ y _=>∀ p:Int × Str,ps[i]?=some p->y = .int p.1) (fun _ _ _ _ _ h _=>h) hD (by omega) (fun i v H' R hv sm hR => ?_) (fun ys H1 s1 hD' yl hy => ?_)
  ·obtain ⟨p,hp,z,rfl,hz⟩:=hu.get hv
   exact ⟨z,_,rfl,SqT.of (sm _ _ hz),rfl,_,_,rfl,_,_,rfl,rfl,((Keep.refl _).set rfl).set rfl,_,rfl,hR _ _ (Same.refl _) fun p' hp'=>by rw [hp] at hp'; cases hp'; rfl⟩
  have ey:ys=(ps.map (·.1)).map V.int:=by
   refine list_eq (by rw [List.length_map,List.length_map,yl,ul]) fun i x y hx hy' => ?_
   rw [List.map_map,List.getElem?_map] at hx
   cases e:ps[i]? with
   | none=>rw [e] at hx; cases hx
   | some p =>
    rw [e] at hx
    cases hx
    obtain ⟨u',hu'⟩ : ∃ x,us[i]?=some x:=⟨_,List.getElem?_eq_getElem (by rw [ul]; exact (List.getElem?_eq_some_iff.mp e).1)⟩
    exact hy i u' y hu' hy' p e
  subst ey
  refine ⟨D,ps.map (·.1),rfl,SqL.of hD',(by show 2<=sizeLine; decide),fun z hz => ?_⟩
  have s2:=s1.trans (Same.upd (o:=.tup [.int (ptot ps),.int 1]) hz)
  have hz2:upd H1 z (.tup [.int (ptot ps),.int 1]) z=some (.tup [.int (ptot ps),.int 1]):=upd_same
  show spOver K [V.ref m,V.ref z] (upd H1 z (.tup [.int (ptot ps),.int 1])) _ E0
  generalize upd H1 z (.tup [.int (ptot ps),.int 1])=H2 at s2 hz2 ⊢
  refine ⟨m,z,a.1,a.2,ptot ps,1,rfl,tw_mk (b:=(ptot ps,1)) (SqT.of (s2 _ _ hm)) (SqT.of hz2) (sm_sz sa) (sz_one (by omega) (by omega)),S1,fun r H3 s3 hr3 => ?_⟩
  have hr3':H3 r=some (.tup [.int (lw (a.1*1) (a.2*ptot ps)).1,.int (lw (a.1*1) (a.2*ptot ps)).2]):=hr3
  have s03:=s2.trans s3
  have c1:=BQ.mul1 sa.am.b1 S1
  have amz:=lw_am (show 0<=a.1*1 by have:=sa.am.t0; omega) c1
  have bz:=lw_bt (n:=50) (show 0<=a.1*1 by have:=sa.am.t0; omega) c1 (by rw [Int.mul_one]; exact sa.bt.1.mono (by decide)) ((sa.bt.2.mul (bt_of 12 (c:=4096) (by omega) (by omega):Bt 12 (ptot ps))).mono (by decide))
  have szz:Sz (lw (a.1*1) (a.2*ptot ps)):=⟨amz,bz.1.mono (by decide),bz.2.mono (by decide)⟩
  refine ⟨_,rfl,q,rfl,⟨_,SqT.of (s03 _ _ hq)⟩,fun D2 hD2 => ?_⟩
  refine comp_rel (Ys.tup (SqT.of (s03 _ _ hq))) (fun i _ y H=>∀ p:Int × Str,ps[i]?=some p->PaV H y (p.2,lw (a.1*p.1) (a.2*ptot ps))) (fun i x y H H' h k p e=>(h p e).keep k) hD2 (by omega) (fun i v H' R hv sm hR => ?_) (fun ys H4 s4 hD4 yl hy => ?_)
  ·obtain ⟨p,hp,zz,rfl,hzz⟩:=hu.get hv
   have pn:=hn p (List.mem_of_getElem? hp)
   refine ⟨zz,_,rfl,SqT.of ((s03.trans sm) _ _ hzz),rfl,_,_,rfl,_,_,rfl,rfl,((Keep.refl _).set rfl).set rfl,?_⟩
   refine ⟨_,rfl,_,rfl,_,rfl,(by show 2<=sizeLine; decide),fun o ho => ?_⟩
   have so:=Same.upd (o:=.tup [.int p.1,.int 1]) ho
   refine ⟨r,o,_,_,p.1,1,rfl,tw_mk (b:=(p.1,1)) (SqT.of (so _ _ (sm _ _ hr3'))) (SqT.of upd_same) szz (sz_one (by omega) (by omega)),fun r2 H5 s5 hr5 => ?_⟩
   refine ⟨(by show 2<=sizeLine; decide),fun t ht=>hR _ _ ((so.trans s5).trans (Same.upd ht)) fun p' hp' => ?_⟩
   rw [hp] at hp'
   cases hp'
   refine ⟨t,r2,rfl,upd_same,?_⟩
   rw [<- sh_eq sa.am pn.1 S1]
   exact Same.upd ht _ _ hr5
  ·refine k D2 ys H4 (s03.trans s4) (sm_none' s03 hD2) hD4 (L2R.of (by rw [List.length_map,yl,ul]) fun i p u hp hu' => ?_)
   rw [List.getElem?_map] at hp
   cases e:ps[i]? with
   | none=>rw [e] at hp; cases hp
   | some p' =>
    rw [e] at hp
    cases hp
    obtain ⟨x,hx⟩ : ∃ x,us[i]?=some x:=⟨_,List.getElem?_eq_getElem (by rw [ul]; exact (List.getElem?_eq_some_iff.mp e).1)⟩
    exact hy i x u hx hu' p' e
theorem scPutBy:FnScope ["row","lies","lacks"] ["row","lies"] (defScope sPutBy):=⟨rfl,rfl,rfl,by decide +kernel,rfl,by decide +kernel,by decide +kernel⟩
theorem ok_putby {f aN:Addr}{fd:FuncData}(F:Fun K "put_by" "put_by" sPutBy f fd)(mN:mg "NOUGHT" = some (.ref aN))(sN : ∀ H:Hp,SqT K H aN [.int 0,.int 1])(cS:Cal P w K mg base CX0 4 "shares" ["all_of_it","pairs"] (spShares K))(cT:Cal P w K mg base CX0 4 "times" ["one","other"] (spTimes K))(cM:Cal P w K mg base CX0 4 "minus" ["one","other"] (spMinus K)):FnOk P w K mg base CX0 5 f fd ["row","lies"] (spPutBy K):=by
 refine F.ok scPutBy (fun vs H Q E h => ?_) (fun cdv A outer s H vs Q E hr h => ?_)
 ·obtain ⟨_,_,_,_,rfl,_⟩:=h
  rfl
 ·obtain ⟨v,m,l,r,rfl,hv,hm,la,lb1,lb2,ok,k⟩:=h
  refine ⟨_,(pss_cons (ps_if (pt_cmpR op_eq (pit 0 0) pe_str (nomark _))
    (pss_one (ps_ret (pe_lst (pa_cons (pe_tup (pa_cons (pit 0 2) (pa_cons (pit 0 1) pa_nil))) pa_nil))))
    pss_nil)
   (pss_cons (ps_if (pt_cmpR op_eq (pit 0 0) pe_str (nomark _))
    (pss_one (ps_ret (pe_cal cS hr rfl pass0 (pa_cons (pit 0 1) (pa_cons (pit 0 2) pa_nil)))))
    pss_nil)
   (pss_cons (ps_if (pt_cmpR op_eq (pit 0 0) pe_str (nomark _))
    (pss_one (ps_ret (pe_lst (pa_cons (pe_tup (pa_cons (pit 0 2) (pa_cons (pe_cal cT hr rfl pass0 (pa_cons (pe_tup (pa_cons (pit 0 1) (pa_cons pe_int pa_nil))) (pa_cons (pv 1) pa_nil))) pa_nil))) pa_nil))))
    pss_nil)
   (pss_cons (ps_set (i:=2) scPutBy.nd rfl (Or.inl rfl) (pe_cal cM hr rfl pass0 (pa_cons (pit 0 1) (pa_cons (pv 1) pa_nil))))
   (pss_one (ps_ret (pe_ifExp (pt_cmpR (op_eqI hr.units) (pv 2) (pe_glob (v:=.ref aN) rfl mN rfl) (nomark _)) (pe_lst pa_nil) (pe_lst (pa_cons (pe_tup (pa_cons (pit 0 2) (pa_cons (pv 2) pa_nil))) pa_nil))))))))),?_⟩
  have lz:=sz400 la lb1 lb2
  cases hv with
  | @take p m' a x hp hm' =>
   refine ⟨p,_,_,rfl,SqT.of hp,rfl,rfl,_,rfl,iteT ?_⟩
   refine ⟨p,_,_,rfl,SqT.of hp,rfl,p,_,_,rfl,SqT.of hp,rfl,(by show 2<=sizeLine; decide),fun z hz=>⟨(by show 1<=sizeLine; decide),fun t ht => ?_⟩⟩
   have s1:=(Same.upd (o:=.tup [.str x,.ref m']) hz).trans (Same.upd (o:=.lst [.ref z]) ht)
   exact k t _ _ s1 (sm_none' (Same.upd hz) ht) upd_same (L2R.one ⟨z,m',rfl,Same.upd ht _ _ upd_same,s1 _ _ hm'⟩)
  | @parts p m' q a us ps hp hm' hq hu =>
   obtain ⟨sa,l1,l4,hn⟩:=ok
   refine ⟨p,_,_,rfl,SqT.of hp,rfl,rfl,_,rfl,iteF ⟨p,_,_,rfl,SqT.of hp,rfl,rfl,_,rfl,iteT ?_⟩⟩
   refine ⟨p,_,_,rfl,SqT.of hp,rfl,p,_,_,rfl,SqT.of hp,rfl,m',q,a,us,ps,rfl,hm',hq,hu,sa,l1,l4,hn,fun t vs' H1 s1 nt ht hr'=>k t vs' H1 s1 nt ht ?_⟩
   have e:rowQ l (.parts a ps)=ps.map fun p=>(p.2,lw (a.1*p.1) (a.2*ptot ps)):=by unfold rowQ rowP; rw [List.map_map]; rfl
   rw [e]
   exact hr'
  | @to p n x hp =>
   obtain ⟨n1,n9⟩:=ok
   refine ⟨p,_,_,rfl,SqT.of hp,rfl,rfl,_,rfl,iteF ⟨p,_,_,rfl,SqT.of hp,rfl,rfl,_,rfl,iteF ⟨p,_,_,rfl,SqT.of hp,rfl,rfl,_,rfl,iteT ?_⟩⟩⟩
   refine ⟨p,_,_,rfl,SqT.of hp,rfl,p,_,_,rfl,SqT.of hp,rfl,(by show 2<=sizeLine; decide),fun o ho => ?_⟩
   have so:=Same.upd (o:=.tup [.int n,.int 1]) ho
   refine ⟨_,rfl,o,m,n,1,l.1,l.2,rfl,tw_mk (a:=(n,1)) (SqT.of upd_same) (so.tup hm) (sz_one (by omega) (by omega)) lz,fun r H1 s1 hr1 => ?_⟩
   refine ⟨(by show 2<=sizeLine; decide),fun z hz=>⟨(by show 1<=sizeLine; decide),fun t ht => ?_⟩⟩
   have s2:=(Same.upd (o:=.tup [.str x,.ref r]) hz).trans (Same.upd (o:=.lst [.ref z]) ht)
   have s02:=(so.trans s1).trans s2
   have nt:=sm_none' ((so.trans s1).trans (Same.upd (o:=.tup [.str x,.ref r]) hz)) ht
   refine k t _ _ s02 nt upd_same (L2R.one ⟨z,r,rfl,Same.upd ht _ _ upd_same,?_⟩)
   have e:lw (l.1*n) l.2=lw (n*l.1) (1*l.2):=by rw [Int.mul_comm l.1,Int.one_mul]
   show AmV _ r (lw (l.1*n) l.2)
   rw [e]
   exact s2 _ _ hr1
  | @fill p m' a x hp hm' =>
   obtain ⟨sa,le⟩:=ok
   refine ⟨p,_,_,rfl,SqT.of hp,rfl,rfl,_,rfl,iteF ⟨p,_,_,rfl,SqT.of hp,rfl,rfl,_,rfl,iteF ⟨p,_,_,rfl,SqT.of hp,rfl,rfl,_,rfl,iteF ?_⟩⟩⟩
   refine ⟨p,_,_,rfl,SqT.of hp,rfl,_,rfl,m',m,a.1,a.2,l.1,l.2,rfl,tw_mk (SqT.of hm') hm (sm_sz sa) lz,le,fun r H1 s1 hr1 => ?_⟩
   have am:=lacks_am sa.am la le
   have hr1':AmV H1 r (lacks a l):=hr1
   have er:rowQ l (.fill a x)=if 0 < (lacks a l).1 then [(x,lacks a l)] else []:=by
    have e:rowP 0 l (.fill a x)=if 0 < (lacks a l).1 then [((0:Int),x,lacks a l)] else []:=rfl
    unfold rowQ
    rw [e]
    split <;> rfl
   refine ⟨_,rfl,r,aN,[(lacks a l).1,(lacks a l).2],[0,1],rfl,rfl,SqT.of hr1',sN _,_,rfl,ite2 (fun hc => ?_) (fun hc => ?_)⟩
   ·have e:=of_decide_eq_true hc
    injection e with e1 e
    refine ⟨(by show 0<=sizeLine; decide),fun t ht => ?_⟩
    refine k t [] _ (s1.trans (Same.upd ht)) (sm_none' s1 ht) upd_same ?_
    rw [er,if_neg (by rw [e1]; decide)]
    exact L2R.nil
   ·have pos:0 < (lacks a l).1:=by
     have t0:=am.t0
     by_cases z:(lacks a l).1=0
     ·exfalso
      apply hc
      have u:=Fr.uniq (M:=1) (t:=(lacks a l).1) (b:=(lacks a l).2) (N:=0) (by decide) ⟨am,by rw [z]; simp⟩ Fr.zero
      rw [u.1,u.2]
      rfl
     ·omega
    refine ⟨p,_,_,rfl,SqT.of (s1 _ _ hp),rfl,_,rfl,(by show 2<=sizeLine; decide),fun z hz=>⟨(by show 1<=sizeLine; decide),fun t ht => ?_⟩⟩
    have s2:=(Same.upd (o:=.tup [.str x,.ref r]) hz).trans (Same.upd (o:=.lst [.ref z]) ht)
    refine k t _ _ (s1.trans s2) (sm_none' (s1.trans (Same.upd (o:=.tup [.str x,.ref r]) hz)) ht) upd_same ?_
    rw [er,if_pos pos]
    exact L2R.one ⟨z,r,rfl,Same.upd ht _ _ upd_same,s2 _ _ hr1'⟩
end
end K17
namespace K17
open PySem PySem.Spec PyProof.Rows L2 GM TM BQ TR
section
variable {P:Program}{w:World}{K:PySem.W.Frag}{mg:Str->Option Value}{base:Heap}
theorem scFilled:FnScope ["_law_left_here","_law_thing","_law_lies","_law_more","_law_level"] ["_law_left_here","_law_thing","_law_lies"] (defScope sFilled):=⟨rfl,rfl,rfl,by decide +kernel,rfl,by decide +kernel,by decide +kernel⟩
theorem ok_filled {f:Addr}{fd:FuncData}(F:Fun K "_law_filled" "_law_filled" sFilled f fd)(cN:Cal P w K mg base CX0 3 "_law_next" ["_law_left_here","_law_many"] spNext)(cA:Cal P w K mg base CX0 3 "_law_amount" ["_law_left_here"] spLam)(cL:Cal P w K mg base CX0 3 "_law_low" ["_law_top","_law_bottom"] spLow):FnOk P w K mg base CX0 4 f fd ["_law_left_here","_law_thing","_law_lies"] spFilled:=by
 refine F.ok scFilled (fun vs H Q E h => ?_) (fun cdv A outer s H vs Q E hr h => ?_)
 ·obtain ⟨_,_,_,_,rfl,_⟩:=h
  rfl
 ·obtain ⟨a,m,x,l,rfl,lf,hm,la,lb1,lb2,k⟩:=h
  refine ⟨_,(pss_cons (ps_set (i:=3) scFilled.nd rfl (Or.inl rfl) (pe_tup (pa_cons pe_int (pa_cons pe_int pa_nil))))
   (pss_cons (ps_if (pt_cmpR op_gt (pe_cal cN hr rfl pass0 (pa_cons (pv 0) (pa_cons pe_int pa_nil))) pe_int (nomark _))
    (pss_one (ps_set (i:=3) scFilled.nd rfl (Or.inl rfl) (pe_cal cA hr rfl pass0 (pa_cons (pv 0) pa_nil))))
    pss_nil)
   (pss_cons (ps_set (i:=4) scFilled.nd rfl (Or.inl rfl) (pe_cal cL hr rfl pass0 (pa_cons (pe_op op_add (pe_op op_mulB (pit 2 0) (pit 3 1)) (pe_op op_mulB (pit 3 0) (pit 2 1))) (pa_cons (pe_op op_mulB (pit 2 1) (pit 3 1)) pa_nil))))
   (pss_cons (ps_if (PW.pt (pw_or (pt_cmpR op_lt (pit 4 0) pe_int (nomark _)) (pw_or (pt_cmpR op_gt (pit 4 0) pe_int (nomark _)) (pw_or1 (pt_cmpR op_gt (pit 4 1) pe_int (nomark _))))))
    (pss_one (ps_ret (pe_tup (pa_cons pe_str (pa_cons (pe_cal cA hr rfl pass0 (pa_cons (pv 0) pa_nil)) (pa_cons (pv 1) pa_nil))))))
    pss_nil)
   (pss_one (ps_ret (pe_tup (pa_cons pe_str (pa_cons (pv 4) (pa_cons (pv 1) pa_nil)))))))))),?_⟩
  refine ⟨(by show 2<=sizeLine; decide),fun o no => ?_⟩
  have oa:o ≠ a:=lf.there no
  have so:=Same.upd (o:=.tup [.int 0,.int 1]) no
  have lf1:=lf.keep so
  have ho:upd H o (.tup [.int 0,.int 1]) o=some (.tup [.int 0,.int 1]):=upd_same
  generalize upd H o (.tup [.int 0,.int 1])=H1 at so lf1 ho ⊢
  dsimp only [L2.gName]
  refine seq_nx (fun σ' H'=>∃ (m1:Addr) (q:BQ.Q),σ'=[some (.ref a),some (.str x),some (.ref m),some (.ref m1),none]/\SmB a H H'/\Lf H' a/\AmV H' m l/\AmV H' m1 q/\BQ.Am q/\Bt 30 q.1/\Bt 30 q.2) ?_ (fun N hN => ?_)
  ·intro σ' H4 hh
   obtain ⟨m1,q,rfl,s4,lf4,hm4,hq4,aq,q1,q2⟩:=hh
   have sm:SqT K H4 m [.int l.1,.int l.2]:=SqT.of hm4
   have sq:SqT K H4 m1 [.int q.1,.int q.2]:=SqT.of hq4
   refine ⟨m,_,_,rfl,sm,rfl,m1,_,_,rfl,sq,rfl,_,_,rfl,rfl,⟨b6 lb1,b6 q2⟩,m1,_,_,rfl,sq,rfl,m,_,_,rfl,sm,rfl,_,_,rfl,rfl,⟨b6 q1,b6 lb2⟩,_,_,rfl,rfl,m,_,_,rfl,sm,rfl,m1,_,_,rfl,sq,rfl,_,_,rfl,rfl,⟨b6 lb2,b6 q2⟩,?_⟩
   refine ⟨_,_,rfl,la.num aq,la.mul aq,(lb2.mul q2).mono (by decide),fun g H5 s5 hg => ?_⟩
   have hg':AmV H5 g (add l q):=hg
   have s05:=s4.trans (SmB.of s5)
   have lf5:=lf4.keep s5
   have sg:SqT K H5 g [.int (add l q).1,.int (add l q).2]:=SqT.of hg'
   dsimp only [L2.gName]
   refine ⟨g,_,_,rfl,sg,rfl,_,_,rfl,rfl,_,rfl,ite2 (fun h1=>iteT ?_) (fun h1=>⟨g,_,_,rfl,sg,rfl,_,_,rfl,rfl,_,rfl,ite2 (fun h2=>iteT ?_) (fun h2=>⟨g,_,_,rfl,sg,rfl,_,_,rfl,rfl,_,rfl,ite2 (fun h3 => ?_) (fun h3 => ?_)⟩)⟩)⟩
   rotate_left 3
   ·have a1 : ¬ (add l q).1 < 1:=of_decide_eq_false (by simpa using h1)
    have a2 : ¬ (add l q).1 > 999999999:=of_decide_eq_false (by simpa using h2)
    have a3 : ¬ (add l q).2 > 999999999:=of_decide_eq_false (by simpa using h3)
    refine ⟨_,rfl,_,rfl,(by show 3<=sizeLine; decide),fun r nr => ?_⟩
    have sr:=Same.upd (o:=.tup [.str "fill",.ref g,.str x]) nr
    exact k r (.fill (add l q) x) _ ⟨⟨add_am la aq,by omega,by omega,by omega⟩,add_ge la aq⟩ rfl (s05.trans (SmB.of sr)) (lf5.keep sr) (.fill upd_same (sr _ _ hg'))
   all_goals
    refine ⟨_,rfl,a,rfl,lf5,fun q' p H6 sq' s6 lf6 hp=>⟨_,rfl,(by show 3<=sizeLine; decide),fun r nr => ?_⟩⟩
    have sr:=Same.upd (o:=.tup [.str "take",.ref p,.str x]) nr
    exact k r (.take q' x) _ sq' rfl ((s05.trans s6).trans (SmB.of sr)) (lf6.keep sr) (.take upd_same (sr _ _ hp))
  ·refine ⟨_,rfl,a,4,rfl,lf1,by decide,b16 (by decide) (by decide),fun d H2 d0 dl s2 lf2=>⟨_,_,rfl,rfl,_,rfl,ite2 (fun _ => ?_) (fun _ => ?_)⟩⟩
   ·refine ⟨_,rfl,a,rfl,lf2,fun q p H3 sq s3 lf3 hp=>hN _ _ ⟨p,q,rfl,((SmB.of so).trans s2).trans s3,lf3,lf_tk s3 lf2 _ _ (lf_tk s2 lf1 _ _ (so _ _ hm)),hp,sq.am,sq.bt.1,sq.bt.2⟩⟩
   ·exact hN _ _ ⟨o,(0,1),rfl,(SmB.of so).trans s2,lf2,lf_tk s2 lf1 _ _ (so _ _ hm),s2 _ _ oa ho,am0,(bt_of 2 (c:=2) (by decide) (by decide):Bt 2 (0:Int)).mono (by decide),(bt_of 2 (c:=2) (by decide) (by decide):Bt 2 (1:Int)).mono (by decide)⟩
theorem scLrow:FnScope ["_law_left_here","_law_allowed","_law_lies","_law_kind_here","_law_thing","_law_most"] ["_law_left_here","_law_allowed","_law_lies"] (defScope sLrow):=⟨rfl,rfl,rfl,by decide +kernel,rfl,by decide +kernel,by decide +kernel⟩
theorem ok_lrow {f:Addr}{fd:FuncData}(F:Fun K "_law_row" "_law_row" sLrow f fd)(T:Txt mg)(cN:Cal P w K mg base CX0 4 "_law_next" ["_law_left_here","_law_many"] spNext)(cA:Cal P w K mg base CX0 4 "_law_amount" ["_law_left_here"] spLam)(cP:Cal P w K mg base CX0 4 "_law_parts" ["_law_left_here","_law_allowed"] spLparts)(cF:Cal P w K mg base CX0 4 "_law_filled" ["_law_left_here","_law_thing","_law_lies"] spFilled):FnOk P w K mg base CX0 5 f fd ["_law_left_here","_law_allowed","_law_lies"] spLrow:=by
 refine F.ok scLrow (fun vs H Q E h => ?_) (fun cdv A outer s H vs Q E hr h => ?_)
 ·obtain ⟨_,_,_,_,_,rfl,_⟩:=h
  rfl
 ·obtain ⟨a,al,m,ws,l,rfl,lf,nm,ala,hm,la,lb1,lb2,k⟩:=h
  obtain ⟨hal,w1,w20⟩:=id nm
  refine ⟨_,(pss_cons (ps_set (i:=3) scLrow.nd rfl (Or.inl rfl) (pe_cal cN hr rfl pass0 (pa_cons (pv 0) (pa_cons pe_int pa_nil))))
   (pss_cons (ps_if (pt_cmpR op_eq (pv 3) pe_int (nomark _))
    (pss_one (ps_ret (pe_cal cP hr rfl pass0 (pa_cons (pv 0) (pa_cons (pv 1) pa_nil)))))
    pss_nil)
   (pss_cons (ps_set (i:=4) scLrow.nd rfl (Or.inl rfl) (pe_ix ix_list (pv 1) (pe_cal cN hr rfl pass0 (pa_cons (pv 0) (pa_cons (pe_callB call_len_seq rfl T.len PySem.boot_len (pa_cons (pv 1) pa_nil)) pa_nil))) (fun _ _=>rfl)))
   (pss_cons (ps_if (PW.pt (pw_and (pt_cmpR op_eq (pv 3) pe_int (nomark _)) (pw_and1 (pt_cmpR op_gt (pit 2 0) pe_int (nomark _)))))
    (pss_cons (ps_set (i:=5) scLrow.nd rfl (Or.inl rfl) (pe_ix ix_list (pe_lst (pa_cons pe_int (pa_cons pe_int pa_nil))) (pe_callTy call_int1 rfl T.int' bt_int (pa_cons (pe_cmpR op_eq (pe_cal cN hr rfl pass0 (pa_cons (pv 0) (pa_cons pe_int pa_nil))) pe_int (nomark _)) pa_nil)) (fun _ _=>rfl)))
   (pss_one (ps_ret (pe_tup (pa_cons pe_str (pa_cons (pe_op op_add pe_int (pe_cal cN hr rfl pass0 (pa_cons (pv 0) (pa_cons (pv 5) pa_nil)))) (pa_cons (pv 4) pa_nil)))))))
    pss_nil)
   (pss_cons (ps_if (PW.pt (pw_or (pt_cmpR op_eq (pv 3) pe_int (nomark _)) (pw_or1 (pt_cmpR op_eq (pv 3) pe_int (nomark _)))))
    (pss_one (ps_ret (pe_cal cF hr rfl pass0 (pa_cons (pv 0) (pa_cons (pv 4) (pa_cons (pv 2) pa_nil))))))
    pss_nil)
   (pss_one (ps_ret (pe_tup (pa_cons pe_str (pa_cons (pe_cal cA hr rfl pass0 (pa_cons (pv 0) pa_nil)) (pa_cons (pv 4) pa_nil))))))))))),?_⟩
  refine ⟨_,rfl,a,6,rfl,lf,by decide,b16 (by decide) (by decide),fun kd H1 kd0 kdl s1 lf1 => ?_⟩
  have tk1:=lf_tk s1 lf
  refine ⟨_,rfl,rfl,_,rfl,ite2 (fun hk => ?_) (fun hk => ?_)⟩
  ·exact ⟨_,rfl,_,rfl,a,al,ws,rfl,lf1,⟨s1 _ _ ala hal,w1,w20⟩,ala,fun p q ps H2 ok ot s2 lf2 rv=>k p (.parts q ps) H2 ok (fun y hy=>by obtain ⟨z,hz,rfl⟩:=List.mem_map.mp hy; exact ot z hz) (s1.trans s2) lf2 rv⟩
  refine ⟨_,rfl,_,rfl,_,rfl,al,_,rfl,.inl (SqL.of (s1 _ _ ala hal)),a,_,rfl,lf1,by rw [List.length_map]; omega,by rw [List.length_map]; exact bl9 (bt_of 8 (c:=256) (by omega) (by omega):Bt 8 ((ws.length:Nat):Int)),fun d2 H2 d20 d2l s2 lf2 => ?_⟩
  rw [List.length_map] at d2l
  obtain ⟨dn,rfl⟩:=Int.eq_ofNat_of_zero_le d20
  obtain ⟨x,hx⟩ : ∃ x,ws[dn]?=some x:=⟨_,List.getElem?_eq_getElem (by omega)⟩
  have xin : ∀ y ∈ [x],y ∈ ws:=fun y hy=>by rw [List.mem_singleton.mp hy]; exact List.mem_of_getElem? hx
  have s02:=s1.trans s2
  have tk2:=tk1.trans (lf_tk s2 lf1)
  have hm2:=tk2 _ _ hm
  refine ⟨al,_,(dn:Int),.str x,rfl,rfl,SqL.of (s02 _ _ ala hal),atI_nat (by rw [List.getElem?_map,hx]; rfl),?_⟩
  dsimp only [L2.gName]
  refine seq_nx (fun σ' H'=>σ'=[some (.ref a),some (.ref al),some (.ref m),some (.int kd),some (.str x),none]/\H'=H2) ?_ (fun N hN => ?_)
  ·intro σ' H' hh
   obtain ⟨rfl,rfl⟩:=hh
   have fil:spFilled [V.ref a,V.str x,V.ref m] H' Q E0:=⟨a,m,x,l,rfl,lf2,hm2,la,lb1,lb2,fun p r H3 ok ot s3 lf3 rv=>k p r H3 ok (by rw [ot]; exact xin) (s02.trans s3) lf3 rv⟩
   refine ⟨_,rfl,rfl,_,rfl,ite2 (fun h=>iteT ?_) (fun h=>⟨_,rfl,rfl,_,rfl,ite2 (fun h' => ?_) (fun h' => ?_)⟩)⟩
   ·exact ⟨_,rfl,_,rfl,_,rfl,fil⟩
   ·exact ⟨_,rfl,_,rfl,_,rfl,fil⟩
   ·refine ⟨_,rfl,a,rfl,lf2,fun q p H3 sq s3 lf3 hp=>⟨_,rfl,(by show 3<=sizeLine; decide),fun r nr => ?_⟩⟩
    have sr:=Same.upd (o:=.tup [.str "take",.ref p,.str x]) nr
    exact k r (.take q x) _ sq xin ((s02.trans s3).trans (SmB.of sr)) (lf3.keep sr) (.take upd_same (sr _ _ hp))
  ·refine ⟨_,rfl,rfl,_,rfl,ite2 (fun h => ?_) (fun h=>iteF (hN _ _ ⟨rfl,rfl⟩))⟩
   refine ⟨m,_,_,rfl,SqT.of hm2,rfl,_,_,rfl,rfl,_,rfl,ite2 (fun h' => ?_) (fun h'=>hN _ _ ⟨rfl,rfl⟩)⟩
   have l1:0 < l.1:=of_decide_eq_true h'
   refine ⟨(by show 2<=sizeLine; decide),fun z0 nz0 => ?_⟩
   have z0a:z0 ≠ a:=lf2.there nz0
   have sz0:=Same.upd (o:=.lst [.int 9,.int 1000]) nz0
   have lf2':=lf2.keep sz0
   refine ⟨_,rfl,a,7,rfl,lf2',by decide,b16 (by decide) (by decide),fun d1 H2b d10 d1l s2b lf2b=>⟨rfl,.inr ⟨_,rfl,z0,_,_,_,rfl,rfl,SqL.of (s2b _ _ z0a upd_same),pick91 _,?_⟩⟩⟩
   have pk:=pick91b (decide (V.int d1=V.int 1))
   generalize (if decide (V.int d1=V.int 1)=true then (1000:Int) else 9)=mo at pk ⊢
   refine ⟨_,rfl,_,rfl,a,mo,rfl,lf2b,pk.1,bl9 (bt_of 10 (c:=1024) (by omega) (by omega)),fun d3 H3 d30 d3l s3 lf3=>⟨_,_,rfl,rfl,_,rfl,(by show 3<=sizeLine; decide),fun r nr => ?_⟩⟩
   have sr:=Same.upd (o:=.tup [.str "to",.int (1+d3),.str x]) nr
   exact k r (.to (1+d3) x) _ ⟨by omega,by omega,l1⟩ xin ((((s02.trans (SmB.of sz0)).trans s2b).trans s3).trans (SmB.of sr)) (lf3.keep sr) (.to upd_same)
theorem scBehind:FnScope ["_law_lies","_law_row_here","_law_top"] ["_law_lies","_law_row_here"] (defScope sBehind):=⟨rfl,rfl,rfl,by decide +kernel,rfl,by decide +kernel,by decide +kernel⟩
theorem ok_behind {f:Addr}{fd:FuncData}(F:Fun K "_law_behind" "_law_behind" sBehind f fd)(cL:Cal P w K mg base CX0 2 "_law_low" ["_law_top","_law_bottom"] spLow):FnOk P w K mg base CX0 3 f fd ["_law_lies","_law_row_here"] spBehind:=by
 refine F.ok scBehind (fun vs H Q E h => ?_) (fun cdv A outer s H vs Q E hr h => ?_)
 ·obtain ⟨_,_,_,_,rfl,_⟩:=h
  rfl
 ·obtain ⟨m,v,l,r,rfl,hm,la,lb1,lb2,hv,ok,k⟩:=h
  refine ⟨_,(pss_cons (ps_if (pt_cmpR op_eq (pit 1 0) pe_str (nomark _))
    (pss_one (ps_ret (pit 1 1)))
    pss_nil)
   (pss_cons (ps_if (pt_cmpR op_eq (pit 1 0) pe_str (nomark _))
    (pss_one (ps_ret (pe_cal cL hr rfl pass0 (pa_cons (pe_op op_mulB (pit 0 0) (pe_op op_add (pit 1 1) pe_int)) (pa_cons (pit 0 1) pa_nil)))))
    pss_nil)
   (pss_cons (ps_set (i:=2) scBehind.nd rfl (Or.inl rfl) (pe_op op_add (pe_op op_mulB (pit 0 0) (pe_ix ix_tup (pit 1 1) pe_int (fun _ _=>rfl))) (pe_op op_mulB (pe_ix ix_tup (pit 1 1) pe_int (fun _ _=>rfl)) (pit 0 1))))
   (pss_one (ps_ret (pe_cal cL hr rfl pass0 (pa_cons (pv 2) (pa_cons (pe_op op_mulB (pit 0 1) (pe_ix ix_tup (pit 1 1) pe_int (fun _ _=>rfl))) pa_nil)))))))),?_⟩
  have sm:SqT K H m [.int l.1,.int l.2]:=SqT.of hm
  cases hv with
  | @fill p ma a x hp ha =>
   have sp:SqT K H p [.str "fill",.ref ma,.str x]:=SqT.of hp
   exact ⟨p,_,_,rfl,sp,rfl,rfl,_,rfl,iteT ⟨p,_,_,rfl,sp,rfl,k ma H (Same.refl _) ha⟩⟩
  | @to p n x hp =>
   have sp:SqT K H p [.str "to",.int n,.str x]:=SqT.of hp
   obtain ⟨n1,n2,l1⟩:=ok
   refine ⟨p,_,_,rfl,sp,rfl,rfl,_,rfl,iteF ⟨p,_,_,rfl,sp,rfl,rfl,_,rfl,iteT ⟨m,_,_,rfl,sm,rfl,p,_,_,rfl,sp,rfl,_,_,rfl,rfl,_,_,rfl,rfl,⟨b6 lb1,bl (by omega) (by omega)⟩,m,_,_,rfl,sm,rfl,?_⟩⟩⟩
   exact ⟨_,_,rfl,Int.mul_nonneg la.t0 (by omega),la.b1,lb2.mono (by decide),fun g H1 s1 hg=>k g H1 s1 hg⟩
  | @take p ma a x hp ha =>
   have sp:SqT K H p [.str "take",.ref ma,.str x]:=SqT.of hp
   have sa:SqT K H ma [.int a.1,.int a.2]:=SqT.of ha
   have oa:SmR a:=ok
   refine ⟨p,_,_,rfl,sp,rfl,rfl,_,rfl,iteF ⟨p,_,_,rfl,sp,rfl,rfl,_,rfl,iteF ⟨m,_,_,rfl,sm,rfl,p,_,_,rfl,sp,rfl,ma,_,1,.int a.2,rfl,rfl,sa,rfl,_,_,rfl,rfl,⟨b6 lb1,b6 oa.bt.2⟩,p,_,_,rfl,sp,rfl,ma,_,0,.int a.1,rfl,rfl,sa,rfl,m,_,_,rfl,sm,rfl,_,_,rfl,rfl,⟨b6 oa.bt.1,b6 lb2⟩,_,_,rfl,rfl,?_⟩⟩⟩
   refine ⟨_,rfl,m,_,_,rfl,sm,rfl,p,_,_,rfl,sp,rfl,ma,_,1,.int a.2,rfl,rfl,sa,rfl,_,_,rfl,rfl,⟨b6 lb2,b6 oa.bt.2⟩,_,_,rfl,la.num oa.am,la.mul oa.am,(lb2.mul oa.bt.2).mono (by decide),fun g H1 s1 hg=>k g H1 s1 hg⟩
  | @parts p ma q a us ps hp ha hq hu =>
   have sp:SqT K H p [.str "parts",.ref ma,.ref q]:=SqT.of hp
   have sa:SqT K H ma [.int a.1,.int a.2]:=SqT.of ha
   have oa:SmR a:=ok.1
   refine ⟨p,_,_,rfl,sp,rfl,rfl,_,rfl,iteF ⟨p,_,_,rfl,sp,rfl,rfl,_,rfl,iteF ⟨m,_,_,rfl,sm,rfl,p,_,_,rfl,sp,rfl,ma,_,1,.int a.2,rfl,rfl,sa,rfl,_,_,rfl,rfl,⟨b6 lb1,b6 oa.bt.2⟩,p,_,_,rfl,sp,rfl,ma,_,0,.int a.1,rfl,rfl,sa,rfl,m,_,_,rfl,sm,rfl,_,_,rfl,rfl,⟨b6 oa.bt.1,b6 lb2⟩,_,_,rfl,rfl,?_⟩⟩⟩
   refine ⟨_,rfl,m,_,_,rfl,sm,rfl,p,_,_,rfl,sp,rfl,ma,_,1,.int a.2,rfl,rfl,sa,rfl,_,_,rfl,rfl,⟨b6 lb2,b6 oa.bt.2⟩,_,_,rfl,la.num oa.am,la.mul oa.am,(lb2.mul oa.bt.2).mono (by decide),fun g H1 s1 hg=>k g H1 s1 hg⟩
end
end K17
namespace K17
open PySem PySem.Spec PyProof.Rows L2 GM TM BQ TR
def Lw (t:Int)(j k:Nat):Prop:=(t=0/\k < j)\/(t=1/\j < k)\/(k*7 % 13 < j*7 % 13/\t ≠ 0/\t ≠ 1)
theorem cut_to {xs:List V}{j:Nat}(h:j<=xs.length):cutV xs none (some (j:Int))=xs.take j:=by
 unfold cutV
 rw [HT.sIx_nat,HT.sIx_none,Nat.min_eq_left h]
 rfl
theorem cut_from {xs:List V}{j:Nat}(h:j<=xs.length):cutV xs (some (j:Int)) none=xs.drop j:=by
 unfold cutV
 rw [HT.sIx_nat,HT.sIx_none,Nat.min_eq_left h]
 exact List.take_of_length_le (by rw [List.length_drop]; omega)
theorem cut_at {xs:List V}{i j:Nat}(h:j<=xs.length)(hi:i<=j):cutV xs (some (i:Int)) (some (j:Int))=(xs.drop i).take (j - i):=by
 unfold cutV
 rw [HT.sIx_nat,HT.sIx_nat,Nat.min_eq_left h,Nat.min_eq_left (by omega)]
def spLower:Sp:=fun vs H Q _=>∃ (l:Addr) (rs:List Str) (j:Nat) (t:Int),vs=[.ref l,.int j,.int t]/\H l=some (.lst (rs.map V.str))/\rs.length<=20/\j < rs.length/\∀ (os:List Str) p H',Same H H'->H p=none->H' p=some (.lst (os.map V.str))->os.length<=rs.length->(∀ y ∈ os,∃ k,rs[k]?=some y/\Lw t j k)->Q (.ref p) H'
section
variable {P:Program}{w:World}{K:PySem.W.Frag}{mg:Str->Option Value}{base:Heap}
abbrev Nlow:List Str:=["_law_recipes_here","_law_j","_law_turn"]
theorem ndKJ:(["_law_k","_law_j","_law_recipes_here"]:List Str).Nodup:=by decide +kernel
theorem scLower:FnScope Nlow ["_law_recipes_here","_law_j","_law_turn"] (defScope sLower):=⟨rfl,rfl,rfl,by decide +kernel,rfl,by decide +kernel,by decide +kernel⟩
theorem ix_listK {X:Cx}{K:PySem.W.Frag}(h:X.K=K):IxR X (rIxL K):=h ▸ ix_list
theorem ok_lower {f:Addr}{fd:FuncData}(F:Fun K "_law_lower" "_law_lower" sLower f fd)(T:Txt mg):FnOk P w K mg base CX0 1 f fd ["_law_recipes_here","_law_j","_law_turn"] spLower:=by
 refine F.ok scLower (fun vs H Q E h => ?_) (fun cdv A outer s H vs Q E hr h => ?_)
 ·obtain ⟨_,_,_,_,rfl,_⟩:=h
  rfl
 ·obtain ⟨l,rs,j,t,rfl,hl,r20,jr,k⟩:=h
  refine ⟨_,(pss_cons (ps_if (pt_cmpR op_eq (pv 2) pe_int (nomark _))
    (pss_one (ps_ret (pe_slice sl_list (pv 0) po_none (po_some (pv 1)))))
    pss_nil)
   (pss_cons (ps_if (pt_cmpR op_eq (pv 2) pe_int (nomark _))
    (pss_one (ps_ret (pe_slice sl_list (pv 0) (po_some (pe_op op_add (pv 1) pe_int)) po_none)))
    pss_nil)
   (pss_one (ps_ret (pe_compC (N':=["_law_k","_law_j","_law_recipes_here"]) (fun σ=>[none,some 1,some 0].map fun t=>t.bind fun j=>(σ[j]?).join) rfl rfl (by decide +kernel) (by decide +kernel)
       (hk_of (sc:=defScope sLower) rfl (by decide +kernel)) (fun _ _ _=>blkN_by (sc:=defScope sLower) (N:=Nlow) [none,some 1,some 0] rfl rfl rfl rfl (by decide +kernel))
       (pi_range1 rfl T.range (pa_cons (pe_callB call_len_seq rfl T.len PySem.boot_len (pa_cons (pv 0) pa_nil)) pa_nil)) (fun _ _ _ _ _ _=>pg_name (i:=0) ndKJ rfl (Or.inl rfl))
       (fun _ _ _ _ _ _=>pifs_one (pt_cmpR op_lt (pe_op op_mod (pe_op op_mul (pv 0) pe_int) pe_int) (pe_op op_mod (pe_op op_mul (pv 1) pe_int) pe_int) (nomark _)))
       (fun _ _ _ _ _ _=>pe_ix (ix_listK (K:=K) rfl) (pv 2) (pv 0) (fun _ _=>rfl))))))),?_⟩
  have sub : ∀ (a b:Nat) (y:Str),y ∈ (rs.drop a).take b->∃ i,rs[i]?=some y/\a<=i/\i < a+b:=fun a b y hy=>by
   obtain ⟨i,hi⟩:=List.getElem?_of_mem hy
   by_cases c:i < b
   ·rw [List.getElem?_take_of_lt c,List.getElem?_drop] at hi
    exact ⟨a+i,hi,by omega,by omega⟩
   ·rw [List.getElem?_eq_none (by rw [List.length_take]; omega)] at hi
    cases hi
  refine ⟨_,rfl,rfl,_,rfl,ite2 (fun h0 => ?_) (fun h0 => ?_)⟩
  ·have e0:t=0:=by simpa using h0
   refine ⟨_,rfl,_,rfl,_,rfl,l,_,rfl,SqL.of hl,fun p np => ?_⟩
   rw [cut_to (by rw [List.length_map]; omega),<- List.map_take]
   refine k (rs.take j) p _ (Same.upd np) np upd_same (by rw [List.length_take]; omega) fun y hy => ?_
   obtain ⟨i,hi,_,h2⟩:=sub 0 j y hy
   exact ⟨i,hi,.inl ⟨e0,by omega⟩⟩
  have n0:t ≠ 0:=by simpa using h0
  refine ⟨_,rfl,rfl,_,rfl,ite2 (fun h1 => ?_) (fun h1 => ?_)⟩
  ·have e1:t=1:=by simpa using h1
   refine ⟨_,rfl,_,rfl,_,_,rfl,rfl,_,rfl,l,_,rfl,SqL.of hl,fun p np => ?_⟩
   have ec:((j:Int)+1)=((j+1:Nat):Int):=rfl
   rw [ec,cut_from (by rw [List.length_map]; omega),<- List.map_drop]
   refine k (rs.drop (j+1)) p _ (Same.upd np) np upd_same (by rw [List.length_drop]; omega) fun y hy => ?_
   rw [<- List.take_length (l:=rs.drop (j+1))] at hy
   obtain ⟨i,hi,h2,_⟩:=sub _ _ y hy
   exact ⟨i,hi,.inr (.inl ⟨e1,by omega⟩)⟩
  have n1:t ≠ 1:=by simpa using h1
  refine ⟨_,rfl,l,_,rfl,.inl (SqL.of hl),_,rfl,by rw [List.length_map]; omega,by rw [List.length_map]; omega,fun D nD => ?_⟩
  rw [List.length_map,Int.toNat_natCast]
  refine comp_filt Ys.rng (fun v=>match v with | .int i=>decide (i*7 % 13 < (j:Int)*7 % 13) | _=>false) (fun x y _=>∃ (i:Nat) (z:Str),x = .int (0+(i:Int))/\rs[i]?=some z/\y = .str z) (fun _ _ _ _ h _=>h) nD (by rw [rngV_len]; omega) (fun i v H' R1 R2 hv sm q1 q2 => ?_) (fun ys H1 s1 hD1 yl hy => ?_)
  ·obtain ⟨hi,rfl⟩:=rngV_get hv
   obtain ⟨z,hz⟩ : ∃ z,rs[i]?=some z:=⟨_,List.getElem?_eq_getElem hi⟩
   refine ⟨(Keep.refl _).set rfl,_,rfl,_,_,rfl,rfl,.inr ⟨by decide,by decide⟩,_,_,rfl,rfl,(by show (0:Int) < 13; decide),_,rfl,_,_,rfl,rfl,.inr ⟨by decide,by decide⟩,_,_,rfl,rfl,(by show (0:Int) < 13; decide),_,_,rfl,rfl,_,rfl,ite2 (fun h2 => ?_) (fun h2 => ?_)⟩
   ·refine ⟨_,rfl,_,rfl,l,_,(0+(i:Int)),.str z,rfl,rfl,SqL.of (sm _ _ hl),?_,q1 h2 _ _ (Same.refl _) ⟨i,z,rfl,hz,rfl⟩⟩
    rw [Int.zero_add]
    exact atI_nat (by rw [List.getElem?_map,hz]; rfl)
   ·exact q2 (by simpa using h2) _ (Same.refl _)
  ·have all : ∀ y ∈ ys,∃ (i:Nat) (z:Str),i*7 % 13 < j*7 % 13/\rs[i]?=some z/\y = .str z:=fun y hy'=>by
    obtain ⟨a,ha⟩:=List.getElem?_of_mem hy'
    have al:a < ys.length:=(List.getElem?_eq_some_iff.mp ha).1
    rw [yl] at al
    have hx:=List.getElem?_eq_getElem al
    obtain ⟨i,z,e1,e2,e3⟩:=hy a _ _ hx ha
    have q:=(List.mem_filter.mp (List.mem_of_getElem? hx)).2
    rw [e1] at q
    have q':(0+(i:Int))*7 % 13 < (j:Int)*7 % 13:=of_decide_eq_true q
    rw [Int.zero_add] at q'
    exact ⟨i,z,by exact_mod_cast q',e2,e3⟩
   obtain ⟨os,eo,ho⟩ : ∃ os:List Str,ys=os.map V.str/\∀ y ∈ os,∃ k,rs[k]?=some y/\Lw t j k:=by
    clear yl hy hD1
    induction ys with
    | nil=>exact ⟨[],rfl,fun y h=>nomatch h⟩
    | cons y r ih =>
     obtain ⟨os,e,h⟩:=ih fun y hy=>all y (List.mem_cons_of_mem _ hy)
     obtain ⟨i,z,a1,a2,rfl⟩:=all y (List.mem_cons_self ..)
     refine ⟨z :: os,by rw [e]; rfl,fun y hy => ?_⟩
     rcases List.mem_cons.mp hy with rfl | hy
     ·exact ⟨i,a2,.inr (.inr ⟨a1,n0,n1⟩)⟩
     ·exact h y hy
   rw [eo] at hD1
   refine k os D H1 s1 nD hD1 ?_ ho
   have:=List.length_filter_le (fun v=>match v with | V.int i=>decide (i*7 % 13 < (j:Int)*7 % 13) | _=>false) (rngV 0 rs.length)
   rw [rngV_len] at this
   rw [eo,List.length_map] at yl
   omega
end
end K17
namespace L2
open PySem PySem.Spec PyProof.Rows
def Itz3 (K:PySem.W.Frag)(a b:Addr):It :=
  ⟨fun i H=>∃ xs ys,SqL K H a xs/\SqL K H b ys/\i < xs.length/\i < ys.length,
   fun i H v H'=>∃ T,H T=none/\v = .ref T/\∀ xs ys,SqL K H a xs->SqL K H b ys->∃ x y,xs[i]?=some x/\ys[i]?=some y/\H'=upd H T (.tup [x,y]),
   fun i H=>∃ xs ys,SqL K H a xs/\SqL K H b ys/\(i=xs.length\/(i < xs.length/\i=ys.length))⟩
def ZipSt3 (n a b:Nat)(i:Nat)(h:Heap):Prop:=IsZip h (n+4) (n+2) (n+3) .none/\IsPair h (n+2) (.ref n) (.ref (n+1))/\(∃ x y,IsPair h (n+3) x y)/\h.IsListIter n a i/\h.IsListIter (n+1) b i
theorem turn_zip3 {P:Program}{w:World}{K:PySem.W.Frag}{es:List Expr}{k1:Nat}{p1:Pos}{n a b:Nat}(ha:a < n)(hb:b < n) :
  Turn P w K (.Tuple es k1 p1) (Itz3 K a b) [n+4,n+2,n+3,n,n+1] (n+4) (ZipSt3 n a b) where
 mem:=by simp
 obj:=fun i h st c hc=>by
  obtain ⟨c1,c2,⟨x,y,c3⟩,⟨o4,d4,_,f4⟩,⟨o5,d5,_,f5⟩⟩:=st
  have hc':c=n+4\/c=n+2\/c=n+3\/c=n\/c=n+1:=by simpa using hc
  rcases hc' with e | e | e | e | e
  ·subst e; exact ⟨_,c1,fun v z=>by cases z⟩
  ·subst e; exact ⟨_,c2,fun v z=>by cases z⟩
  ·subst e; exact ⟨_,c3,fun v z=>by cases z⟩
  ·subst e; exact ⟨_,d4,fun v z=>by rw [f4] at z; cases z⟩
  ·subst e; exact ⟨_,d5,fun v z=>by rw [f5] at z; cases z⟩
 keep:=fun i h h' st k=>by
  obtain ⟨c1,c2,⟨x,y,c3⟩,c4,c5⟩:=st
  exact ⟨k _ (by simp) _ c1,k _ (by simp) _ c2,⟨x,y,k _ (by simp) _ c3⟩,c4.at fun o e=>k _ (by simp) o e,c5.at fun o e=>k _ (by simp) o e⟩
 item:=by
  intro X hP hw hK hc i pins s σ H E I hf st hg
  subst hP hw hK
  obtain ⟨xs,ys,hx,hy,l1,l2⟩:=hg
  obtain ⟨its,r1,tx,_⟩:=I.list hx
  obtain ⟨its',r2,ty,_⟩:=I.list hy
  have e1:=r1.length
  have e2:=r2.length
  obtain ⟨c1,c2,⟨x0,y0,c3⟩,c4,c5⟩:=st
  have hh:X.A.in1.handled=none:=I.ok.hd hc
  refine zipPy (Draws.list hh n a (by show (_:Nat) ≠ _; omega) its.toArray) (Draws.list hh (n+1) b (by show (_:Nat) ≠ _; omega) its'.toArray) (ap_new ha hb) c1 c2 c3 ⟨c4,isList_of tx⟩ ⟨c5,isList_of ty⟩ (by rw [List.size_toArray]; omega) (by rw [List.size_toArray]; omega) fun x y T g t' px py hT cz cO s1 s2 cT kp=>⟨.ref T,rfl,?_⟩
  subst hT
  refine wpAny_letOwnedTupleGo_zip (s:={ s with heap:=g,toks:=t' }) cz fun g' cz' sb => ?_
  obtain ⟨vx,hvx⟩ : ∃ v,xs[i]?=some v:=⟨_,List.getElem?_eq_getElem l1⟩
  obtain ⟨vy,hvy⟩ : ∃ v,ys[i]?=some v:=⟨_,List.getElem?_eq_getElem l2⟩
  obtain ⟨ux,hux,rx⟩:=r1.get hvx
  obtain ⟨uy,huy,ry⟩:=r2.get hvy
  have ex:x=ux:=by
   have:its.toArray[i]?=some x:=px
   rw [<- Array.getElem?_toList,List.toList_toArray,hux] at this
   exact (Option.some.inj this).symm
  have ey:y=uy:=by
   have:its'.toArray[i]?=some y:=py
   rw [<- Array.getElem?_toList,List.toList_toArray,huy] at this
   exact (Option.some.inj this).symm
  subst ex ey
  have hfr:H s.heap.objs.size=none:=I.hok.fresh (Nat.le_refl _)
  have I0:Inv X pins σ (upd H s.heap.objs.size (.tup [vx,vy])) { s with heap:=s.heap.push { cls:=.type "tuple",data:=.seq #[x,y] },toks:=t' } :=
   I.laid (fun c u q=>Heap.get?_push_of_some _ q) (Nat.le_refl _) ⟨by show 2<=sizeLine; decide,[x,y],.cons rx (.cons ry .nil),⟨_,Heap.get?_push_size s.heap rfl,rfl,_,rfl⟩⟩
  have lz:n+4 < s.heap.objs.size:=Heap.lt_size c1
  have fpn : ∀ c ∈ [n+4,n+2,n+3,n,n+1],c ≠ s.heap.objs.size:=fun c hc'=>by
   have hc'':c=n+4\/c=n+2\/c=n+3\/c=n\/c=n+1:=by simpa using hc'
   rcases hc'' with e | e | e | e | e <;> (subst e; exact Nat.ne_of_lt (by omega))
  have hf0 : ∀ c ∈ [n+4,n+2,n+3,n,n+1],FpOk X pins (upd H s.heap.objs.size (.tup [vx,vy])) c:=fun c hc'=>⟨by rw [upd_ne (fpn c hc')]; exact (hf c hc').1,(hf c hc').2⟩
  have I1:Inv X pins σ (upd H s.heap.objs.size (.tup [vx,vy])) { s with heap:=g',toks:=t' }:=by
   refine Inv.turnedL (s:={ s with heap:=s.heap.push { cls:=.type "tuple",data:=.seq #[x,y] },toks:=t' }) (h':=g') (t':=t') (ch:=[n+4,n+2,n+3,n,n+1]) I0 (fun c o hc' e => ?_) hf0
   replace e:(s.heap.push { cls:=.type "tuple",data:=.seq #[x,y] }).get? c=some o:=e
   have hn : ∀ d ∈ [n+4,n+2,n+3,n,n+1],c ≠ d:=fun d hd z=>hc' (by rw [z]; exact hd)
   refine sb.extBut _ _ (hn _ (by simp)) ?_
   by_cases ec:c=s.heap.objs.size
   ·rw [ec] at e ⊢
    rw [Heap.get?_push_size s.heap rfl] at e
    cases e
    exact cT
   ·rw [Heap.get?_push_ne _ _ _ ec] at e
    exact kp c o (hn _ (by simp)) (hn _ (by simp)) (hn _ (by simp)) (hn _ (by simp)) e
  refine ⟨.ref s.heap.objs.size,_,I1,rfl,⟨_,hfr,rfl,fun xs' ys' hx' hy'=>⟨vx,vy,by rw [I.list_inj hx' hx]; exact hvx,by rw [I.list_inj hy' hy]; exact hvy,rfl⟩⟩,?_,fun c hc'=>(hf0 c hc').1⟩
  have nz : ∀ d:Nat,d < n+4->d ≠ n+4:=fun d hd=>Nat.ne_of_lt hd
  exact ⟨cz',sb.extBut _ _ (nz _ (by omega)) (kp _ _ (nz _ (by omega)) (by show (_:Nat) ≠ _; omega) (by show (_:Nat) ≠ _; omega) (by show (_:Nat) ≠ _; omega) c2),⟨x,y,sb.extBut _ _ (nz _ (by omega)) cO⟩,s1.1.extBut sb.extBut (nz _ (by omega)),s2.1.extBut sb.extBut (nz _ (by omega))⟩
 done:=by
  intro X hP hw hK hc i pins s σ H E I hf st hg
  subst hP hw hK
  obtain ⟨xs,ys,hx,hy,l⟩:=hg
  obtain ⟨its,r1,tx,_⟩:=I.list hx
  obtain ⟨its',r2,ty,_⟩:=I.list hy
  have e1:=r1.length
  have e2:=r2.length
  obtain ⟨c1,c2,⟨x0,y0,c3⟩,c4,c5⟩:=st
  have hh:X.A.in1.handled=none:=I.ok.hd hc
  refine zipPyStop (Draws.list hh n a (by show (_:Nat) ≠ _; omega) its.toArray) (Draws.list hh (n+1) b (by show (_:Nat) ≠ _; omega) its'.toArray) (ap_new ha hb) c1 c2 c3 ⟨c4,isList_of tx⟩ ⟨c5,isList_of ty⟩ (by rw [List.size_toArray,List.size_toArray]; omega) fun g t' kp=>⟨rfl,I.turnedL (ch:=[n+4,n+2,n+3,n,n+1]) (fun c o hc' e => ?_) hf⟩
  have hn : ∀ d ∈ [n+4,n+2,n+3,n,n+1],c ≠ d:=fun d hd z=>hc' (by rw [z]; exact hd)
  exact kp c o (hn _ (by simp)) (hn _ (by simp)) (hn _ (by simp)) (hn _ (by simp)) e
 self:=fun _ _ _ _ _ st h=>wpAny_pyIter_zip st.1 h
abbrev xo1 (h:Heap)(a:Addr):Heap:=h.push { cls:=.type "list_iterator",data:=.fields #[.ref a,.int 0 0] }
abbrev xo2 (h:Heap)(a b:Addr):Heap:=(xo1 h a).push { cls:=.type "list_iterator",data:=.fields #[.ref b,.int 0 0] }
abbrev xo3 (h:Heap)(a b:Addr):Heap:=(xo2 h a b).push { cls:=.type "tuple",data:=.seq #[.ref h.objs.size,.ref (xo1 h a).objs.size] }
abbrev xo4 (h:Heap)(a b:Addr):Heap:=(xo3 h a b).push { cls:=.type "tuple",data:=.seq #[.none,.none] }
abbrev xo5 (h:Heap)(a b:Addr):Heap:=(xo4 h a b).push { cls:=.type "zip",data:=.fields #[.none,.bool false,.bool false,.ref (xo2 h a b).objs.size,.ref (xo3 h a b).objs.size] }
theorem zipMade3 (a b:Addr)(xs ys:Array Value):Meets (Builtin.«zip.__new__» ⟨[.type "zip",.ref a,.ref b],[]⟩) (fun _ R s=>s.heap.IsList a xs/\s.heap.IsList b ys/\R (.ok (.ret (.ref (xo4 s.heap a b).objs.size))) { s with heap:=xo5 s.heap a b }):=.of_wp fun prog w A R s h=>by
 obtain ⟨hp,g,d,tk,os⟩:=s
 obtain ⟨q1,q2,q⟩:=h
 have hsub:=sub_zip
 have u1:Heap.IsList (Shared.heap ⟨hp,g,d,tk,os⟩) a xs:=q1
 have u2:Heap.IsList (Shared.heap ⟨hp.push { cls:=.type "list_iterator",data:=.fields #[.ref a,.int 0 0] },g,d,tk,os⟩) b ys:=Heap.IsList.push q2 _
 wp_walk using wpAny_pyIter_list u1,wpAny_pyIter_list u2
 exact ⟨_,rfl,q⟩
theorem call_zipLL {prog:Program}{w:World}{A:Around}{E:Value->Shared->Prop}{s:Shared}{a b:Addr}{xs ys:Array Value}{Q:Value->Shared->Prop}(q1:s.heap.IsList a xs)(q2:s.heap.IsList b ys)
  (q : ∀ g,ZipSt3 s.heap.objs.size a b 0 g->(∀ c o,s.heap.get? c=some o->g.get? c=some o)->Q (.ref (s.heap.objs.size+4)) { s with heap:=g }):wpAny (model prog w) A (call (.type "zip") [.ref a,.ref b]) Q E s:=by
 refine callType_new F.called_zip (by decide) (F.typeCall_zip_2 _ _) (F.newCall_zip_2 _ _) (fun obj=>F.args_object_init_3 obj _ _) F.entry_zip_new (zipMade3 a b xs ys) ⟨q1,q2,?_⟩
 have z1:(xo1 s.heap a).objs.size=s.heap.objs.size+1:=Heap.size_push ..
 have z2:(xo2 s.heap a b).objs.size=s.heap.objs.size+2:=by rw [Heap.size_push,z1]
 have z3:(xo3 s.heap a b).objs.size=s.heap.objs.size+3:=by rw [Heap.size_push,z2]
 have z4:(xo4 s.heap a b).objs.size=s.heap.objs.size+4:=by rw [Heap.size_push,z3]
 have o5:(xo5 s.heap a b).get? (xo4 s.heap a b).objs.size=some _:=Heap.get?_push_size _ rfl
 have o4:(xo5 s.heap a b).get? (xo3 s.heap a b).objs.size=some _:=Heap.get?_push_of_some _ (Heap.get?_push_size _ rfl)
 have o3:(xo5 s.heap a b).get? (xo2 s.heap a b).objs.size=some _:=Heap.get?_push_of_some _ (Heap.get?_push_of_some _ (Heap.get?_push_size _ rfl))
 have o2:(xo5 s.heap a b).get? (xo1 s.heap a).objs.size=some _:=Heap.get?_push_of_some _ (Heap.get?_push_of_some _ (Heap.get?_push_of_some _ (Heap.get?_push_size _ rfl)))
 have o1:(xo5 s.heap a b).get? s.heap.objs.size=some _:=Heap.get?_push_of_some _ (Heap.get?_push_of_some _ (Heap.get?_push_of_some _ (Heap.get?_push_of_some _ (Heap.get?_push_size _ rfl))))
 rw [z2,z3,z4] at o5
 rw [z1,z2] at o3
 rw [z3] at o4
 rw [z1] at o2
 show _/\_
 rw [z4]
 exact ⟨⟨_,o5,rfl⟩,q _ ⟨o5,o3,⟨_,_,o4⟩,⟨_,o1,rfl,rfl⟩,⟨_,o2,rfl,rfl⟩⟩ fun c o x=>Heap.get?_push_of_some _ (Heap.get?_push_of_some _ (Heap.get?_push_of_some _ (Heap.get?_push_of_some _ (Heap.get?_push_of_some _ x))))⟩
def iZip3 (K:PySem.W.Frag)(ta:TA):TI:=fun σ H R=>ta σ H fun vs H1=>∃ a b,vs=[.ref a,.ref b]/\(∃ xs,SqL K H1 a xs)/\(∃ ys,SqL K H1 b ys)/\R (Itz3 K a b) H1
theorem pi_zip3 {X:Cx}{es:List Expr}{k1:Nat}{p1:Pos}{e1 e2:Expr}{ta:TA}{p pos:Pos}(hg:Gl X "zip")(hm:X.mg "zip" = none)(ha:PA X [e1,e2] ta)(hs:starEach [e1,e2] X.env=[(false,eval e1 X.env),(false,eval e2 X.env)]:=by rfl)(hs2:starEach [e2] X.env=[(false,eval e2 X.env)]:=by rfl) :
  PI X (.Tuple es k1 p1) (.Call (.Name "zip" p) [e1,e2] [] pos) (iZip3 X.K ta):=by
 intro pins s σ H R I h
 refine Call_ (ld_blt I hg hm bt_zip (PyProof.Rows.callWith_type1 (thn (ha pos pins s σ H _ I h) fun us s1 ⟨vs,H1,I1,r1,q1⟩ => ?_) (by rw [hs,hs2]) (by rw [hs2]; rfl)))
 obtain ⟨a,b,rfl,⟨xs,hx⟩,⟨ys,hy⟩,q⟩:=q1
 cases r1 with
 | cons r rr =>
  cases rr with
  | cons r' rr =>
   cases rr
   cases r
   cases r'
   obtain ⟨its,_,tx,_⟩:=I1.list hx
   obtain ⟨its',_,ty,_⟩:=I1.list hy
   have la:a < s1.heap.objs.size:=by obtain ⟨o,e,_⟩:=isList_of tx; exact Heap.lt_size e
   have lb:b < s1.heap.objs.size:=by obtain ⟨o,e,_⟩:=isList_of ty; exact Heap.lt_size e
   refine call_zipLL (isList_of tx) (isList_of ty) fun g st kp=>wpAny_pyIter_zip st.1 ?_
   have I2:Inv X pins σ H1 { s1 with heap:=g }:=I1.kept (t':=s1.toks) kp
   refine ⟨s1.heap.objs.size+4,_,_,_,H1,rfl,I2,turn_zip3 la lb,st,fun c hc => ?_,q⟩
   refine I1.fpOk ?_ (I1.hok.fresh ?_)
   all_goals
    have hc':c=s1.heap.objs.size+4\/c=s1.heap.objs.size+2\/c=s1.heap.objs.size+3\/c=s1.heap.objs.size\/c=s1.heap.objs.size+1:=by simpa using hc
    rcases hc' with e | e | e | e | e <;> (subst e; omega)
theorem for_zip3 {K:PySem.W.Frag}{a b:Addr}{xs ys:List V}{g:TG}{tb:TS}{D:Ends}{σ:St}{H:Hp}(Pv:Nat->St->Hp->Prop)(h0:Pv 0 σ H)(hl : ∀ i σ H,i<=xs.length->Pv i σ H->SqL K H a xs/\SqL K H b ys)(hn:xs.length=ys.length)
  (hs : ∀ i x y T σ H,xs[i]?=some x->ys[i]?=some y->H T=none->Pv i σ H->g (.ref T) σ (upd H T (.tup [x,y])) fun σ2 H2=>tb { D with nx:=Pv (i+1),ct:=Pv (i+1),bk:=D.nx } σ2 H2) (hd : ∀ σ H,Pv xs.length σ H->D.nx σ H) :
  ∃ W:Nat->Nat->St->Hp->Prop,(∃ m,W 0 m σ H)/\∀ i m σ H,W i m σ H ->
   ((Itz3 K a b).stop i H/\D.nx σ H)\/((Itz3 K a b).go i H/\∃ N:St->Hp->Prop,(∀ σ' H',N σ' H'->∃ m',m' < m/\W (i+1) m' σ' H')/\∀ v H',(Itz3 K a b).yld i H v H'->g v σ H' fun σ2 H2=>tb { D with nx:=N,ct:=N,bk:=D.nx } σ2 H2):=by
 refine ⟨fun i m σ H=>m=xs.length - i/\i<=xs.length/\Pv i σ H,⟨xs.length,by simp,Nat.zero_le _,h0⟩,?_⟩
 rintro i m σ H ⟨rfl,hi,p⟩
 obtain ⟨q1,q2⟩:=hl i σ H hi p
 by_cases hlt:i < xs.length
 ·refine .inr ⟨⟨xs,ys,q1,q2,hlt,by omega⟩,Pv (i+1),fun σ' H' p'=>⟨xs.length - (i+1),by omega,rfl,hlt,p'⟩,fun v H' y => ?_⟩
  obtain ⟨T,hT,rfl,y⟩:=y
  obtain ⟨x',y',e1,e2,rfl⟩:=y xs ys q1 q2
  exact hs i x' y' T σ H e1 e2 hT p
 ·have e:i=xs.length:=by omega
  subst e
  exact .inl ⟨⟨xs,ys,q1,q2,.inl rfl⟩,hd σ H p⟩
end L2
namespace L2
open PySem PySem.Spec PyProof.Rows
def Ite (K:PySem.W.Frag)(b:Addr):It :=
  ⟨fun i H=>∃ ys,SqL K H b ys/\i < ys.length,
   fun i H v H'=>∃ T,H T=none/\v = .ref T/\∀ ys,SqL K H b ys->∃ y,ys[i]?=some y/\H'=upd H T (.tup [.int i,y]),
   fun i H=>∃ ys,SqL K H b ys/\i=ys.length⟩
def EnuSt (n b:Nat)(i:Nat)(h:Heap):Prop:=(∃ old,IsEnum h (n+1) n (i:Int) old)/\h.IsListIter n b i
def iEnu (K:PySem.W.Frag)(ta:TA):TI:=fun σ H R=>ta σ H fun vs H1=>∃ b,vs=[.ref b]/\(∃ ys,SqL K H1 b ys)/\R (Ite K b) H1
theorem bt_enumerate:bootBuiltins "enumerate" = some (.type "enumerate"):=by decide +kernel
end L2
namespace HT
open PySem PySem.Spec PyProof.Rows
open AutoSeq1 (wpAny_loadPart')
theorem meets_enumerate_newT (l:Addr)(items:Array Value)(n:Nat)(dct:Option Addr)(sl:Array (Option Value)) :
  Meets (Builtin.«enumerate.__new__» ⟨[.type "enumerate",.ref l],[]⟩) (fun _ R s=>s.heap.get? l=some { cls:=.type "tuple",dict:=dct,data:=.seq items n,slots:=sl } /\
   R (.ok (.ret (.ref (s.heap.push { cls:=.type "tuple_iterator",data:=.fields #[.ref l,.int 0 0] }).objs.size)))
    { s with heap:=(s.heap.push { cls:=.type "tuple_iterator",data:=.fields #[.ref l,.int 0 0] }).push { cls:=.type "enumerate",data:=.fields #[.none,.bool false,.ref s.heap.objs.size,rawInt 0,.none,.none] } }) :=
 .of_wp fun prog w A R s h=>by
  obtain ⟨hp,g,d,tk,os⟩:=s; obtain ⟨hl,h⟩:=h
  have hL:Heap.IsTuple hp l items:=⟨_,hl,rfl,_,rfl⟩
  have hsub:=sub_enumerate
  wp_walk using wpAny_loadPart' hl
  refine wpAny_stack_any fun st=>wpAny_pure ?_
  split
  ·rename_i c _ _ _ _ _
   cases (c == Value.type "enumerate")
   ·wp_walk using wpAny_loadPart' hl,wpAny_pyIter_tuple hL
    exact ⟨_,rfl,h⟩
   ·wp_walk using wpAny_loadPart' hl,wpAny_pyIter_tuple hL
    exact ⟨_,rfl,h⟩
  ·wp_walk using wpAny_loadPart' hl,wpAny_pyIter_tuple hL
   exact ⟨_,rfl,h⟩
section
variable {prog:Program}{w:World}{A:Around}{E:Value->Shared->Prop}{s:Shared}
theorem call_enumerate_tup {l:Addr}{items:Array Value}{Q:Value->Shared->Prop}(hL:s.heap.IsTuple l items)
  (h : ∀ h',IsEnum h' (s.heap.objs.size+1) s.heap.objs.size 0 .none->h'.IsTupleIter s.heap.objs.size l 0->h'.objs.size=s.heap.objs.size+2 ->
   (∀ b o,s.heap.get? b=some o->h'.get? b=some o)->Q (.ref (s.heap.objs.size+1)) { s with heap:=h' }) :
  wpAny (model prog w) A (call (.type "enumerate") [.ref l]) Q E s:=by
 obtain ⟨⟨c,dct,dt,sl⟩,hl,hc,n,hd⟩:=hL
 replace hc:c = .type "tuple" := hc
 replace hd:dt = .seq items n:=hd
 subst hc hd
 refine callType_new F.called_enumerate (by decide) (F.typeCall_enumerate_1 _) (F.newCall_enumerate_1 _) (fun obj=>F.args_object_init_2 obj _) F.entry_enumerate_new
  (meets_enumerate_newT l items n dct sl) ⟨hl,?_⟩
 have hz:(s.heap.push { cls:=.type "tuple_iterator",data:=.fields #[.ref l,.int 0 0] }).objs.size=s.heap.objs.size+1:=Heap.size_push ..
 show _/\_
 rw [hz]
 have he:IsEnum ((s.heap.push { cls:=.type "tuple_iterator",data:=.fields #[.ref l,.int 0 0] }).push
   { cls:=.type "enumerate",data:=.fields #[.none,.bool false,.ref s.heap.objs.size,rawInt 0,.none,.none] }) (s.heap.objs.size+1) s.heap.objs.size 0 .none:=by
  have:=Heap.get?_push_size (s.heap.push { cls:=.type "tuple_iterator",data:=.fields #[.ref l,.int 0 0] })
   (o:={ cls:=.type "enumerate",data:=.fields #[.none,.bool false,.ref s.heap.objs.size,rawInt 0,.none,.none] }) rfl
  rw [hz] at this; exact this
 refine ⟨⟨_,he,rfl⟩,h _ he ⟨_,Heap.get?_push_of_some _ (Heap.get?_push_size _ rfl),rfl,rfl⟩ (by rw [Heap.size_push,hz]) fun b o x=>Heap.get?_push_of_some _ (Heap.get?_push_of_some _ x)⟩
end
end HT
namespace L2
open PySem PySem.Spec PyProof.Rows
def IteT (K:PySem.W.Frag)(b:Addr):It :=
  ⟨fun i H=>∃ ys,SqT K H b ys/\i < ys.length,
   fun i H v H'=>∃ T,H T=none/\v = .ref T/\∀ ys,SqT K H b ys->∃ y,ys[i]?=some y/\H'=upd H T (.tup [.int i,y]),
   fun i H=>∃ ys,SqT K H b ys/\i=ys.length⟩
def EnuStT (n b:Nat)(i:Nat)(h:Heap):Prop:=(∃ old,IsEnum h (n+1) n (i:Int) old)/\h.IsTupleIter n b i
theorem turn_enumT {P:Program}{w:World}{K:PySem.W.Frag}{es:List Expr}{k1:Nat}{p1:Pos}{n b:Nat}(hb:b < n):Turn P w K (.Tuple es k1 p1) (IteT K b) [n+1,n] (n+1) (EnuStT n b) where
 mem:=by simp
 obj:=fun i h st c hc=>by
  obtain ⟨⟨old,c1⟩,⟨o5,d5,_,f5⟩⟩:=st
  have hc':c=n+1\/c=n:=by simpa using hc
  rcases hc' with e | e
  ·subst e; exact ⟨_,c1,fun v z=>by cases z⟩
  ·subst e; exact ⟨_,d5,fun v z=>by rw [f5] at z; cases z⟩
 keep:=fun i h h' st k=>by
  obtain ⟨⟨old,c1⟩,c5⟩:=st
  exact ⟨⟨old,k _ (by simp) _ c1⟩,c5.at fun o e=>k _ (by simp) o e⟩
 item:=by
  intro X hP hw hK hc i pins s σ H E I hf st hg
  subst hP hw hK
  obtain ⟨ys,hy,l2⟩:=hg
  obtain ⟨its',r2,ty,_⟩:=I.tuple hy
  have e2:=r2.length
  obtain ⟨⟨old,c1⟩,c5⟩:=st
  obtain ⟨vy,hvy⟩ : ∃ v,ys[i]?=some v:=⟨_,List.getElem?_eq_getElem l2⟩
  obtain ⟨uy,huy,ry⟩:=r2.get hvy
  have D:=drawsTup (prog:=X.prog) (w:=X.w) (A:=X.A.in1) (I.ok.hd hc) n b (by show (_:Nat) ≠ _; omega) its'.toArray
  refine wpAny_pyNext_enum_itemD D c1 ⟨c5,ty⟩ (by rw [List.size_toArray,<- e2]; exact l2) (by show (_:Nat) ≠ _; omega) (fun z=>by
   rcases List.mem_cons.mp z with z | z
   ·exact absurd z (by show (_:Nat) ≠ _; omega)
   ·exact absurd (List.mem_singleton.mp z) (by show (_:Nat) ≠ _; omega)) fun x g tk hx cz s2 cT sz kp=>⟨.ref s.heap.objs.size,rfl,?_⟩
  have ex:x=uy:=by
   rw [<- Array.getElem?_toList,List.toList_toArray,huy] at hx
   exact (Option.some.inj hx).symm
  subst ex
  refine wpAny_letOwnedTupleGo_enum (s:={ s with heap:=g,toks:=tk+1 }) cz fun g' cz' sb => ?_
  have hfr:H s.heap.objs.size=none:=I.hok.fresh (Nat.le_refl _)
  have I0:Inv X pins σ (upd H s.heap.objs.size (.tup [.int i,vy])) { s with heap:=s.heap.push { cls:=.type "tuple",data:=.seq #[.int i tk,x] },toks:=tk+1 } :=
   I.laid (fun c u q=>Heap.get?_push_of_some _ q) (Nat.le_refl _) ⟨by show 2<=sizeLine; decide,[.int i tk,x],.cons ⟨_,rfl⟩ (.cons ry .nil),⟨_,Heap.get?_push_size s.heap rfl,rfl,_,rfl⟩⟩
  have lz:n+1 < s.heap.objs.size:=Heap.lt_size c1
  have fpn : ∀ c ∈ [n+1,n],c ≠ s.heap.objs.size:=fun c hc'=>by
   have hc'':c=n+1\/c=n:=by simpa using hc'
   rcases hc'' with e | e <;> (subst e; exact Nat.ne_of_lt (by omega))
  have hf0 : ∀ c ∈ [n+1,n],FpOk X pins (upd H s.heap.objs.size (.tup [.int i,vy])) c:=fun c hc'=>⟨by rw [upd_ne (fpn c hc')]; exact (hf c hc').1,(hf c hc').2⟩
  have I1:Inv X pins σ (upd H s.heap.objs.size (.tup [.int i,vy])) { s with heap:=g',toks:=tk+1 }:=by
   refine Inv.turnedL (s:={ s with heap:=s.heap.push { cls:=.type "tuple",data:=.seq #[.int i tk,x] },toks:=tk+1 }) (h':=g') (t':=tk+1) (ch:=[n+1,n]) I0 (fun c o hc' e => ?_) hf0
   replace e:(s.heap.push { cls:=.type "tuple",data:=.seq #[.int i tk,x] }).get? c=some o:=e
   have hn : ∀ d ∈ [n+1,n],c ≠ d:=fun d hd z=>hc' (by rw [z]; exact hd)
   refine sb.extBut _ _ (hn _ (by simp)) ?_
   by_cases ec:c=s.heap.objs.size
   ·rw [ec] at e ⊢
    rw [Heap.get?_push_size s.heap rfl] at e
    cases e
    exact cT
   ·rw [Heap.get?_push_ne _ _ _ ec] at e
    exact kp c o (hn _ (by simp)) (hn _ (by simp)) e
  refine ⟨.ref s.heap.objs.size,_,I1,rfl,⟨_,hfr,rfl,fun ys' hy'=>⟨vy,by rw [I.tuple_inj hy' hy]; exact hvy,rfl⟩⟩,?_,fun c hc'=>(hf0 c hc').1⟩
  exact ⟨⟨x,cz'⟩,s2.1.extBut sb.extBut (Nat.ne_of_lt (Nat.lt_succ_self n))⟩
 done:=by
  intro X hP hw hK hc i pins s σ H E I hf st hg
  subst hP hw hK
  obtain ⟨ys,hy,l⟩:=hg
  obtain ⟨its',r2,ty,_⟩:=I.tuple hy
  have e2:=r2.length
  obtain ⟨⟨old,c1⟩,c5⟩:=st
  have hh:X.A.handled=none:=I.ok.hd hc
  have D:=drawsTup (prog:=X.prog) (w:=X.w) (A:=X.A.in1) hh n b (by show (_:Nat) ≠ _; omega) its'.toArray
  have ez:i=its'.toArray.size:=by rw [List.size_toArray,<- e2]; exact l
  refine wpAny_pyNext_enum_endD D c1 (ez ▸ ⟨c5,ty⟩) fun g kp=>⟨rfl,I.turnedL (t':=s.toks) (ch:=[n+1,n]) (fun c o hc' e => ?_) hf⟩
  exact kp c o (fun z=>hc' (by rw [z]; simp)) e
 self:=fun _ _ _ _ _ st h=>let ⟨⟨_,c1⟩,_⟩:=st; wpAny_pyIter_enum c1 h
def iEnuT (K:PySem.W.Frag)(ta:TA):TI:=fun σ H R=>ta σ H fun vs H1=>∃ b,vs=[.ref b]/\(∃ ys,SqT K H1 b ys)/\R (IteT K b) H1
theorem pi_enumT {X:Cx}{es:List Expr}{k1:Nat}{p1:Pos}{e1:Expr}{ta:TA}{p pos:Pos}(hg:Gl X "enumerate")(hm:X.mg "enumerate" = none)(ha:PA X [e1] ta)(hs:starEach [e1] X.env=[(false,eval e1 X.env)]:=by rfl) :
  PI X (.Tuple es k1 p1) (.Call (.Name "enumerate" p) [e1] [] pos) (iEnuT X.K ta):=by
 intro pins s σ H R I h
 refine Call_ (ld_blt I hg hm bt_enumerate (PyProof.Rows.callWith_type1 (thn (ha pos pins s σ H _ I h) fun us s1 ⟨vs,H1,I1,r1,q1⟩ => ?_) hs rfl))
 obtain ⟨b,rfl,⟨ys,hy⟩,q⟩:=q1
 cases r1 with
 | cons r rr =>
  cases rr
  cases r
  obtain ⟨its',_,ty,_⟩:=I1.tuple hy
  have lb:b < s1.heap.objs.size:=by obtain ⟨o,e,_⟩:=show Heap.IsTuple _ _ _ from ty; exact Heap.lt_size e
  refine HT.call_enumerate_tup (show s1.heap.IsTuple _ _ from ty) fun g c1 c5 _ kp=>wpAny_pyIter_enum c1 ?_
  have I2:Inv X pins σ H1 { s1 with heap:=g }:=I1.kept (t':=s1.toks) kp
  refine ⟨s1.heap.objs.size+1,_,_,_,H1,rfl,I2,turn_enumT lb,⟨⟨_,c1⟩,c5⟩,fun c hc => ?_,q⟩
  refine I1.fpOk ?_ (I1.hok.fresh ?_)
  all_goals
   have hc':c=s1.heap.objs.size+1\/c=s1.heap.objs.size:=by simpa using hc
   rcases hc' with e | e <;> (subst e; omega)
theorem for_enumT {K:PySem.W.Frag}{b:Addr}{ys:List V}{g:TG}{tb:TS}{D:Ends}{σ:St}{H:Hp}(Pv:Nat->St->Hp->Prop)(h0:Pv 0 σ H)(hl : ∀ i σ H,i<=ys.length->Pv i σ H->SqT K H b ys)
  (hs : ∀ i y T σ H,ys[i]?=some y->H T=none->Pv i σ H->g (.ref T) σ (upd H T (.tup [.int (i:Nat),y])) fun σ2 H2=>tb { D with nx:=Pv (i+1),ct:=Pv (i+1),bk:=D.nx } σ2 H2) (hd : ∀ σ H,Pv ys.length σ H->D.nx σ H) :
  ∃ W:Nat->Nat->St->Hp->Prop,(∃ m,W 0 m σ H)/\∀ i m σ H,W i m σ H ->
   ((IteT K b).stop i H/\D.nx σ H)\/((IteT K b).go i H/\∃ N:St->Hp->Prop,(∀ σ' H',N σ' H'->∃ m',m' < m/\W (i+1) m' σ' H')/\∀ v H',(IteT K b).yld i H v H'->g v σ H' fun σ2 H2=>tb { D with nx:=N,ct:=N,bk:=D.nx } σ2 H2):=by
 refine ⟨fun i m σ H=>m=ys.length - i/\i<=ys.length/\Pv i σ H,⟨ys.length,by simp,Nat.zero_le _,h0⟩,?_⟩
 rintro i m σ H ⟨rfl,hi,p⟩
 have q2:=hl i σ H hi p
 by_cases hlt:i < ys.length
 ·refine .inr ⟨⟨ys,q2,hlt⟩,Pv (i+1),fun σ' H' p'=>⟨ys.length - (i+1),by omega,rfl,hlt,p'⟩,fun v H' y => ?_⟩
  obtain ⟨T,hT,rfl,y⟩:=y
  obtain ⟨y',e2,rfl⟩:=y ys q2
  exact hs i y' T σ H e2 hT p
 ·have e:i=ys.length:=by omega
  subst e
  exact .inl ⟨⟨ys,q2,rfl⟩,hd σ H p⟩
end L2
namespace K17
open PySem PySem.Spec PyProof.Rows L2 GM TM BQ TR
def RcV (H:Hp)(v:V)(p:Str × List Rw):Prop:=∃ z q us,v = .ref z/\H z=some (.tup [.str p.1,.ref q])/\H q=some (.tup us)/\L2R (RowV H) us p.2
theorem RcV.keep {H H':Hp}{v:V}{p:Str × List Rw}(k:Tk H H')(h:RcV H v p):RcV H' v p:=by
 obtain ⟨z,q,us,e,a,b,c⟩:=h
 exact ⟨z,q,us,e,k _ _ a,k _ _ b,c.imp fun _ _ x=>x.keep k⟩
def Tg (ws rs:List Str)(t:Int)(j:Nat)(y:Str):Prop:=y ∈ ws\/∃ k,rs[k]?=some y/\Lw t j k
structure RsOk (ws rs:List Str)(t:Int)(j:Nat)(rr:List Rw)(l:BQ.Q):Prop where
 ok:RsL rr l
 ln:rr.length<=6
 tg : ∀ r ∈ rr,∀ y ∈ thg r,Tg ws rs t j y
structure RW (H:Hp)(R Lz:Addr)(as ms:List Addr)(ls:List BQ.Q)(ws rs:List Str)(t:Int):Prop where
 hd:H R=some (.lst (as.map V.ref))
 hl:H Lz=some (.lst (ms.map V.ref))
 ml:ms.length=as.length
 ll:ls.length=as.length
 at' : ∀ (j:Nat) a,as[j]?=some a->∃ us rr l,ls[j]?=some l/\H a=some (.lst us)/\L2R (RowV H) us rr/\RsOk ws rs t j rr l
 am : ∀ (j:Nat) m l,ms[j]?=some m->ls[j]?=some l->AmV H m l
structure RcW (ws rs:List Str)(t:Int)(rc:List (Str × List Rw)):Prop where
 nm:rc.map (·.1)=rs
 rw : ∀ (j:Nat) p,rc[j]?=some p->1<=p.2.length/\∃ l,RsOk ws rs t j p.2 l
theorem RW.keep {H H':Hp}{R Lz:Addr}{as ms:List Addr}{ls:List BQ.Q}{ws rs:List Str}{t:Int}(s:Same H H')(h:RW H R Lz as ms ls ws rs t):RW H' R Lz as ms ls ws rs t :=
 ⟨s _ _ h.hd,s _ _ h.hl,h.ml,h.ll,fun j a ha=>by
  obtain ⟨us,rr,l,e0,e,l',o⟩:=h.at' j a ha
  exact ⟨us,rr,l,e0,s _ _ e,l'.imp fun _ _ x=>x.keep s.tk,o⟩,fun j m l a b=>s _ _ (h.am j m l a b)⟩
theorem RsOk.nil {ws rs:List Str}{t:Int}{j:Nat}:RsOk ws rs t j [] (0,1):=⟨.nil,Nat.zero_le _,(fun r h=>nomatch h)⟩
theorem RsOk.snoc {ws rs:List Str}{t:Int}{j:Nat}{rr:List Rw}{l:BQ.Q}{r:Rw}(h:RsOk ws rs t j rr l)(ok:ROL l r)(n:rr.length < 6)(tg : ∀ y ∈ thg r,Tg ws rs t j y):RsOk ws rs t j (rr ++ [r]) (bhd l r):=by
 refine ⟨h.ok.snoc ok,by rw [List.length_append]; show rr.length+1<=6; omega,fun r' hr => ?_⟩
 rcases List.mem_append.mp hr with h' | h'
 ·exact h.tg r' h'
 ·rw [List.mem_singleton.mp h']; exact tg
theorem nd_ne {as:List Addr}{i j:Nat}{a b:Addr}(nd:as.Nodup)(e:i ≠ j)(hb:as[i]?=some b)(ha:as[j]?=some a):b ≠ a:=fun z=>by
 subst z
 have hi:=(List.getElem?_eq_some_iff.mp hb).1
 have hj:=(List.getElem?_eq_some_iff.mp ha).1
 have q:=List.pairwise_iff_getElem.mp nd
 have eq:as[i]=as[j]:=by rw [(List.getElem?_eq_some_iff.mp hb).2,(List.getElem?_eq_some_iff.mp ha).2]
 rcases Nat.lt_or_gt_of_ne e with lt | lt
 ·exact q i j hi hj lt eq
 ·exact q j i hj hi lt eq.symm
theorem RW.put {H H9:Hp}{R Lz:Addr}{as ms:List Addr}{ls:List BQ.Q}{ws rs:List Str}{t:Int}{j:Nat}{a p:Addr}{us:List V}{rr:List Rw}{l:BQ.Q}{v:V}{r:Rw}(h:RW H R Lz as ms ls ws rs t)(ha:as[j]?=some a)(aR:a ≠ R)(aL : ∀ b ∈ as,b ≠ Lz)(RL:R ≠ Lz)(nd:as.Nodup)(hA:H a=some (.lst us))(hu:L2R (RowV H) us rr)(hv:RowV H v r)(ok:RsOk ws rs t j (rr ++ [r]) l)
  (s9:Same (upd H a (.lst (us ++ [v]))) H9) (hp:AmV H9 p l):RW (upd H9 Lz (.lst ((ms.map V.ref).set j (.ref p)))) R Lz as (ms.set j p) (ls.set j l) ws rs t:=by
 have tk1:Tk H (upd H a (.lst (us ++ [v]))):=Tk.lst hA
 have ne9 : ∀ b o,b ≠ a->H b=some o->H9 b=some o:=fun b o nb hb=>s9 _ _ (by rw [upd_ne nb]; exact hb)
 have hL9:H9 Lz=some (.lst (ms.map V.ref)):=ne9 _ _ (Ne.symm (aL a (List.mem_of_getElem? ha))) h.hl
 have tk3:Tk H9 (upd H9 Lz (.lst ((ms.map V.ref).set j (.ref p)))):=Tk.lst hL9
 have tk:=(tk1.trans s9.tk).trans tk3
 have jl:j < as.length:=(List.getElem?_eq_some_iff.mp ha).1
 refine ⟨by rw [upd_ne RL]; exact ne9 _ _ (Ne.symm aR) h.hd,by rw [upd_same,List.map_set],by rw [List.length_set]; exact h.ml,by rw [List.length_set]; exact h.ll,fun i b hb => ?_,fun i m l' hm hl => ?_⟩
 ·by_cases e:i=j
  ·subst e
   rw [ha] at hb
   cases hb
   exact ⟨us ++ [v],rr ++ [r],l,by rw [List.getElem?_set_self (by rw [h.ll]; exact jl)],by rw [upd_ne (aL a (List.mem_of_getElem? ha))]; exact s9 _ _ upd_same,(hu.imp fun _ _ x=>x.keep tk).snoc (hv.keep tk),ok⟩
  ·obtain ⟨us',rr',l',e0,e',lr,o⟩:=h.at' i b hb
   exact ⟨us',rr',l',by rw [List.getElem?_set_ne (Ne.symm e)]; exact e0,by rw [upd_ne (aL b (List.mem_of_getElem? hb))]; exact ne9 _ _ (nd_ne nd e hb ha) e',lr.imp fun _ _ x=>x.keep tk,o⟩
 ·by_cases e:i=j
  ·subst e
   rw [List.getElem?_set_self (by rw [h.ml]; exact jl)] at hm
   rw [List.getElem?_set_self (by rw [h.ll]; exact jl)] at hl
   cases hm; cases hl
   exact tk3 _ _ hp
  ·rw [List.getElem?_set_ne (Ne.symm e)] at hm hl
   exact tk _ _ (h.am i m l' hm hl)
theorem ixN_nat {n j:Nat}(h:j < n):ixN n (j:Int)=some j:=by
 unfold ixN
 rw [if_pos (by omega),if_pos (by omega),Int.toNat_natCast]
theorem smr11:SmR (1,1):=⟨⟨by decide,by decide,by decide⟩,by decide,by decide,by decide⟩
def spLrecs (K:PySem.W.Frag):Sp:=fun vs H Q _=>∃ (sc wa ra pl:Addr) (ns:List Int) (ws rs:List Str) (t:Int) (ps:List Int),vs=[.ref sc,.ref wa,.ref ra,.int t,.ref pl]/\SqL K H sc (ns.map V.int)/\H wa=some (.lst (ws.map V.str))/\H ra=some (.lst (rs.map V.str))/\H pl=some (.lst (ps.map V.int))/\1<=ws.length/\ws.length<=12/\rs.length<=12/\(∀ x ∈ ps,0<=x/\x<=63) /\
 ∀ f us rc H',Same H H'->H' f=some (.tup us)->L2R (RcV H') us rc->RcW ws rs t rc->Q (.ref f) H'
section
variable {P:Program}{w:World}{K:PySem.W.Frag}{mg:Str->Option Value}{base:Heap}
theorem ndNm:(["_law_name"]:List Str).Nodup:=by decide +kernel
theorem scLrecs:FnScope ["_law_script","_law_wares","_law_recipes_here","_law_turn","_law_places","_law_rows","_law_lies","_law_at","_law_left_here","_law_j","_law_allowed","_law_row_here","_law_found","_law_name","_law_some"] ["_law_script","_law_wares","_law_recipes_here","_law_turn","_law_places"] (defScope sLrecs):=⟨rfl,rfl,rfl,by decide +kernel,rfl,by decide +kernel,by decide +kernel⟩
theorem ok_lrecs {f:Addr}{fd:FuncData}(F:Fun K "_law_recipes" "_law_recipes" sLrecs f fd)(T:Txt mg)(cL:Cal P w K mg base CX0 5 "_law_left" ["_law_script","_law_k"] (spLeft K))(cN:Cal P w K mg base CX0 5 "_law_next" ["_law_left_here","_law_many"] spNext)(cW:Cal P w K mg base CX0 5 "_law_lower" ["_law_recipes_here","_law_j","_law_turn"] spLower)(cO:Cal P w K mg base CX0 5 "_law_row" ["_law_left_here","_law_allowed","_law_lies"] spLrow)(cB:Cal P w K mg base CX0 5 "_law_behind" ["_law_lies","_law_row_here"] spBehind):FnOk P w K mg base CX0 6 f fd ["_law_script","_law_wares","_law_recipes_here","_law_turn","_law_places"] (spLrecs K):=by
 refine F.ok scLrecs (fun vs H Q E h => ?_) (fun cdv A outer s H vs Q E hr h => ?_)
 ·obtain ⟨_,_,_,_,_,_,_,_,_,rfl,_⟩:=h
  rfl
 ·obtain ⟨sc,wa,ra,pl,ns,ws,rs,t,ps,rfl,hS,hw,hra,hpl,w1,w8,r8,hps,k⟩:=h
  refine ⟨_,(pss_cons (ps_comp (iy:=5) (N':=["_law_name"]) (cl:=[]) (g:=L2.gName 0) (fun _=>[none]) rfl rfl (by decide +kernel) (by decide +kernel) (clOk_plain (by decide +kernel)) (fun _ _=>blkN_none)
    (pi_list (pv 2)) (fun _ _ _ _ _=>pg_name (i:=0) ndNm rfl (Or.inl rfl) (Or.inr rfl)) (fun _ _ _ _ _=>pifs_nil) (fun _ _ _ _ _=>pe_lst pa_nil) scLrecs.nd rfl (Or.inl rfl) (Or.inr rfl) rfl)
   (pss_cons (ps_comp (iy:=6) (N':=["_law_name"]) (cl:=[]) (g:=L2.gName 0) (fun _=>[none]) rfl rfl (by decide +kernel) (by decide +kernel) (clOk_plain (by decide +kernel)) (fun _ _=>blkN_none)
    (pi_list (pv 2)) (fun _ _ _ _ _=>pg_name (i:=0) ndNm rfl (Or.inl rfl) (Or.inr rfl)) (fun _ _ _ _ _=>pifs_nil) (fun _ _ _ _ _=>pe_tup (pa_cons pe_int (pa_cons pe_int pa_nil))) scLrecs.nd rfl (Or.inl rfl) (Or.inr rfl) rfl)
   (pss_cons (ps_for PassesOwn.never rfl (pi_list (pv 4)) (pg_name (i:=7) scLrecs.nd rfl (Or.inl rfl))
    (pss_cons (ps_set (i:=8) scLrecs.nd rfl (Or.inl rfl) (pe_cal cL hr rfl pass0 (pa_cons (pv 0) (pa_cons (pv 7) pa_nil))))
    (pss_cons (ps_set (i:=9) scLrecs.nd rfl (Or.inl rfl) (pe_cal cN hr rfl pass0 (pa_cons (pv 8) (pa_cons (pe_callB (call_max2 rfl) rfl T.max' boot_max (pa_cons pe_int (pa_cons (pe_callB call_len_seq rfl T.len PySem.boot_len (pa_cons (pv 2) pa_nil)) pa_nil))) pa_nil))))
    (pss_one (ps_if (PW.pt (pw_and (pt_cmpR (op_neE hr.units) (pv 2) (pe_lst pa_nil) (nomark _)) (pw_and1 (pt_cmpR op_lt (pe_callB call_len_seq rfl T.len PySem.boot_len (pa_cons (pe_ix ix_list (pv 5) (pv 9) (fun _ _=>rfl)) pa_nil)) pe_int (nomark _)))))
     (pss_cons (ps_set (i:=10) scLrecs.nd rfl (Or.inl rfl) (pe_op op_cat (pv 1) (pe_cal cW hr rfl pass0 (pa_cons (pv 2) (pa_cons (pv 9) (pa_cons (pv 3) pa_nil))))))
     (pss_cons (ps_set (i:=11) scLrecs.nd rfl (Or.inl rfl) (pe_cal cO hr rfl pass0 (pa_cons (pv 8) (pa_cons (pv 10) (pa_cons (pe_ix ix_list (pv 6) (pv 9) (fun _ _=>rfl)) pa_nil)))))
     (pss_cons (ps_expr (pe_bm PySem.F.plainAttrs_list PySem.F.slot_list_append PySem.F.type_list_append mt_append (pe_ix ix_list (pv 5) (pv 9) (fun _ _=>rfl)) (pa_cons (pv 11) pa_nil)))
     (pss_one (ps_asg (pe_cal cB hr rfl pass0 (pa_cons (pe_ix ix_list (pv 6) (pv 9) (fun _ _=>rfl)) (pa_cons (pv 11) pa_nil))) (pg_sub (pv 6) (pv 9) set_list))))))
     pss_nil)))))
   (pss_cons (ps_set (i:=12) scLrecs.nd rfl (Or.inl rfl) (pe_lst pa_nil))
   (pss_cons (ps_for PassesOwn.never rfl (pi_zip3 rfl T.zip' (pa_cons (pv 2) (pa_cons (pv 5) pa_nil))) (pg_tup rfl (pgs_cons (pg_name (i:=13) scLrecs.nd rfl (Or.inl rfl)) (pgs_cons (pg_name (i:=14) scLrecs.nd rfl (Or.inl rfl)) pgs_nil)))
    (pss_one (ps_expr (pe_bm PySem.F.plainAttrs_list PySem.F.slot_list_append PySem.F.type_list_append mt_append (pv 12) (pa_cons (pe_tup (pa_cons (pv 13) (pa_cons (pe_callTy call_tuple_of rfl T.tup' bt_tuple (pa_cons (pe_orT (pv 14) (pe_one (pe_lst (pa_cons (pe_tup (pa_cons pe_str (pa_cons (pe_tup (pa_cons pe_int (pa_cons pe_int pa_nil))) (pa_cons (pe_ix ix_list (pv 1) pe_int (fun _ _=>rfl)) pa_nil)))) pa_nil)))) pa_nil)) pa_nil))) pa_nil)))))
   (pss_one (ps_ret (pe_callTy call_tuple_of rfl T.tup' bt_tuple (pa_cons (pv 12) pa_nil))))))))),?_⟩
  refine ⟨_,rfl,ra,rfl,⟨_,SqL.of hra⟩,fun R nR => ?_⟩
  refine comp_nils (Ys.list (SqL.of hra)) nR (by rw [List.length_map]; omega) (fun i x H' VR hx sm hV=>⟨(Keep.refl _).set rfl,(by show 0<=sizeLine; decide),fun p hp=>hV p hp⟩) (fun as H00 s00 hR00 al nd pr00 => ?_)
  rw [List.length_map] at al
  refine ⟨_,rfl,ra,rfl,⟨_,SqL.of (s00 _ _ hra)⟩,fun Lz nL => ?_⟩
  refine comp_rel (Ys.list (SqL.of (s00 _ _ hra))) (fun i _ y H=>∃ m,y = .ref m/\AmV H m (0,1)) (fun i x y H H' h k=>by obtain ⟨m,e,hm⟩:=h; exact ⟨m,e,k _ _ hm⟩) nL (by rw [List.length_map]; omega) (fun i x H' VR hx sm hV=>⟨(Keep.refl _).set rfl,(by show 2<=sizeLine; decide),fun p hp=>hV _ _ (Same.upd hp) ⟨p,rfl,upd_same⟩⟩) (fun ys H0 s01 hL0 yl hy => ?_)
  rw [List.length_map] at yl
  obtain ⟨ms,rfl,hms⟩ : ∃ ms:List Addr,ys=ms.map V.ref/\∀ m ∈ ms,AmV H0 m (0,1):=by
   have all : ∀ y ∈ ys,∃ m,y = .ref m/\AmV H0 m (0,1):=fun y hy'=>by
    obtain ⟨i,hi⟩:=List.getElem?_of_mem hy'
    have il:i < (rs.map V.str).length:=by have:=(List.getElem?_eq_some_iff.mp hi).1; rw [List.length_map]; omega
    exact hy i _ y (List.getElem?_eq_getElem il) hi
   clear hy hL0 yl
   induction ys with
   | nil=>exact ⟨[],rfl,fun m h=>nomatch h⟩
   | cons y r ih =>
    obtain ⟨ms,e,h⟩:=ih fun y hy=>all y (List.mem_cons_of_mem _ hy)
    obtain ⟨m,rfl,hm⟩:=all y (List.mem_cons_self ..)
    exact ⟨m :: ms,by rw [e]; rfl,fun z hz=>by
     rcases List.mem_cons.mp hz with rfl | hz
     ·exact hm
     ·exact h z hz⟩
  rw [List.length_map] at yl
  have s0:=s00.trans s01
  have RL:R ≠ Lz:=fun e=>by rw [<- e,hR00] at nL; cases nL
  have asR : ∀ a ∈ as,a ≠ R:=fun a ha=>(pr00 a ha).1
  have asL : ∀ a ∈ as,a ≠ Lz:=fun a ha e=>by have:=(pr00 a ha).2.2; rw [e,nL] at this; cases this
  have asN : ∀ a ∈ as,H a=none:=fun a ha=>(pr00 a ha).2.1
  have nL0:H Lz=none:=sm_none' s00 nL
  have rw0:RW H0 R Lz as ms (List.replicate as.length (0,1)) ws rs t:=⟨s01 _ _ hR00,hL0,by omega,List.length_replicate,fun j a ha=>⟨[],[],(0,1),by rw [List.getElem?_replicate,if_pos (List.getElem?_eq_some_iff.mp ha).1],s01 _ _ (pr00 a (List.mem_of_getElem? ha)).2.2,L2R.nil,RsOk.nil⟩,fun j m l hm hl=>by
   rw [List.getElem?_replicate] at hl
   split at hl
   ·cases hl; exact hms m (List.mem_of_getElem? hm)
   ·cases hl⟩
  refine ⟨_,rfl,pl,rfl,⟨_,SqL.of (s0 _ _ hpl)⟩,?_⟩
  refine for_listN (xs:=ps.map V.int) (fun i σ H'=>∃ (ms:List Addr) (ls:List BQ.Q) (v7 v8 v9 v10 v11:Option V),σ=[some (.ref sc),some (.ref wa),some (.ref ra),some (.int t),some (.ref pl),some (.ref R),some (.ref Lz),v7,v8,v9,v10,v11,none,none,none]/\Same H H'/\RW H' R Lz as ms ls ws rs t) ⟨ms,_,none,none,none,none,none,rfl,s0,rw0⟩ (fun i σ H' _ hh=>by obtain ⟨_,_,_,_,_,_,_,_,sm,_⟩:=hh; exact SqL.of (sm _ _ hpl)) ?_ ?_
  ·intro i x σ H1 D' hN hx hh
   obtain ⟨ms,ls,v7,v8,v9,v10,v11,rfl,s1,rw1⟩:=hh
   rw [List.getElem?_map] at hx
   obtain ⟨at0,hat,rfl⟩:=Option.map_eq_some_iff.mp hx
   have hx0:=hps at0 (List.mem_of_getElem? hat)
   refine ⟨_,rfl,_,rfl,sc,ns,_,rfl,s1.seq hS,hx0.1,hx0.2,fun p H2 s2 np lf2 => ?_⟩
   refine ⟨_,rfl,_,rfl,ra,_,rfl,.inl (SqL.of ((s1.trans s2) _ _ hra)),_,_,rfl,p,_,rfl,lf2,by split <;> omega,?_,fun d H3 d0 dl s3 lf3 => ?_⟩
   ·rw [List.length_map]
    split
    ·exact bl9 (bt_of 8 (c:=256) (by omega) (by omega):Bt 8 ((rs.length:Nat):Int))
    ·exact b16 (by decide) (by decide)
   rw [List.length_map] at dl
   have s13:Same H1 H3:=((SmB.of s2).trans s3).same np
   have s03:=s1.trans s13
   refine ⟨_,rfl,(by show 0<=sizeLine; decide),fun em nem => ?_⟩
   have sem:=Same.upd (o:=.lst []) nem
   have lf4:=lf3.keep sem
   have hem:upd H3 em (.lst []) em=some (.lst []):=upd_same
   generalize upd H3 em (.lst [])=H3' at sem lf4 hem ⊢
   have s03':=s03.trans sem
   have s13':=s13.trans sem
   have rw3:=rw1.keep s13'
   refine ⟨ra,em,_,rfl,rfl,SqL.of (s03' _ _ hra),SqL.of hem,_,rfl,ite2 (fun hne => ?_) (fun _ => ?_)⟩
   rotate_left
   ·exact hN _ _ ⟨ms,ls,_,_,_,_,_,rfl,s03',rw3⟩
   have r1:1<=rs.length:=by
    cases rs with
    | nil=>cases hne
    | cons=>exact Nat.succ_le_succ (Nat.zero_le _)
   have dl':d < (rs.length:Int):=by split at dl <;> omega
   obtain ⟨dn,rfl⟩:=Int.eq_ofNat_of_zero_le d0
   obtain ⟨a,ha⟩ : ∃ a,as[dn]?=some a:=⟨_,List.getElem?_eq_getElem (by omega)⟩
   obtain ⟨us,rr,l,hl,hA,hu,ok⟩:=rw3.at' dn a ha
   have aM:=List.mem_of_getElem? ha
   have ul:=hu.len
   have hAt:atI (as.map V.ref) (dn:Int)=some (.ref a):=atI_nat (by rw [List.getElem?_map,ha]; rfl)
   refine ⟨_,rfl,_,rfl,R,_,(dn:Int),.ref a,rfl,rfl,SqL.of rw3.hd,hAt,a,_,rfl,.inl (SqL.of hA),_,_,rfl,rfl,_,rfl,ite2 (fun hlt => ?_) (fun _ => ?_)⟩
   rotate_left
   ·exact hN _ _ ⟨ms,ls,_,_,_,_,_,rfl,s03',rw3⟩
   have l5:us.length < 6:=by
    have:((us.length:Nat):Int) < 6:=of_decide_eq_true hlt
    omega
   refine ⟨_,rfl,_,rfl,_,rfl,_,rfl,ra,rs,dn,t,rfl,s03' _ _ hra,by omega,by omega,fun os q H4 s4 nq hq ol ho => ?_⟩
   have s04:=s03'.trans s4
   refine ⟨wa,q,_,_,rfl,rfl,s04 _ _ hw,hq,by rw [List.length_map,List.length_map]; exact sz1000 (by omega),fun al' nal => ?_⟩
   have sal:=Same.upd (o:=.lst (ws.map V.str ++ os.map V.str)) nal
   have hal:upd H4 al' (.lst (ws.map V.str ++ os.map V.str)) al'=some (.lst ((ws ++ os).map V.str)):=by rw [upd_same,List.map_append]
   have alp:al' ≠ p:=fun e=>by
    have:=lf4.keep s4
    rw [<- e] at this
    obtain ⟨_,_,z,_⟩:=this
    rw [z] at nal
    cases nal
   generalize upd H4 al' (.lst (ws.map V.str ++ os.map V.str))=H5 at sal hal ⊢
   have s35:=s4.trans sal
   have rw5:=rw3.keep s35
   have lf5:=lf4.keep s35
   obtain ⟨m,hm⟩ : ∃ m,ms[dn]?=some m:=⟨_,List.getElem?_eq_getElem (by have:=rw3.ml; omega)⟩
   have hMt:atI (ms.map V.ref) (dn:Int)=some (.ref m):=atI_nat (by rw [List.getElem?_map,hm]; rfl)
   have okl:=ok.ok.ok
   have lb1:Bt 400 l.1:=okl.2.1.mono (by have:=ok.ln; omega)
   have lb2:Bt 400 l.2:=okl.2.2.1.mono (by have:=ok.ln; omega)
   refine ⟨_,rfl,_,rfl,_,rfl,_,rfl,Lz,_,(dn:Int),.ref m,rfl,rfl,SqL.of rw5.hl,hMt,p,al',m,ws ++ os,l,rfl,lf5,⟨hal,by rw [List.length_append]; omega,by rw [List.length_append]; omega⟩,alp,rw5.am dn m l hm hl,okl.1,lb1,lb2,fun rw' r H7 rok rin s7 lf7 hrow => ?_⟩
   have s17:Same H1 H7:=((SmB.of s2).trans (s3.trans ((SmB.of (sem.trans s35)).trans s7))).same np
   have rw7:=rw1.keep s17
   have pa:a ≠ p:=fun e=>by
    obtain ⟨_,_,_,_,z,_⟩:=rw1.at' dn a ha
    rw [e,np] at z
    cases z
   have A7:=s7 _ _ pa (s35 _ _ hA)
   have tk7:=s35.tk.trans (lf_tk s7 lf5)
   refine ⟨_,rfl,_,rfl,R,_,(dn:Int),.ref a,rfl,rfl,SqL.of rw7.hd,hAt,.inl ⟨rfl,_,SqL.of A7⟩,_,rfl,a,_,_,rfl,rfl,A7,small1000 (by omega),?_⟩
   have tkA:Tk H7 (upd H7 a (.lst (us ++ [.ref rw']))):=Tk.lst A7
   have hL8:upd H7 a (.lst (us ++ [.ref rw'])) Lz=some (.lst (ms.map V.ref)):=by rw [upd_ne (Ne.symm (asL a aM))]; exact rw7.hl
   refine ⟨_,rfl,_,rfl,Lz,_,(dn:Int),.ref m,rfl,rfl,SqL.of hL8,hMt,_,rfl,m,.ref rw',l,r,rfl,tkA _ _ (rw7.am dn m l hm hl),okl.1,lb1,lb2,hrow.keep tkA,rok,fun g H9 s9 hg => ?_⟩
   have hL9:=s9 _ _ hL8
   refine ⟨_,rfl,_,rfl,Lz,_,(dn:Int),dn,rfl,rfl,hL9,?_,hN _ _ ⟨ms.set dn g,ls.set dn (bhd l r),_,_,_,_,_,rfl,?_,?_⟩⟩
   ·rw [List.length_map]
    exact ixN_nat (by have:=rw3.ml; omega)
   ·exact sm_own' ((sm_own' (s1.trans s17) (asN a aM)).trans s9) nL0
   ·exact rw7.put ha (asR a aM) asL RL nd A7 (hu.imp fun _ _ x=>RowV.keep tk7 x) hrow (ok.snoc rok (by omega) fun y hy=>by
     rcases List.mem_append.mp (rin y hy) with h | h
     ·exact .inl h
     ·exact .inr (ho y h)) s9 hg
  ·intro σ H1 hh
   obtain ⟨ms,ls,v7,v8,v9,v10,v11,rfl,s1,rw1⟩:=hh
   refine ⟨(by show 0<=sizeLine; decide),fun Fd nF => ?_⟩
   have sF:=Same.upd (o:=.lst []) nF
   have s2:=s1.trans sF
   have nF0:=sm_none' s1 nF
   have rw2:=rw1.keep sF
   refine ⟨_,rfl,_,rfl,ra,R,rfl,⟨_,SqL.of (s2 _ _ hra)⟩,⟨_,SqL.of rw2.hd⟩,?_⟩
   refine for_zip3 (xs:=rs.map V.str) (ys:=as.map V.ref) (fun i σ H'=>∃ (v13 v14:Option V) (vs:List V) (rc:List (Str × List Rw)),σ=[some (.ref sc),some (.ref wa),some (.ref ra),some (.int t),some (.ref pl),some (.ref R),some (.ref Lz),v7,v8,v9,v10,v11,some (.ref Fd),v13,v14]/\Same H H'/\Same H1 H'/\H' Fd=some (.lst vs)/\L2R (RcV H') vs rc/\rc.map (·.1)=rs.take i/\∀ (j:Nat) p,rc[j]?=some p->1<=p.2.length/\∃ l,RsOk ws rs t j p.2 l) ⟨none,none,[],[],rfl,s2,sF,upd_same,L2R.nil,rfl,fun j p h=>by simp at h⟩ (fun i σ H' _ hh=>by obtain ⟨_,_,_,_,_,sm,sm1,_⟩:=hh; exact ⟨SqL.of (sm _ _ hra),SqL.of (sm1 _ _ rw1.hd)⟩) (by rw [List.length_map,List.length_map,al]) ?_ ?_
   ·intro i x y T' σ H3 hx' hy' nT hh
    obtain ⟨v13,v14,vs,rc,rfl,s3,s13,hF3,hu3,nm3,ok3⟩:=hh
    rw [List.getElem?_map] at hx' hy'
    obtain ⟨x,hx,rfl⟩:=Option.map_eq_some_iff.mp hx'
    obtain ⟨a,ha,rfl⟩:=Option.map_eq_some_iff.mp hy'
    have sT:=Same.upd (o:=.tup [.str x,.ref a]) nT
    refine ⟨T',_,rfl,SqT.of upd_same,rfl,_,_,rfl,_,_,rfl,rfl,?_⟩
    generalize upd H3 T' (.tup [.str x,.ref a])=H4 at sT ⊢
    have s4:=s3.trans sT
    have hF4:=sT _ _ hF3
    have rw4:=(rw1.keep s13).keep sT
    obtain ⟨us,rr,l,hl,hA,hu,ok⟩:=rw4.at' i a ha
    have xi:i < rs.length:=(List.getElem?_eq_some_iff.mp hx).1
    have rl:rc.length=i:=by
     have:=congrArg List.length nm3
     rw [List.length_map,List.length_take] at this
     omega
    have fin : ∀ (q:Addr) (us':List V) (rr':List Rw) (l':BQ.Q) (H5:Hp),Same H4 H5->H5 q=some (.tup us')->L2R (RowV H5) us' rr'->RsOk ws rs t i rr' l'->1<=rr'.length->∀ (z:Addr),H5 z=none ->
      ∃ (v13 v14:Option V) (vs':List V) (rc':List (Str × List Rw)),[some (.ref sc),some (.ref wa),some (.ref ra),some (.int t),some (.ref pl),some (.ref R),some (.ref Lz),v7,v8,v9,v10,v11,some (.ref Fd),some (V.str x),some (.ref a)]=[some (.ref sc),some (.ref wa),some (.ref ra),some (.int t),some (.ref pl),some (.ref R),some (.ref Lz),v7,v8,v9,v10,v11,some (.ref Fd),v13,v14]/\Same H (upd (upd H5 z (.tup [.str x,.ref q])) Fd (.lst (vs ++ [.ref z])))/\Same H1 (upd (upd H5 z (.tup [.str x,.ref q])) Fd (.lst (vs ++ [.ref z])))/\(upd (upd H5 z (.tup [.str x,.ref q])) Fd (.lst (vs ++ [.ref z]))) Fd=some (.lst vs')/\L2R (RcV (upd (upd H5 z (.tup [.str x,.ref q])) Fd (.lst (vs ++ [.ref z])))) vs' rc'/\rc'.map (·.1)=rs.take (i+1)/\∀ (j:Nat) p,rc'[j]?=some p->1<=p.2.length/\∃ l,RsOk ws rs t j p.2 l:=by
     intro q us' rr' l' H5 s5 hq hu5 ok5 l5 z nz
     have sz:=Same.upd (o:=.tup [.str x,.ref q]) nz
     have hF5:=sz _ _ (s5 _ _ hF4)
     have tk:Tk (upd H5 z (.tup [.str x,.ref q])) (upd (upd H5 z (.tup [.str x,.ref q])) Fd (.lst (vs ++ [.ref z]))):=Tk.lst hF5
     refine ⟨_,_,vs ++ [.ref z],rc ++ [(x,rr')],rfl,sm_own' (s4.trans (s5.trans sz)) nF0,sm_own' (s13.trans (sT.trans (s5.trans sz))) nF,upd_same,(hu3.imp fun _ _ x=>RcV.keep (((sT.trans s5).trans sz).tk.trans tk) x).snoc ⟨z,q,us',rfl,tk _ _ upd_same,tk _ _ (sz _ _ hq),hu5.imp fun _ _ x=>RowV.keep (sz.tk.trans tk) x⟩,?_,fun j p hp => ?_⟩
     ·rw [List.map_append,nm3,List.take_add_one,hx]; rfl
     ·rcases snoc_get hp with ⟨_,h⟩ | ⟨e,rfl⟩
      ·exact ok3 j p h
      ·rw [e,rl]
       exact ⟨l5,l',ok5⟩
    have vl:vs.length=i:=by rw [hu3.len,rl]
    refine ⟨_,rfl,.inl ⟨rfl,_,SqL.of hF4⟩,_,rfl,_,rfl,!us.isEmpty,.inl ⟨us,SqL.of hA,rfl⟩,ite2 (fun hne => ?_) (fun hne => ?_)⟩
    ·refine ⟨a,us,rfl,.inl ⟨SqL.of hA,fun q nq=>⟨(by show 2<=sizeLine; decide),fun z nz => ?_⟩⟩⟩
     have sq:=Same.upd (o:=.tup us) nq
     refine ⟨Fd,_,_,rfl,rfl,(Same.upd nz) _ _ (sq _ _ hF4),small1000 (by omega),?_⟩
     refine fin q us rr l _ sq upd_same (hu.imp fun _ _ x=>RowV.keep sq.tk x) ok ?_ z nz
     rw [<- hu.len]
     cases us with
     | nil=>exact Bool.noConfusion hne
     | cons=>exact Nat.succ_le_succ (Nat.zero_le _)
    ·obtain ⟨w0,hw0⟩ : ∃ w0,ws[0]?=some w0:=⟨_,List.getElem?_eq_getElem (by omega)⟩
     refine ⟨(by show 2<=sizeLine; decide),fun m nm => ?_⟩
     have sm:=Same.upd (o:=.tup [.int 1,.int 1]) nm
     refine ⟨_,rfl,wa,_,0,.str w0,rfl,rfl,SqL.of ((s4.trans sm) _ _ hw),?_,(by show 3<=sizeLine; decide),fun r nr => ?_⟩
     ·exact atI_nat (j:=0) (by rw [List.getElem?_map,hw0]; rfl)
     have sr:=Same.upd (o:=.tup [.str "take",.ref m,.str w0]) nr
     refine ⟨(by show 1<=sizeLine; decide),fun o no => ?_⟩
     have so:=Same.upd (o:=.lst [.ref r]) no
     refine ⟨o,_,rfl,.inl ⟨SqL.of upd_same,fun q nq=>⟨(by show 2<=sizeLine; decide),fun z nz => ?_⟩⟩⟩
     have sq:=Same.upd (o:=.tup [.ref r]) nq
     have s45:=(sm.trans sr).trans (so.trans sq)
     refine ⟨Fd,_,_,rfl,rfl,(Same.upd nz) _ _ (s45 _ _ hF4),small1000 (by omega),?_⟩
     refine fin q [.ref r] [.take (1,1) w0] (bhd (0,1) (.take (1,1) w0)) _ s45 upd_same (L2R.one (.take ((so.trans sq) _ _ upd_same) ((sr.trans (so.trans sq)) _ _ upd_same))) ?_ (Nat.le_refl _) z nz
     exact (RsOk.nil (ws:=ws) (rs:=rs) (t:=t) (j:=i)).snoc (r:=.take (1,1) w0) smr11 (by show 0 < 6; decide) fun y hy=>.inl (by rw [List.mem_singleton.mp hy]; exact List.mem_of_getElem? hw0)
   ·intro σ H3 hh
    obtain ⟨v13,v14,vs,rc,rfl,s3,s13,hF3,hu3,nm3,ok3⟩:=hh
    rw [List.length_map,List.take_length] at nm3
    refine ⟨_,rfl,Fd,vs,rfl,.inl ⟨SqL.of hF3,fun q nq => ?_⟩⟩
    have sq:=Same.upd (o:=.tup vs) nq
    exact k q vs rc _ (s3.trans sq) upd_same (hu3.imp fun _ _ x=>RcV.keep sq.tk x) ⟨nm3,ok3⟩
end
end K17
namespace K17
open PySem PySem.Spec PyProof.Rows L2 GM TM
open BQ TR
def PairV (H:Hp)(v:V)(p:Str × Str):Prop:=∃ z,v = .ref z/\H z=some (.tup [.str p.1,.str p.2])
def RecV (H:Hp)(v:V)(p:Str × List Rw):Prop:=∃ z q us,v = .ref z/\H z=some (.tup [.str p.1,.ref q])/\H q=some (.tup us)/\L2R (RowV H) us p.2
structure Bs where
 lo:Nat
 hi:Nat
 ws:List Str
 ps:List (Str × Str)
 rs:List (Str × List Rw)
def BookV (H:Hp)(v:V)(b:Bs):Prop:=∃ z a0 a1 a2 u1 u2,v = .ref z/\H z=some (.tup [.ref a0,.ref a1,.ref a2])/\H a0=some (.tup (b.ws.map V.str))/\H a1=some (.tup u1)/\L2R (PairV H) u1 b.ps/\H a2=some (.tup u2)/\L2R (RecV H) u2 b.rs
theorem PairV.keep {H H':Hp}{v:V}{p:Str × Str}(s:Same H H')(h:PairV H v p):PairV H' v p:=by
 obtain ⟨z,e,a⟩:=h
 exact ⟨z,e,s _ _ a⟩
theorem RecV.tk {H H':Hp}{v:V}{p:Str × List Rw}(s:Tk H H')(h:RecV H v p):RecV H' v p:=by
 obtain ⟨z,q,us,e,a,b,c⟩:=h
 exact ⟨z,q,us,e,s _ _ a,s _ _ b,c.imp fun _ _ z=>z.keep s⟩
end K17
namespace K17
open PySem PySem.Spec PyProof.Rows L2 GM TM BQ TR
structure BkS (ws rs:List Str)(t:Int)(ps:List (Str × Str))(rc:List (Str × List Rw)):Prop where
 rw:RcW ws rs t rc
 nd:(ws ++ rs).Nodup
 w1:1<=ws.length
 w12:ws.length<=12
 r12:rs.length<=12
 wr : ∀ x ∈ ws ++ rs,Wr x
 t0:0<=t
 t3:t < 3
 p6:ps.length<=6
 pw : ∀ p ∈ ps,p.1 ∈ ws/\p.2 ∈ ws/\p.1 ≠ p.2
theorem nd_cut {ns:List Str}{i j:Nat}(h:ns.Nodup)(hi:i<=12):(ns.take i ++ (ns.drop 12).take j).Nodup:=by
 have e:ns.take 12 ++ ns.drop 12=ns:=List.take_append_drop ..
 have a:List.Sublist (ns.take i) (ns.take 12):=by
  have:ns.take i=(ns.take 12).take i:=by rw [List.take_take,Nat.min_eq_left hi]
  rw [this]
  exact List.take_sublist ..
 have b:List.Sublist ((ns.drop 12).take j) (ns.drop 12):=List.take_sublist ..
 have c:=a.append b
 rw [e] at c
 exact List.Nodup.sublist c h
def spLapart (K:PySem.W.Frag):Sp:=fun vs H Q _=>∃ (sc wa:Addr) (ns:List Int) (ws:List Str) (n:Int),vs=[.ref sc,.ref wa,.int n]/\SqL K H sc (ns.map V.int)/\H wa=some (.lst (ws.map V.str))/\1<=ws.length/\ws.length<=12/\0<=n/\n<=6 /\
 ∀ f us ps H',Same H H'->H' f=some (.tup us)->L2R (PairV H') us ps->ps.length<=6->(∀ p ∈ ps,p.1 ∈ ws/\p.2 ∈ ws/\p.1 ≠ p.2)->Q (.ref f) H'
def spBegun (K:PySem.W.Frag):Sp:=fun vs H Q _=>∃ (sc:Addr) (ns:List Int),vs=[.ref sc]/\SqL K H sc (ns.map V.int) /\
 ∀ z c L (nw nr:Nat) (t n:Int) (nms:List Str) H',Same H H'->H' z=some (.tup [.ref c,.ref L])->H' c=some (.tup [.int (nw:Nat),.int (nr:Nat),.int t,.int n])->H' L=some (.lst (nms.map V.str))->1<=nw->nw<=12->nr<=12->0<=t->t < 3->0<=n->n<=6->nms.length=26->nms.Nodup->(∀ x ∈ nms,Wr x)->Q (.ref z) H'
def spLbook (K:PySem.W.Frag):Sp:=fun vs H Q _=>∃ (sc:Addr) (ns:List Int),vs=[.ref sc]/\SqL K H sc (ns.map V.int) /\
 ∀ v ws rs t ps rc H',Same H H'->BookV H' v ⟨0,0,ws,ps,rc⟩->BkS ws rs t ps rc->Q v H'
theorem rng_ms {n:Nat}(h:n<=61) : ∃ ms:List Int,rngV 2 n=ms.map V.int/\∀ x ∈ ms,0<=x/\x<=63:=⟨(List.range n).map fun i=>(2:Int)+(i:Nat),by unfold rngV; rw [List.map_map]; rfl,fun x hx=>by
 obtain ⟨i,hi,rfl⟩:=List.mem_map.mp hx
 have:=List.mem_range.mp hi
 omega⟩
theorem PairV.keep' {H H':Hp}{v:V}{p:Str × Str}(k:Tk H H')(h:PairV H v p):PairV H' v p:=by
 obtain ⟨z,e,a⟩:=h
 exact ⟨z,e,k _ _ a⟩
section
variable {P:Program}{w:World}{K:PySem.W.Frag}{mg:Str->Option Value}{base:Heap}
theorem scLapart:FnScope ["_law_script","_law_wares","_law_many","_law_left_here","_law_pairs","_law_k","_law_one","_law_other"] ["_law_script","_law_wares","_law_many"] (defScope sLapart):=⟨rfl,rfl,rfl,by decide +kernel,rfl,by decide +kernel,by decide +kernel⟩
theorem ok_lapart {f:Addr}{fd:FuncData}(F:Fun K "_law_apart" "_law_apart" sLapart f fd)(T:Txt mg)(cL:Cal P w K mg base CX0 5 "_law_left" ["_law_script","_law_k"] (spLeft K))(cN:Cal P w K mg base CX0 5 "_law_next" ["_law_left_here","_law_many"] spNext):FnOk P w K mg base CX0 6 f fd ["_law_script","_law_wares","_law_many"] (spLapart K):=by
 refine F.ok scLapart (fun vs H Q E h => ?_) (fun cdv A outer s H vs Q E hr h => ?_)
 ·obtain ⟨_,_,_,_,_,rfl,_⟩:=h
  rfl
 ·obtain ⟨sc,wa,ns,ws,n,rfl,hS,hw,w1,w12,n0,n6,k⟩:=h
  refine ⟨_,(pss_cons (ps_set (i:=3) scLapart.nd rfl (Or.inl rfl) (pe_cal cL hr rfl pass0 (pa_cons (pv 0) (pa_cons pe_int pa_nil))))
   (pss_cons (ps_set (i:=4) scLapart.nd rfl (Or.inl rfl) (pe_lst pa_nil))
   (pss_cons (ps_for PassesOwn.never rfl (pi_range1 rfl T.range (pa_cons (pv 2) pa_nil)) (pg_name (i:=5) scLapart.nd rfl (Or.inl rfl))
    (pss_cons (ps_set (i:=6) scLapart.nd rfl (Or.inl rfl) (pe_ix ix_list (pv 1) (pe_cal cN hr rfl pass0 (pa_cons (pv 3) (pa_cons (pe_callB call_len_seq rfl T.len PySem.boot_len (pa_cons (pv 1) pa_nil)) pa_nil))) (fun _ _=>rfl)))
   (pss_cons (ps_set (i:=7) scLapart.nd rfl (Or.inl rfl) (pe_ix ix_list (pv 1) (pe_cal cN hr rfl pass0 (pa_cons (pv 3) (pa_cons (pe_callB call_len_seq rfl T.len PySem.boot_len (pa_cons (pv 1) pa_nil)) pa_nil))) (fun _ _=>rfl)))
   (pss_one (ps_if (pt_cmpR op_ne (pv 6) (pv 7) (nomark _))
    (pss_one (ps_expr (pe_bm PySem.F.plainAttrs_list PySem.F.slot_list_append PySem.F.type_list_append mt_append (pv 4) (pa_cons (pe_tup (pa_cons (pv 6) (pa_cons (pv 7) pa_nil))) pa_nil))))
    pss_nil)))))
   (pss_one (ps_ret (pe_callTy call_tuple_of rfl T.tup' bt_tuple (pa_cons (pv 4) pa_nil))))))),?_⟩
  refine ⟨_,rfl,sc,ns,1,rfl,hS,by decide,by decide,fun p H1 s1 np lf1 => ?_⟩
  refine ⟨(by show 0<=sizeLine; decide),fun Pl nP => ?_⟩
  have sP:=Same.upd (o:=.lst []) nP
  have Pp:Pl ≠ p:=lf1.there nP
  have nP0:H Pl=none:=sm_none' s1 nP
  refine ⟨_,rfl,n,rfl,by omega,by omega,?_⟩
  refine for_rangeN (fun i σ H'=>∃ (us:List V) (ps:List (Str × Str)) (v5 v6 v7:Option V),σ=[some (.ref sc),some (.ref wa),some (.int n),some (.ref p),some (.ref Pl),v5,v6,v7]/\Same H H'/\Lf H' p/\H' Pl=some (.lst us)/\L2R (PairV H') us ps/\ps.length<=i/\∀ q ∈ ps,q.1 ∈ ws/\q.2 ∈ ws/\q.1 ≠ q.2)
   ⟨[],[],none,none,none,rfl,s1.trans sP,lf1.keep sP,upd_same,L2R.nil,Nat.le_refl _,fun q h=>nomatch h⟩ ?_ ?_
  ·intro i σ H2 D' hN hi hh
   obtain ⟨us,ps,v5,v6,v7,rfl,s2,lf2,hP2,hu2,pl,hp⟩:=hh
   have wl : ∀ {m:Int},m=((ws.length:Nat):Int)->1<=m/\Bt 9000 m:=fun e=>by subst e; exact ⟨by omega,bl9 (bt_of 8 (c:=256) (by omega) (by omega):Bt 8 ((ws.length:Nat):Int))⟩
   refine ⟨_,rfl,_,rfl,_,rfl,wa,_,rfl,.inl (SqL.of (s2 _ _ hw)),p,_,rfl,lf2,(wl (by rw [List.length_map])).1,(wl (by rw [List.length_map])).2,fun d1 H3 d10 d1l s3 lf3 => ?_⟩
   rw [List.length_map] at d1l
   obtain ⟨e1,rfl⟩:=Int.eq_ofNat_of_zero_le d10
   obtain ⟨x,hx⟩ : ∃ x,ws[e1]?=some x:=⟨_,List.getElem?_eq_getElem (by omega)⟩
   have s03:Same H H3:=((SmB.of s2).trans s3).same np
   refine ⟨wa,_,(e1:Int),.str x,rfl,rfl,SqL.of (s03 _ _ hw),atI_nat (by rw [List.getElem?_map,hx]; rfl),?_⟩
   refine ⟨_,rfl,_,rfl,_,rfl,wa,_,rfl,.inl (SqL.of (s03 _ _ hw)),p,_,rfl,lf3,(wl (by rw [List.length_map])).1,(wl (by rw [List.length_map])).2,fun d2 H4 d20 d2l s4 lf4 => ?_⟩
   rw [List.length_map] at d2l
   obtain ⟨e2,rfl⟩:=Int.eq_ofNat_of_zero_le d20
   obtain ⟨y,hy⟩ : ∃ y,ws[e2]?=some y:=⟨_,List.getElem?_eq_getElem (by omega)⟩
   have s04:Same H H4:=((SmB.of s03).trans s4).same np
   have hP4:=s4 _ _ Pp (s3 _ _ Pp hP2)
   have tk4:=(lf_tk s3 lf2).trans (lf_tk s4 lf3)
   refine ⟨wa,_,(e2:Int),.str y,rfl,rfl,SqL.of (s04 _ _ hw),atI_nat (by rw [List.getElem?_map,hy]; rfl),?_⟩
   refine ⟨_,rfl,_,rfl,rfl,_,rfl,ite2 (fun hne => ?_) (fun _ => ?_)⟩
   ·have ne:x ≠ y:=fun e=>by rw [e] at hne; simp at hne
    refine ⟨_,rfl,.inl ⟨rfl,_,SqL.of hP4⟩,_,rfl,_,rfl,(by show 2<=sizeLine; decide),fun z nz => ?_⟩
    have sz:=Same.upd (o:=.tup [.str x,.str y]) nz
    have hP5:=sz _ _ hP4
    have ul:=hu2.len
    refine ⟨Pl,_,_,rfl,rfl,hP5,small1000 (by omega),hN _ _ ?_⟩
    have tkP:Tk (upd H4 z (.tup [.str x,.str y])) (upd (upd H4 z (.tup [.str x,.str y])) Pl (.lst (us ++ [.ref z]))):=Tk.lst hP5
    refine ⟨us ++ [.ref z],ps ++ [(x,y)],_,_,_,rfl,sm_own' (s04.trans sz) nP0,(lf4.keep sz).own Pp,upd_same,(hu2.imp fun _ _ q=>q.keep' (tk4.trans (sz.tk.trans tkP))).snoc ⟨z,rfl,tkP _ _ upd_same⟩,by rw [List.length_append]; show ps.length+1<=i+1; omega,fun q hq => ?_⟩
    rcases List.mem_append.mp hq with h | h
    ·exact hp q h
    ·rw [List.mem_singleton.mp h]
     exact ⟨List.mem_of_getElem? hx,List.mem_of_getElem? hy,ne⟩
   ·exact hN _ _ ⟨us,ps,_,_,_,rfl,s04,lf4,hP4,hu2.imp fun _ _ q=>q.keep' tk4,by omega,hp⟩
  ·intro σ H2 hh
   obtain ⟨us,ps,v5,v6,v7,rfl,s2,lf2,hP2,hu2,pl,hp⟩:=hh
   refine ⟨_,rfl,Pl,us,rfl,.inl ⟨SqL.of hP2,fun q nq => ?_⟩⟩
   have sq:=Same.upd (o:=.tup us) nq
   exact k q us ps _ (s2.trans sq) upd_same (hu2.imp fun _ _ x=>x.keep' sq.tk) (by omega) hp
theorem scBegun:FnScope ["_law_script","_law_left_here","_law_wares","_law_recipes_here","_law_turn","_law_pairs"] ["_law_script"] (defScope sBegun):=⟨rfl,rfl,rfl,by decide +kernel,rfl,by decide +kernel,by decide +kernel⟩
theorem ok_begun {f:Addr}{fd:FuncData}(F:Fun K "_law_begun" "_law_begun" sBegun f fd)(cL:Cal P w K mg base CX0 5 "_law_left" ["_law_script","_law_k"] (spLeft K))(cN:Cal P w K mg base CX0 5 "_law_next" ["_law_left_here","_law_many"] spNext)(cM:Cal P w K mg base CX0 5 "_law_names" ["_law_left_here","_law_many"] spNames):FnOk P w K mg base CX0 6 f fd ["_law_script"] (spBegun K):=by
 refine F.ok scBegun (fun vs H Q E h => ?_) (fun cdv A outer s H vs Q E hr h => ?_)
 ·obtain ⟨_,_,rfl,_⟩:=h
  rfl
 ·obtain ⟨sc,ns,rfl,hS,k⟩:=h
  refine ⟨_,(pss_cons (ps_set (i:=1) scBegun.nd rfl (Or.inl rfl) (pe_cal cL hr rfl pass0 (pa_cons (pv 0) (pa_cons pe_int pa_nil))))
   (pss_cons (ps_set (i:=2) scBegun.nd rfl (Or.inl rfl) (pe_op op_add pe_int (pe_cal cN hr rfl pass0 (pa_cons (pv 1) (pa_cons pe_int pa_nil)))))
   (pss_cons (ps_set (i:=3) scBegun.nd rfl (Or.inl rfl) (pe_cal cN hr rfl pass0 (pa_cons (pv 1) (pa_cons pe_int pa_nil))))
   (pss_cons (ps_set (i:=4) scBegun.nd rfl (Or.inl rfl) (pe_cal cN hr rfl pass0 (pa_cons (pv 1) (pa_cons pe_int pa_nil))))
   (pss_cons (ps_set (i:=5) scBegun.nd rfl (Or.inl rfl) (pe_cal cN hr rfl pass0 (pa_cons (pv 1) (pa_cons pe_int pa_nil))))
   (pss_one (ps_ret (pe_tup (pa_cons (pe_tup (pa_cons (pv 2) (pa_cons (pv 3) (pa_cons (pv 4) (pa_cons (pv 5) pa_nil))))) (pa_cons (pe_cal cM hr rfl pass0 (pa_cons (pv 1) (pa_cons pe_int pa_nil))) pa_nil)))))))))),?_⟩
  refine ⟨_,rfl,sc,ns,0,rfl,hS,by decide,by decide,fun p H1 s1 np lf1 => ?_⟩
  refine ⟨_,rfl,p,12,rfl,lf1,by decide,b16 (by decide) (by decide),fun d1 H2 d10 d1l s2 lf2=>⟨_,_,rfl,rfl,?_⟩⟩
  refine ⟨_,rfl,p,13,rfl,lf2,by decide,b16 (by decide) (by decide),fun d2 H3 d20 d2l s3 lf3 => ?_⟩
  refine ⟨_,rfl,p,3,rfl,lf3,by decide,b16 (by decide) (by decide),fun t H4 t0 t3 s4 lf4 => ?_⟩
  refine ⟨_,rfl,p,7,rfl,lf4,by decide,b16 (by decide) (by decide),fun mn H5 m0 m4 s5 lf5 => ?_⟩
  obtain ⟨e1,rfl⟩:=Int.eq_ofNat_of_zero_le d10
  obtain ⟨e2,rfl⟩:=Int.eq_ofNat_of_zero_le d20
  refine ⟨_,rfl,_,rfl,_,rfl,_,rfl,(by show 4<=sizeLine; decide),fun c nc => ?_⟩
  have sc':=Same.upd (o:=.tup [.int (1+(e1:Int)),.int (e2:Nat),.int t,.int mn]) nc
  have cp:c ≠ p:=lf5.there nc
  refine ⟨_,rfl,p,26,rfl,lf5.keep sc',by decide,by decide,fun nms L H6 nl nd wr s6 lf6 nL hL=>⟨(by show 2<=sizeLine; decide),fun z nz => ?_⟩⟩
  have sz:=Same.upd (o:=.tup [.ref c,.ref L]) nz
  have s16:Same H H6:=((SmB.of s1).trans (s2.trans (s3.trans (s4.trans (s5.trans ((SmB.of sc').trans s6)))))).same np
  have ec:(1+(e1:Int))=((1+e1:Nat):Int):=by omega
  refine k z c L (1+e1) e2 t mn nms _ (s16.trans sz) upd_same ?_ (sz _ _ hL) (by omega) (by omega) (by omega) t0 t3 m0 (by omega) (by omega) nd wr
  rw [<- ec]
  exact sz _ _ (s6 _ _ cp upd_same)
theorem scLbook:FnScope ["_law_script","_law_many","_law_names_here","_law_wares","_law_recipes_here","_law_places","_law_found"] ["_law_script"] (defScope sLbook):=⟨rfl,rfl,rfl,by decide +kernel,rfl,by decide +kernel,by decide +kernel⟩
theorem ok_lbook {f:Addr}{fd:FuncData}(F:Fun K "_law_book" "_law_book" sLbook f fd)(T:Txt mg)(cG:Cal P w K mg base CX0 6 "_law_begun" ["_law_script"] (spBegun K))(cR:Cal P w K mg base CX0 6 "_law_recipes" ["_law_script","_law_wares","_law_recipes_here","_law_turn","_law_places"] (spLrecs K))(cA:Cal P w K mg base CX0 6 "_law_apart" ["_law_script","_law_wares","_law_many"] (spLapart K)):FnOk P w K mg base CX0 7 f fd ["_law_script"] (spLbook K):=by
 refine F.ok scLbook (fun vs H Q E h => ?_) (fun cdv A outer s H vs Q E hr h => ?_)
 ·obtain ⟨_,_,rfl,_⟩:=h
  rfl
 ·obtain ⟨sc,ns,rfl,hS,k⟩:=h
  refine ⟨_,(pss_cons (ps_asg (pe_cal cG hr rfl pass0 (pa_cons (pv 0) pa_nil)) (pg_tup rfl (pgs_cons (pg_name (i:=1) scLbook.nd rfl (Or.inl rfl)) (pgs_cons (pg_name (i:=2) scLbook.nd rfl (Or.inl rfl)) pgs_nil))))
   (pss_cons (ps_set (i:=3) scLbook.nd rfl (Or.inl rfl) (pe_slice sl_list (pv 2) po_none (po_some (pit 1 0))))
   (pss_cons (ps_set (i:=4) scLbook.nd rfl (Or.inl rfl) (pe_slice sl_list (pv 2) (po_some pe_int) (po_some (pe_op op_add pe_int (pit 1 1)))))
   (pss_cons (ps_set (i:=5) scLbook.nd rfl (Or.inl rfl) (pe_listRng rfl rfl T.list' rfl T.range (pa_cons pe_int (pa_cons (pe_callB (call_min2 rfl) rfl T.min' boot_min (pa_cons (pe_callB call_len_seq rfl T.len PySem.boot_len (pa_cons (pv 0) pa_nil)) (pa_cons pe_int pa_nil))) pa_nil))))
   (pss_cons (ps_set (i:=6) scLbook.nd rfl (Or.inl rfl) (pe_cal cR hr rfl pass0 (pa_cons (pv 0) (pa_cons (pv 3) (pa_cons (pv 4) (pa_cons (pit 1 2) (pa_cons (pv 5) pa_nil)))))))
   (pss_one (ps_ret (pe_tup (pa_cons (pe_callTy call_tuple_of rfl T.tup' bt_tuple (pa_cons (pv 3) pa_nil)) (pa_cons (pe_cal cA hr rfl pass0 (pa_cons (pv 0) (pa_cons (pv 3) (pa_cons (pit 1 3) pa_nil)))) (pa_cons (pv 6) pa_nil))))))))))),?_⟩
  refine ⟨_,rfl,sc,ns,rfl,hS,fun z c L nw nr t n nms H1 s1 hz hc hL nw1 nw12 nr12 t0 t3 n0 n6 nl nd wr => ?_⟩
  refine ⟨z,_,rfl,SqT.of hz,rfl,_,_,rfl,_,_,rfl,rfl,?_⟩
  have sC:SqT K H1 c [.int (nw:Nat),.int (nr:Nat),.int t,.int n]:=SqT.of hc
  refine ⟨_,rfl,c,_,_,rfl,sC,rfl,_,rfl,L,_,rfl,SqL.of hL,fun wl nwl => ?_⟩
  rw [cut_to (by rw [List.length_map]; omega),<- List.map_take]
  have swl:=Same.upd (o:=.lst ((nms.take nw).map V.str)) nwl
  have hwl:upd H1 wl (.lst ((nms.take nw).map V.str)) wl=some (.lst ((nms.take nw).map V.str)):=upd_same
  generalize upd H1 wl (.lst ((nms.take nw).map V.str))=H2 at swl hwl ⊢
  refine ⟨_,rfl,_,rfl,c,_,_,rfl,swl.tup sC,rfl,_,_,rfl,rfl,_,rfl,L,_,rfl,SqL.of (swl _ _ hL),fun rl nrl => ?_⟩
  have ec2:(12+(nr:Int))=((12+nr:Nat):Int):=by omega
  rw [ec2,show ((12:Int))=((12:Nat):Int) from rfl,cut_at (by rw [List.length_map]; omega) (by omega),<- List.map_drop,<- List.map_take]
  have srl:=Same.upd (o:=.lst (((nms.drop 12).take (12+nr - 12)).map V.str)) nrl
  have hrl:upd H2 rl (.lst (((nms.drop 12).take (12+nr - 12)).map V.str)) rl=some (.lst (((nms.drop 12).take (12+nr - 12)).map V.str)):=upd_same
  generalize upd H2 rl (.lst (((nms.drop 12).take (12+nr - 12)).map V.str))=H3 at srl hrl ⊢
  have s03:=(s1.trans swl).trans srl
  have ndA:=nd_cut (i:=nw) (j:=12+nr - 12) nd (by omega)
  have wrA : ∀ x ∈ nms.take nw ++ (nms.drop 12).take (12+nr - 12),Wr x:=fun x hx=>by
   rcases List.mem_append.mp hx with h | h
   ·exact wr x (List.mem_of_mem_take h)
   ·exact wr x (List.mem_of_mem_drop (List.mem_of_mem_take h))
  have wlen:(nms.take nw).length=nw:=by rw [List.length_take]; omega
  have rlen:((nms.drop 12).take (12+nr - 12)).length=nr:=by rw [List.length_take,List.length_drop]; omega
  generalize nms.take nw=ws at ndA wrA wlen hwl ⊢
  generalize (nms.drop 12).take (12+nr - 12)=rs at ndA wrA rlen hrl ⊢
  refine ⟨_,rfl,sc,_,rfl,.inl (s03.seq hS),_,_,rfl,2,_,rfl,⟨by decide,by decide,by split <;> omega,by split <;> omega⟩,by split <;> omega,fun pl npl => ?_⟩
  obtain ⟨ms,ems,hms⟩ : ∃ ms:List Int,rngV 2 ((if (63:Int) < (((ns.map V.int).length:Nat):Int) then (63:Int) else (((ns.map V.int).length:Nat):Int)) - 2).toNat=ms.map V.int/\∀ x ∈ ms,0<=x/\x<=63:=rng_ms (by split <;> omega)
  rw [ems]
  have spl:=Same.upd (o:=.lst (ms.map V.int)) npl
  have hpl:upd H3 pl (.lst (ms.map V.int)) pl=some (.lst (ms.map V.int)):=upd_same
  generalize upd H3 pl (.lst (ms.map V.int))=H4 at spl hpl ⊢
  have s04:=s03.trans spl
  have s34:=srl.trans spl
  refine ⟨_,rfl,_,rfl,_,rfl,c,_,_,rfl,s34.tup (swl.tup sC),rfl,_,rfl,sc,wl,rl,pl,ns,ws,rs,t,ms,rfl,s04.seq hS,s34 _ _ hwl,spl _ _ hrl,hpl,by omega,by omega,by omega,hms,fun fo us rc H5 s5 hfo hu rcw => ?_⟩
  have s05:=s04.trans s5
  have hwl5:=(s34.trans s5) _ _ hwl
  refine ⟨_,rfl,wl,_,rfl,.inl ⟨SqL.of hwl5,fun wt nwt => ?_⟩⟩
  have swt:=Same.upd (o:=.tup (ws.map V.str)) nwt
  have hwt:upd H5 wt (.tup (ws.map V.str)) wt=some (.tup (ws.map V.str)):=upd_same
  generalize upd H5 wt (.tup (ws.map V.str))=H6 at swt hwt ⊢
  have s56:=s5.trans swt
  refine ⟨_,rfl,_,rfl,c,_,_,rfl,(s34.trans s56).tup (swl.tup sC),rfl,sc,wl,ns,ws,n,rfl,(s05.trans swt).seq hS,swt _ _ hwl5,by omega,by omega,n0,n6,fun ap ups ps H7 s7 hap hpu p6 pw => ?_⟩
  refine ⟨_,rfl,(by show 3<=sizeLine; decide),fun b nb => ?_⟩
  have sb:=Same.upd (o:=.tup [.ref wt,.ref ap,.ref fo]) nb
  have tk7:=((swt.trans s7).trans sb).tk
  exact k (.ref b) ws rs t ps rc _ (((s05.trans swt).trans s7).trans sb) ⟨b,wt,ap,fo,ups,us,rfl,upd_same,(s7.trans sb) _ _ hwt,sb _ _ hap,hpu.imp fun _ _ x=>x.keep' sb.tk,((swt.trans s7).trans sb) _ _ hfo,hu.imp fun _ _ x=>RcV.keep tk7 x⟩ ⟨rcw,ndA,by omega,by omega,by omega,wrA,t0,t3,p6,pw⟩
end
end K17
namespace K17
open PySem PySem.Spec PyProof.Rows L2 GM TM
open BQ TR
theorem RecV.keep {H H':Hp}{v:V}{p:Str × List Rw}(k:Tk H H')(h:RecV H v p):RecV H' v p:=by
 obtain ⟨z,q,vs,e,a,b,c⟩:=h
 exact ⟨z,q,vs,e,k _ _ a,k _ _ b,c.imp fun _ _ x=>x.keep k⟩
def BkV (H:Hp)(b:Addr)(us:List V)(rc:List (Str × List Rw)):Prop:=∃ x y f,H b=some (.tup [x,y,.ref f])/\H f=some (.tup us)/\L2R (RecV H) us rc
theorem BkV.keep {H H':Hp}{b:Addr}{us:List V}{rc:List (Str × List Rw)}(k:Tk H H')(h:BkV H b us rc):BkV H' b us rc:=by
 obtain ⟨x,y,f,a,b',c⟩:=h
 exact ⟨x,y,f,k _ _ a,k _ _ b',c.imp fun _ _ x=>x.keep k⟩
def spRowsOf:Sp:=fun vs H Q _=>∃ (b:Addr) (us:List V) (rc:List (Str × List Rw)) (j:Nat) (p:Str × List Rw),vs=[.ref b,.str p.1]/\BkV H b us rc/\(rc.map (·.1)).Nodup/\rc[j]?=some p/\∀ q vs',H q=some (.tup vs')->L2R (RowV H) vs' p.2->Q (.ref q) H
def thgs (rs:List Rw):List Str:=rs.flatMap thg
def spThings:Sp:=fun vs H Q _=>∃ (v:V) (r:Rw),vs=[v]/\RowV H v r/\(thg r).length<=10/\∀ l H',Same H H'->H l=none->H' l=some (.lst ((thg r).map V.str))->Q (.ref l) H'
structure RcS (rc:List (Str × List Rw)):Prop where
 ln:rc.length<=12
 rw : ∀ p ∈ rc,p.2.length<=6/\∀ r ∈ p.2,(thg r).length<=10
def spThof:Sp:=fun vs H Q _=>∃ (b:Addr) (us:List V) (rc:List (Str × List Rw)) (j:Nat) (p:Str × List Rw),vs=[.ref b,.str p.1]/\BkV H b us rc/\(rc.map (·.1)).Nodup/\RcS rc/\rc[j]?=some p/\∀ l H',Same H H'->H l=none->H' l=some (.lst ((thgs p.2).map V.str))->Q (.ref l) H'
def spRnm:Sp:=fun vs H Q _=>∃ (b:Addr) (us:List V) (rc:List (Str × List Rw)),vs=[.ref b]/\BkV H b us rc/\rc.length<=12/\∀ l H',Same H H'->H l=none->H' l=some (.lst ((rc.map (·.1)).map V.str))->Q (.ref l) H'
theorem thgs_len : ∀ {rs:List Rw},(∀ r ∈ rs,(thg r).length<=10)->(thgs rs).length<=10*rs.length
 | [],_=>Nat.le_refl _
 | r :: t,h=>by
  have:=thgs_len (rs:=t) fun x hx=>h x (List.mem_cons_of_mem _ hx)
  have:=h r (List.mem_cons_self ..)
  show (thg r ++ thgs t).length<=_
  rw [List.length_append,List.length_cons]
  omega
section
variable {P:Program}{w:World}{K:PySem.W.Frag}{mg:Str->Option Value}{base:Heap}
theorem scRowsOf:FnScope ["book","name","recipe","rows"] ["book","name"] (defScope sRowsOf):=⟨rfl,rfl,rfl,by decide +kernel,rfl,by decide +kernel,by decide +kernel⟩
theorem ok_rowsof {f:Addr}{fd:FuncData}(F:Fun K "rows_of" "rows_of" sRowsOf f fd):FnOk P w K mg base CX0 1 f fd ["book","name"] spRowsOf:=by
 refine F.ok scRowsOf (fun vs H Q E h => ?_) (fun cdv A outer s H vs Q E hr h => ?_)
 ·obtain ⟨_,_,_,_,_,rfl,_⟩:=h
  rfl
 ·obtain ⟨b,us,rc,j,p,rfl,⟨x,y,g,hb,hg,hu⟩,nd,hj,k⟩:=h
  refine ⟨_,(pss_cons (ps_for PassesOwn.never rfl (pi_tup (pit 0 2)) (pg_tup rfl (pgs_cons (pg_name (i:=2) scRowsOf.nd rfl (Or.inl rfl)) (pgs_cons (pg_name (i:=3) scRowsOf.nd rfl (Or.inl rfl)) pgs_nil)))
    (pss_one (ps_if (pt_cmpR op_eq (pv 2) (pv 1) (nomark _))
    (pss_one (ps_ret (pv 3)))
    pss_nil)))
   (pss_one (ps_ret (pe_tup pa_nil)))),?_⟩
  have jl:j < us.length:=by rw [hu.len]; exact (List.getElem?_eq_some_iff.mp hj).1
  refine ⟨b,_,_,rfl,SqT.of hb,rfl,g,rfl,⟨_,SqT.of hg⟩,?_⟩
  refine for_tup (xs:=us) (fun i σ H'=>∃ v2 v3:Option V,σ=[some (.ref b),some (.str p.1),v2,v3]/\H'=H/\i<=j) ⟨none,none,rfl,rfl,Nat.zero_le _⟩ (fun i σ H' _ ⟨_,_,_,e,_⟩=>by rw [e]; exact SqT.of hg) ?_ ?_
  ·rintro i v σ H1 hv ⟨v2,v3,rfl,rfl,ij⟩
   obtain ⟨p',hp',z,q,vs',rfl,hz,hq,hr'⟩:=hu.get hv
   refine ⟨z,_,rfl,SqT.of hz,rfl,_,_,rfl,_,_,rfl,rfl,?_⟩
   refine ⟨_,rfl,_,rfl,rfl,_,rfl,ite2 (fun hc => ?_) (fun hc => ?_)⟩
   ·have e:p'.1=p.1:=by simpa using hc
    have e':i=j:=by
     have h1:(rc.map (·.1))[i]?=some p'.1:=by rw [List.getElem?_map,hp']; rfl
     have h2:(rc.map (·.1))[j]?=some p.1:=by rw [List.getElem?_map,hj]; rfl
     rw [e] at h1
     exact (List.getElem?_inj (List.getElem?_eq_some_iff.mp h1).1 nd).mp (h1.trans h2.symm)
    subst e'
    rw [hj] at hp'
    cases hp'
    exact ⟨_,rfl,k q vs' hq hr'⟩
   ·have ne:i ≠ j:=fun z'=>by
     subst z'
     rw [hj] at hp'
     cases hp'
     exact hc (by simp)
    exact ⟨_,_,rfl,rfl,by omega⟩
  ·rintro σ H1 ⟨v2,v3,rfl,rfl,ij⟩
   omega
theorem ndNT:(["number","thing"]:List Str).Nodup:=by decide +kernel
theorem scThin:FnScope ["row"] ["row"] (defScope sThin):=⟨rfl,rfl,rfl,by decide +kernel,rfl,by decide +kernel,by decide +kernel⟩
theorem ok_thin {f:Addr}{fd:FuncData}(F:Fun K "things_in" "things_in" sThin f fd):FnOk P w K mg base CX0 1 f fd ["row"] spThings:=by
 refine F.ok scThin (fun vs H Q E h => ?_) (fun cdv A outer s H vs Q E hr h => ?_)
 ·obtain ⟨_,_,rfl,_⟩:=h
  rfl
 ·obtain ⟨v,r,rfl,rv,tl,k⟩:=h
  refine ⟨_,(pss_cons (ps_if (pt_cmpR op_eq (pit 0 0) pe_str (nomark _))
    (pss_one (ps_ret (pe_comp (N':=["number","thing"]) (cl:=[]) (g:=gTup K 2 (gCons (L2.gName 0) (gCons (L2.gName 1) gNil))) (fun _=>[none,none]) rfl rfl (by decide +kernel) (by decide +kernel) (clOk_plain (by decide +kernel)) (fun _ _=>blkN_none)
    (pi_tup (pit 0 2)) (fun _ _ _ _ _=>pg_tup rfl (pgs_cons (pg_name (i:=0) ndNT rfl (Or.inl rfl) (Or.inr rfl)) (pgs_cons (pg_name (i:=1) ndNT rfl (Or.inl rfl) (Or.inr rfl)) pgs_nil))) (fun _ _ _ _ _=>pifs_nil)
    (fun _ _ _ _ _=>pv 1))))
    pss_nil)
   (pss_one (ps_ret (pe_lst (pa_cons (pit 0 2) pa_nil))))),?_⟩
  cases rv with
  | @take p m a x hp hm=>exact ⟨p,_,_,rfl,SqT.of hp,rfl,rfl,_,rfl,iteF ⟨p,_,_,rfl,SqT.of hp,rfl,(by show 1<=sizeLine; decide),fun l hl=>k l _ (Same.upd hl) hl upd_same⟩⟩
  | @to p n x hp=>exact ⟨p,_,_,rfl,SqT.of hp,rfl,rfl,_,rfl,iteF ⟨p,_,_,rfl,SqT.of hp,rfl,(by show 1<=sizeLine; decide),fun l hl=>k l _ (Same.upd hl) hl upd_same⟩⟩
  | @fill p m a x hp hm=>exact ⟨p,_,_,rfl,SqT.of hp,rfl,rfl,_,rfl,iteF ⟨p,_,_,rfl,SqT.of hp,rfl,(by show 1<=sizeLine; decide),fun l hl=>k l _ (Same.upd hl) hl upd_same⟩⟩
  | @parts p m q a us ps hp hm hq hu =>
   have pl:ps.length<=10:=by
    have:(thg (.parts a ps)).length=ps.length:=List.length_map ..
    omega
   have ul:=hu.len
   refine ⟨p,_,_,rfl,SqT.of hp,rfl,rfl,_,rfl,iteT ?_⟩
   refine ⟨p,_,_,rfl,SqT.of hp,rfl,q,rfl,⟨_,SqT.of hq⟩,fun D hD => ?_⟩
   refine comp_rel (Ys.tup (SqT.of hq)) (fun i _ y _=>∀ p:Int × Str,ps[i]?=some p->y = .str p.2) (fun _ _ _ _ _ h _=>h) hD (by omega) (fun i v H' R hv sm hR => ?_) (fun ys H1 s1 hD' yl hy => ?_)
   ·obtain ⟨pp,hpp,z,rfl,hz⟩:=hu.get hv
    exact ⟨z,_,rfl,SqT.of (sm _ _ hz),rfl,_,_,rfl,_,_,rfl,rfl,((Keep.refl _).set rfl).set rfl,_,rfl,hR _ _ (Same.refl _) fun p' hp'=>by rw [hpp] at hp'; cases hp'; rfl⟩
   ·have ey:ys=(thg (.parts a ps)).map V.str:=by
     show ys=(ps.map (·.2)).map V.str
     refine list_eq (by rw [List.length_map,List.length_map,yl,ul]) fun i x y hx hy' => ?_
     rw [List.map_map,List.getElem?_map] at hx
     cases e:ps[i]? with
     | none=>rw [e] at hx; cases hx
     | some pp =>
      rw [e] at hx
      cases hx
      obtain ⟨u',hu'⟩ : ∃ x,us[i]?=some x:=⟨_,List.getElem?_eq_getElem (by rw [ul]; exact (List.getElem?_eq_some_iff.mp e).1)⟩
      exact hy i u' y hu' hy' pp e
    rw [ey] at hD'
    exact k D H1 s1 hD hD'
theorem scThof:FnScope ["book","name","found","row"] ["book","name"] (defScope sThof):=⟨rfl,rfl,rfl,by decide +kernel,rfl,by decide +kernel,by decide +kernel⟩
theorem ok_thof {f:Addr}{fd:FuncData}(F:Fun K "things_of" "things_of" sThof f fd)(cR:Cal P w K mg base CX0 1 "rows_of" ["book","name"] spRowsOf)(cT:Cal P w K mg base CX0 1 "things_in" ["row"] spThings):FnOk P w K mg base CX0 2 f fd ["book","name"] spThof:=by
 refine F.ok scThof (fun vs H Q E h => ?_) (fun cdv A outer s H vs Q E hr h => ?_)
 ·obtain ⟨_,_,_,_,_,rfl,_⟩:=h
  rfl
 ·obtain ⟨b,us,rc,j,p,rfl,bk,nd,rcs,hj,k⟩:=h
  refine ⟨_,(pss_cons (ps_set (i:=2) scThof.nd rfl (Or.inl rfl) (pe_lst pa_nil))
   (pss_cons (ps_for PassesOwn.never rfl (pi_tup (pe_cal cR hr rfl pass0 (pa_cons (pv 0) (pa_cons (pv 1) pa_nil)))) (pg_name (i:=3) scThof.nd rfl (Or.inl rfl))
    (pss_one (ps_expr (pe_bm PySem.F.plainAttrs_list PySem.F.slot_list_extend PySem.F.type_list_extend mt_extend (pv 2) (pa_cons (pe_cal cT hr rfl pass0 (pa_cons (pv 3) pa_nil)) pa_nil)))))
   (pss_one (ps_ret (pv 2))))),?_⟩
  refine ⟨(by show 0<=sizeLine; decide),fun Fd nF => ?_⟩
  have sF:=Same.upd (o:=.lst []) nF
  refine ⟨_,rfl,_,rfl,b,us,rc,j,p,rfl,bk.keep sF.tk,nd,hj,fun q vs' hq hv => ?_⟩
  have pr:=rcs.rw p (List.mem_of_getElem? hj)
  have vl:=hv.len
  have all10:=fun i=>thgs_len (rs:=p.2.take i) fun r hr=>pr.2 r (List.mem_of_mem_take hr)
  refine ⟨q,rfl,⟨_,SqT.of hq⟩,?_⟩
  refine for_tup (xs:=vs') (fun i σ H'=>∃ v3:Option V,σ=[some (.ref b),some (.str p.1),some (.ref Fd),v3]/\Same H H'/\H' q=some (.tup vs')/\L2R (RowV H') vs' p.2/\H' Fd=some (.lst ((thgs (p.2.take i)).map V.str))) ⟨none,rfl,sF,hq,hv,upd_same⟩ (fun i σ H' _ ⟨_,_,_,h,_⟩=>SqT.of h) ?_ ?_
  ·rintro i v σ H1 hv' ⟨v3,rfl,s1,hq1,hv1,hF1⟩
   obtain ⟨r,hr',rv⟩:=hv1.get hv'
   refine ⟨_,rfl,.inl ⟨rfl,_,SqL.of hF1⟩,_,rfl,v,r,rfl,rv,pr.2 r (List.mem_of_getElem? hr'),fun l H2 s2 nl hl => ?_⟩
   have hF2:=s2 _ _ hF1
   have e:thgs (p.2.take (i+1))=thgs (p.2.take i) ++ thg r:=by
    unfold thgs
    rw [List.take_add_one,hr',List.flatMap_append]
    simp
   have l1:=all10 (i+1)
   rw [e,List.length_append,List.length_take] at l1
   refine ⟨Fd,l,_,_,rfl,rfl,hF2,hl,by rw [List.length_map,List.length_map]; exact Nat.le_of_lt (small1000 (by omega)),?_⟩
   have tk:Tk H2 (upd H2 Fd (.lst ((thgs (p.2.take i)).map V.str ++ (thg r).map V.str))):=Tk.lst hF2
   refine ⟨_,rfl,sm_own' (s1.trans s2) nF,tk _ _ (s2 _ _ hq1),hv1.imp (fun _ _ x=>RowV.keep (s2.tk.trans tk) x),?_⟩
   rw [upd_same,e,List.map_append]
  ·rintro σ H1 ⟨v3,rfl,s1,hq1,hv1,hF1⟩
   rw [vl,List.take_length] at hF1
   exact ⟨_,rfl,k Fd H1 s1 nF hF1⟩
theorem ndNR:(["name","rows"]:List Str).Nodup:=by decide +kernel
theorem scRnm:FnScope ["book"] ["book"] (defScope sRnm):=⟨rfl,rfl,rfl,by decide +kernel,rfl,by decide +kernel,by decide +kernel⟩
theorem ok_rnm {f:Addr}{fd:FuncData}(F:Fun K "recipe_names" "recipe_names" sRnm f fd):FnOk P w K mg base CX0 1 f fd ["book"] spRnm:=by
 refine F.ok scRnm (fun vs H Q E h => ?_) (fun cdv A outer s H vs Q E hr h => ?_)
 ·obtain ⟨_,_,_,rfl,_⟩:=h
  rfl
 ·obtain ⟨b,us,rc,rfl,bk,rl,k⟩:=h
  refine ⟨_,(pss_one (ps_ret (pe_comp (N':=["name","rows"]) (cl:=[]) (g:=gTup K 2 (gCons (L2.gName 0) (gCons (L2.gName 1) gNil))) (fun _=>[none,none]) rfl rfl (by decide +kernel) (by decide +kernel) (clOk_plain (by decide +kernel)) (fun _ _=>blkN_none)
    (pi_tup (pit 0 2)) (fun _ _ _ _ _=>pg_tup rfl (pgs_cons (pg_name (i:=0) ndNR rfl (Or.inl rfl) (Or.inr rfl)) (pgs_cons (pg_name (i:=1) ndNR rfl (Or.inl rfl) (Or.inr rfl)) pgs_nil))) (fun _ _ _ _ _=>pifs_nil)
    (fun _ _ _ _ _=>pv 0)))),?_⟩
  obtain ⟨x,y,g,hb,hg,hu⟩:=bk
  have ul:=hu.len
  refine ⟨b,_,_,rfl,SqT.of hb,rfl,g,rfl,⟨_,SqT.of hg⟩,fun D hD => ?_⟩
  refine comp_rel (Ys.tup (SqT.of hg)) (fun i _ y _=>∀ p:Str × List Rw,rc[i]?=some p->y = .str p.1) (fun _ _ _ _ _ h _=>h) hD (by omega) (fun i v H' R hv sm hR => ?_) (fun ys H1 s1 hD' yl hy => ?_)
  ·obtain ⟨p,hp,z,q,vs',rfl,hz,hq,hrv⟩:=hu.get hv
   exact ⟨z,_,rfl,SqT.of (sm _ _ hz),rfl,_,_,rfl,_,_,rfl,rfl,((Keep.refl _).set rfl).set rfl,_,rfl,hR _ _ (Same.refl _) fun p' hp'=>by rw [hp] at hp'; cases hp'; rfl⟩
  ·have ey:ys=(rc.map (·.1)).map V.str:=by
    refine list_eq (by rw [List.length_map,List.length_map,yl,ul]) fun i x y hx hy' => ?_
    rw [List.map_map,List.getElem?_map] at hx
    cases e:rc[i]? with
    | none=>rw [e] at hx; cases hx
    | some pp =>
     rw [e] at hx
     cases hx
     obtain ⟨u',hu'⟩ : ∃ x,us[i]?=some x:=⟨_,List.getElem?_eq_getElem (by rw [ul]; exact (List.getElem?_eq_some_iff.mp e).1)⟩
     exact hy i u' y hu' hy' pp e
   rw [ey] at hD'
   exact k D H1 s1 hD hD'
theorem ndMT:(["_law_many","_law_thing"]:List Str).Nodup:=by decide +kernel
theorem scThings:FnScope ["_law_row_here"] ["_law_row_here"] (defScope sThings):=⟨rfl,rfl,rfl,by decide +kernel,rfl,by decide +kernel,by decide +kernel⟩
theorem ok_things {f:Addr}{fd:FuncData}(F:Fun K "_law_things" "_law_things" sThings f fd):FnOk P w K mg base CX0 1 f fd ["_law_row_here"] spThings:=by
 refine F.ok scThings (fun vs H Q E h => ?_) (fun cdv A outer s H vs Q E hr h => ?_)
 ·obtain ⟨_,_,rfl,_⟩:=h
  rfl
 ·obtain ⟨v,r,rfl,rv,tl,k⟩:=h
  refine ⟨_,(pss_cons (ps_if (pt_cmpR op_eq (pit 0 0) pe_str (nomark _))
    (pss_one (ps_ret (pe_comp (N':=["_law_many","_law_thing"]) (cl:=[]) (g:=gTup K 2 (gCons (L2.gName 0) (gCons (L2.gName 1) gNil))) (fun _=>[none,none]) rfl rfl (by decide +kernel) (by decide +kernel) (clOk_plain (by decide +kernel)) (fun _ _=>blkN_none)
    (pi_tup (pit 0 2)) (fun _ _ _ _ _=>pg_tup rfl (pgs_cons (pg_name (i:=0) ndMT rfl (Or.inl rfl) (Or.inr rfl)) (pgs_cons (pg_name (i:=1) ndMT rfl (Or.inl rfl) (Or.inr rfl)) pgs_nil))) (fun _ _ _ _ _=>pifs_nil)
    (fun _ _ _ _ _=>pv 1))))
    pss_nil)
   (pss_one (ps_ret (pe_lst (pa_cons (pit 0 2) pa_nil))))),?_⟩
  cases rv with
  | @take p m a x hp hm=>exact ⟨p,_,_,rfl,SqT.of hp,rfl,rfl,_,rfl,iteF ⟨p,_,_,rfl,SqT.of hp,rfl,(by show 1<=sizeLine; decide),fun l hl=>k l _ (Same.upd hl) hl upd_same⟩⟩
  | @to p n x hp=>exact ⟨p,_,_,rfl,SqT.of hp,rfl,rfl,_,rfl,iteF ⟨p,_,_,rfl,SqT.of hp,rfl,(by show 1<=sizeLine; decide),fun l hl=>k l _ (Same.upd hl) hl upd_same⟩⟩
  | @fill p m a x hp hm=>exact ⟨p,_,_,rfl,SqT.of hp,rfl,rfl,_,rfl,iteF ⟨p,_,_,rfl,SqT.of hp,rfl,(by show 1<=sizeLine; decide),fun l hl=>k l _ (Same.upd hl) hl upd_same⟩⟩
  | @parts p m q a us ps hp hm hq hu =>
   have pl:ps.length<=10:=by
    have:(thg (.parts a ps)).length=ps.length:=List.length_map ..
    omega
   have ul:=hu.len
   refine ⟨p,_,_,rfl,SqT.of hp,rfl,rfl,_,rfl,iteT ?_⟩
   refine ⟨p,_,_,rfl,SqT.of hp,rfl,q,rfl,⟨_,SqT.of hq⟩,fun D hD => ?_⟩
   refine comp_rel (Ys.tup (SqT.of hq)) (fun i _ y _=>∀ p:Int × Str,ps[i]?=some p->y = .str p.2) (fun _ _ _ _ _ h _=>h) hD (by omega) (fun i v H' R hv sm hR => ?_) (fun ys H1 s1 hD' yl hy => ?_)
   ·obtain ⟨pp,hpp,z,rfl,hz⟩:=hu.get hv
    exact ⟨z,_,rfl,SqT.of (sm _ _ hz),rfl,_,_,rfl,_,_,rfl,rfl,((Keep.refl _).set rfl).set rfl,_,rfl,hR _ _ (Same.refl _) fun p' hp'=>by rw [hpp] at hp'; cases hp'; rfl⟩
   ·have ey:ys=(thg (.parts a ps)).map V.str:=by
     show ys=(ps.map (·.2)).map V.str
     refine list_eq (by rw [List.length_map,List.length_map,yl,ul]) fun i x y hx hy' => ?_
     rw [List.map_map,List.getElem?_map] at hx
     cases e:ps[i]? with
     | none=>rw [e] at hx; cases hx
     | some pp =>
      rw [e] at hx
      cases hx
      obtain ⟨u',hu'⟩ : ∃ x,us[i]?=some x:=⟨_,List.getElem?_eq_getElem (by rw [ul]; exact (List.getElem?_eq_some_iff.mp e).1)⟩
      exact hy i u' y hu' hy' pp e
    rw [ey] at hD'
    exact k D H1 s1 hD hD'
end
end K17
namespace SX
open PySem PySem.Spec PyProof.Rows
def byT (w:World):Bool:=w.params.followText "set-order"
def kv:Value->Str
 | .str x _=>x
 | _=>⟨#[]⟩
def setO (es:Array (Int × Value))(ep:Nat)(t:SetTable):Obj:={ cls:=.type "set",dict:=none,data:=.set es ep t,slots := #[] }
structure SetS (P:Program)(w:World)(h:Heap)(a:Addr)(ks:List Str):Prop where
 ex : ∃ es ep t,h.get? a=some (setO es ep t)/\ElemsOf (strKind P w) es.toList/\t.fits es.size=true/\t.led=(!byT w)/\(t.plain=false\/es.size=0)/\(es.toList.map fun e=>kv e.2).Perm ks
 nd:ks.Nodup
 lt:ks.length < scanBound
def dd (ks:List Str)(x:Str):List Str:=if x ∈ ks then ks else ks ++ [x]
def ddl (ss:List Str):List Str:=ss.foldl dd []
section
variable {P:Program}{w:World}{A:Around}{E:Value->Shared->Prop}{s:Shared}
end
end SX
namespace SX
open PySem PySem.Spec PyProof.Rows
section
variable {P:Program}{w:World}{A:Around}{R:Result->Shared->Prop}{I:Addr}{fp wr:List Addr}{G:Array GenState->Array GenState->Prop}{n:Nat}{Pr:Nat->Value->Prop}{St:Nat->Shared->Prop}
end
section
variable {P:Program}{w:World}{A:Around}{E:Value->Shared->Prop}{s:Shared}
abbrev nuSet (w:World):Obj:=setO #[] 0 (.fresh 0 0 (!byT w))
end
end SX
namespace DX
open PySem PySem.Spec PyProof.Rows
theorem plain_dul:plainId "dict.update.loop" = true:=by decide +kernel
theorem entry_dul:entryFor table "dict.update.loop" = some Builtin.«dict.update.loop» := entryFor_of_tree (by kernel_rfl)
theorem list_no_keys:typeLookup (.type "list") (Str.ofString "keys")=pure none:=am_miss_of_fast (by decide +kernel)
section
variable {P:Program}{w:World}{A:Around}{E:Value->Shared->Prop}{s:Shared}
theorem keys_of_list {a:Addr}{xs:Array Value}{k:Nat}{sl:Array (Option Value)}{Q:Option Value->Shared->Prop}(ho:s.heap.get? a=some { cls:=.type "list",data:=.seq xs k,slots:=sl })(hh:A.handled=none)
  (h : ∀ h' tk,(∀ b ob,s.heap.get? b=some ob->h'.get? b=some ob)->Q none { s with heap:=h',toks:=tk }):wpAny (model P w) A (getAttr? (.ref a) "keys") Q E s:=by
 have ty:s.TypeIs (.ref a) "list" := ⟨_,ho,rfl⟩
 unfold getAttr?
 refine wpAny_bind (wpAny_mkText ?_)
 unfold getAttrBy?
 refine wpAny_bind (wpAny_attempt ?_)
 unfold getAttrBy
 refine wpAny_holding ?_
 refine wpAny_bind (wpAny_typeOf (T := "list") ⟨_,ho,rfl⟩ ?_)
 refine wpAny_bind (wpAny_of_eq F.slot_list_getattribute.lookup ?_)
 dsimp only
 show wpAny _ _ (getAttrByItsOwn _ _ _ _ _ _) _ _ _
 unfold getAttrByItsOwn
 refine wpAny_bind (wpAny_of_eq (a:=none) rfl ?_)
 refine wpAny_bind (wpAny_attempt (wpAny_holding ?_))
 show wpAny _ _ (boundAndCalled _ _ _) _ _ _
 unfold boundAndCalled
 refine wpAny_bind (wpAny_of_eq (F.slot_list_getattribute.bind _) ?_)
 dsimp only
 refine call_meets F.slot_list_getattribute ⟨_,ho,rfl⟩ am_entry_list_getattribute (F.args_list_getattribute_2 _ _) (meets_getattribute_miss_list a xs k sl "keys" _ list_no_keys (by decide +kernel)) ⟨ho,hh,fun h' tk e ne => ?_⟩
 show wpAny _ _ (getattributeRaised _ _ _ _ _ _ _) _ _ _
 obtain ⟨t,u,he⟩:=ne.there
 unfold getattributeRaised
 refine wpAny_bind (wpAny_isInstance (T := "AttributeError") ⟨_,he,rfl⟩ sub_AttributeError ?_)
 rw [if_pos rfl]
 refine wpAny_bind (wpAny_of_eq am_list_getattr_none ?_)
 unfold hookOrError
 dsimp only
 unfold attributeErrorLeaves
 refine wpAny_bind (wpAny_throw ?_)
 show wpAny _ _ (isInstance _ _ >>= _) _ _ _
 refine wpAny_bind (wpAny_isInstance (T := "AttributeError") ⟨_,he,rfl⟩ sub_AttributeError ?_)
 rw [if_pos rfl]
 exact wpAny_pure (h h' tk ne.keeps)
def TupAt (h:Heap)(z:Addr)(x y:Value):Prop:=∃ o n,h.get? z=some o/\o.cls = .type "tuple" /\ o.data = .seq #[x,y] n
theorem pairItems_tup {z:Addr}{x y:Value}{Q:List Value->Shared->Prop}(ht:TupAt s.heap z x y)(h:Q [x,y] s):wpAny (model P w) A (Builtin.Dict.pairItems (.ref z)) Q E s:=by
 obtain ⟨o,n,ho,hc,hd⟩:=ht
 unfold Builtin.Dict.pairItems
 refine wpAny_bind (wpAny_typeOf (T := "tuple") ⟨_,ho,hc⟩ ?_)
 wp_walk
 rw [hd]
 exact wpAny_pure (wpAny_pure h)
end
section
variable {P:Program}{w:World}{K:Type}[DecidableEq K]{knd:KeyKind P w K}{A:Around}{R:Result->Shared->Prop}
theorem stored_len (acc:List (K × Value))(k:K)(v:Value):(stored acc k v).length<=acc.length+1:=by
 unfold stored
 split
 ·rw [List.length_map]; omega
 ·rw [List.length_append]; exact Nat.le_refl _
theorem upd_loop (hh:A.in1.handled=none)(d it l:Addr)(its:Array Value)(ps:List (K × Value))(hdi:d ≠ it)(hdl:d ≠ l)(hil:it ≠ l)(hl:ps.length=its.size)(hz:ps.length<=sizeLine)(h0:Heap)(hL:h0.IsList l its)
  (hp : ∀ (i:Nat) kv,ps[i]?=some kv->∃ z key,its[i]?=some (.ref z)/\knd.is kv.1 key=true/\z ≠ d/\z ≠ it/\TupAt h0 z key kv.2) :
  ∀ (n i:Nat) (s:Shared),its.size - i=n->i<=its.size->s.heap.IsListIter it l i->(∀ b o,b ≠ d->b ≠ it->h0.get? b=some o->s.heap.get? b=some o)->s.heap.DictOf knd d ((ps.take i).foldl (fun acc kv=>stored acc kv.1 kv.2) [])->((ps.take i).foldl (fun acc kv=>stored acc kv.1 kv.2) []).length<=i ->
   (∀ (h':Heap) (tk:Nat),(∀ b o,b ≠ d->b ≠ it->h0.get? b=some o->h'.get? b=some o)->h'.DictOf knd d (ps.foldl (fun acc kv=>stored acc kv.1 kv.2) [])->R (.ok (.ret .none)) { s with heap:=h',toks:=tk }) ->
   codeAny (model P w) A (.builtin "dict.update.loop" ⟨[.ref d,.ref it,rawInt i,.none],[]⟩) R s:=by
 intro n
 induction n with
 | zero =>
  intro i s hk hi st fr D len q
  obtain rfl:i=its.size:=by omega
  refine codeAny_builtin entry_dul ?_
  rw [Around.under_plainId plain_dul _]
  have hL':s.heap.IsList l its:=by
   obtain ⟨o,e,r⟩:=hL
   exact ⟨o,fr l o (Ne.symm hdl) (Ne.symm hil) e,r⟩
  show wpAny _ A.in1 (pyNext (.ref it) >>= _) _ _ s
  refine wpAny_bind (wpAny_pyNext_list_end hh st hL' (by simp) fun h' eb => ?_)
  rw [List.take_of_length_le (by omega)] at D
  dsimp only
  refine wpAny_bind (wpAny_of_eq (a:=()) rfl ?_)
  refine wpAny_pure (q h' s.toks (fun b o b1 b2 e=>eb b o b2 (fr b o b1 b2 e)) ?_)
  obtain ⟨o,es,ep,ho,r⟩:=D
  exact ⟨o,es,ep,eb d o hdi ho,r⟩
 | succ n ih =>
  intro i s hk hi st fr D len q
  have lt:i < its.size:=by omega
  have hL':s.heap.IsList l its:=by
   obtain ⟨o,e,r⟩:=hL
   exact ⟨o,fr l o (Ne.symm hdl) (Ne.symm hil) e,r⟩
  obtain ⟨kv,hkv⟩ : ∃ kv,ps[i]?=some kv:=⟨_,List.getElem?_eq_getElem (by omega)⟩
  obtain ⟨z,key,e1,e2,z1,z2,tz⟩:=hp i kv hkv
  refine codeAny_builtin entry_dul ?_
  rw [Around.under_plainId plain_dul _]
  show wpAny _ A.in1 (pyNext (.ref it) >>= _) _ _ s
  refine wpAny_bind (wpAny_pyNext_list_item st hL' e1 fun h' st' sb => ?_)
  have fr1 : ∀ b o,b ≠ d->b ≠ it->h0.get? b=some o->h'.get? b=some o:=fun b o b1 b2 e=>(sb.2 b b2).trans (fr b o b1 b2 e)
  have D1:h'.DictOf knd d ((ps.take i).foldl (fun acc kv=>stored acc kv.1 kv.2) []):=by
   obtain ⟨o,es,ep,ho,r⟩:=D
   exact ⟨o,es,ep,(sb.2 d hdi).trans ho,r⟩
  have tz1:TupAt h' z key kv.2:=by
   obtain ⟨o,m,ho,r⟩:=tz
   exact ⟨o,m,fr1 z o z1 z2 ho,r⟩
  dsimp only
  refine wpAny_bind (wpAny_holding ?_)
  refine wpAny_bind (wpAny_tryCatch (pairItems_tup tz1 ?_))
  dsimp only
  refine wpAny_holding (wpAny_dictSet_pairs e2 D1 (fun h2 D2 sb2 => ?_) (by omega))
  have et:ps.take (i+1)=ps.take i ++ [kv]:=by rw [List.take_add_one,hkv]; rfl
  refine wpAny_pure ⟨plainId_quiet plain_dul _,?_⟩
  have D3:h2.DictOf knd d ((ps.take (i+1)).foldl (fun acc kv=>stored acc kv.1 kv.2) []):=by
   rw [et,List.foldl_append]
   exact D2
  have len3:((ps.take (i+1)).foldl (fun acc kv=>stored acc kv.1 kv.2) []).length<=i+1:=by
   rw [et,List.foldl_append]
   have:=stored_len ((ps.take i).foldl (fun acc kv=>stored acc kv.1 kv.2) []) kv.1 kv.2
   show (stored _ kv.1 kv.2).length<=i+1
   omega
  refine ih (i+1) _ (by omega) lt ?_ (fun b o b1 b2 e=>(sb2.2 b b1).trans (fr1 b o b1 b2 e)) D3 len3 fun h3 tk f3 d3=>q h3 tk f3 d3
  obtain ⟨o,e,r⟩:=st'
  exact ⟨o,(sb2.2 it (Ne.symm hdi)).trans e,r⟩
end
section
variable {P:Program}{w:World}{K:Type}[DecidableEq K]{knd:KeyKind P w K}{A:Around}{E:Value->Shared->Prop}{s:Shared}
abbrev nuD:Obj:={ cls:=.type "dict",data:=.dict #[] }
theorem call_dict_list {l:Addr}{its:Array Value}{n:Nat}{sl:Array (Option Value)}{ps:List (K × Value)}{Q:Value->Shared->Prop}(hh:A.handled=none)(hl:s.heap.get? l=some { cls:=.type "list",data:=.seq its n,slots:=sl })(hz:ps.length<=sizeLine)(hlen:ps.length=its.size)
  (hp : ∀ (i:Nat) kv,ps[i]?=some kv->∃ z key,its[i]?=some (.ref z)/\knd.is kv.1 key=true/\TupAt s.heap z key kv.2)
  (h : ∀ (h':Heap) (tk:Nat),(∀ b o,s.heap.get? b=some o->h'.get? b=some o)->h'.DictOf knd s.heap.objs.size (ps.foldl (fun acc kv=>stored acc kv.1 kv.2) [])->Q (.ref s.heap.objs.size) { s with heap:=h',toks:=tk }) :
  wpAny (model P w) A (call (.type "dict") [.ref l]) Q E s:=by
 obtain ⟨c,tl,hmro⟩:=F.kt_called_dict.mro
 have hmade:=F.kt_called_dict.made
 have hsub:=F.kt_called_dict.sub
 refine wpAny_call (codeAny_of_tree ?_)
 show wpAny _ _ (callAny (.type "dict") _) _ _ _
 refine wpAny_pure ⟨Code.quiet_builtin _ (by decide +kernel),codeAny_builtin F.entry_type_call ?_⟩
 rw [Around.under_plain (weight_type_call_type "dict" [.ref l] []) rfl]
 have h1:=F.kt_called_dict.notType
 have h2:=F.kt_called_dict.canCreate
 have hct:=F.kt_typeCall_dict_1 (.ref l)
 repeat (any_goals (first | assumption | wp_step))
 refine codeAny_mono (kt_code_dict_new (.ref l) (E:=E) (Q₁:=fun obj s1=>obj = .ref s.heap.objs.size/\s1={ s with heap:=s.heap.push nuD }) ⟨rfl,rfl⟩) fun r s1 hr => ?_
 cases r with
 | error e=>exact hr
 | ok fl =>
  cases fl with
  | ret obj =>
   obtain ⟨rfl,rfl⟩:=hr
   have hS:(s.heap.push nuD).get? s.heap.objs.size=some nuD:=Heap.get?_push_size _ rfl
   have hT:Shared.TypeIs { s with heap:=s.heap.push nuD } (.ref s.heap.objs.size) "dict" := ⟨_,hS,rfl⟩
   have hli:=F.kt_called_dict.init.lookup
   have hbi:=F.kt_called_dict.init.bind (.ref s.heap.objs.size)
   repeat (any_goals (first | assumption | wp_step))
   refine codeAny_mono (codeAny_call_builtin (R:=wants (fun r s2=>r = .none/\∃ h' tk,s2={ s with heap:=h',toks:=tk }/\h'.DictOf knd s.heap.objs.size (ps.foldl (fun acc kv=>stored acc kv.1 kv.2) [])/\(∀ b o,s.heap.get? b=some o->h'.get? b=some o)) E) F.kt_called_dict.init.plain F.entry_dict_init (F.kt_called_dict.init.check _ _ _ _ _ _ _ _ hT (F.args_dict_init_2 _ _) ?_)) fun r2 s2 hr2 => ?_
   ·have hl1:(s.heap.push nuD).get? l=some { cls:=.type "list",data:=.seq its n,slots:=sl }:=Heap.get?_push_of_some _ hl
    have hlS:l < s.heap.objs.size:=Heap.lt_size hl
    have hz1:(s.heap.push nuD).objs.size=s.heap.objs.size+1:=Heap.size_push ..
    show wpAny _ _ (Builtin.Dict.selfAndRest "__init__" ⟨[.ref s.heap.objs.size,.ref l],[]⟩ >>= _) _ _ _
    refine wpAny_bind ?_
    unfold Builtin.Dict.selfAndRest Builtin.Dict.notOrdered
    rw [if_pos (by decide +kernel)]
    refine wpAny_bind (wpAny_bind (wpAny_typeOf (T := "dict") hT ?_))
    rw [if_neg (by decide +kernel)]
    refine wpAny_pure ?_
    refine wpAny_bind (wpAny_of_eq (a:=s.heap.objs.size) rfl (wpAny_pure ?_))
    show wpAny _ _ (Builtin.Dict.updateFrom "dict.__init__" s.heap.objs.size (.ref l) [] .none) _ _ _
    unfold Builtin.Dict.updateFrom
    refine wpAny_bind (wpAny_typeOf (T := "list") ⟨_,hl1,rfl⟩ ?_)
    rw [if_pos (by decide +kernel)]
    refine wpAny_bind (keys_of_list hl1 (by simp [hh]) fun h3 tk3 k3 => ?_)
    rw [if_pos (show (none:Option Value).isNone=true from rfl)]
    refine wpAny_bind (wpAny_rule ?_)
    have hl3:h3.get? l=some { cls:=.type "list",data:=.seq its n,slots:=sl }:=k3 _ _ hl1
    have hL3:h3.IsList l its:=⟨_,hl3,rfl,n,rfl⟩
    refine wpAny_bind (wpAny_pyIter_list hL3 ?_)
    have hd3:h3.get? s.heap.objs.size=some nuD:=k3 _ _ hS
    have dlt:=Heap.lt_size hd3
    have llt:=Heap.lt_size hl3
    have old : ∀ b o,s.heap.get? b=some o->(h3.push { cls:=.type "list_iterator",data:=.fields #[.ref l,.int 0 0] }).get? b=some o/\b ≠ s.heap.objs.size/\b ≠ h3.objs.size:=fun b o e=>by
     have e3:=k3 _ _ (Heap.get?_push_of_some nuD e)
     exact ⟨Heap.get?_push_of_some _ e3,Nat.ne_of_lt (Heap.lt_size e),Nat.ne_of_lt (Heap.lt_size e3)⟩
    refine wpAny_pure ⟨plainId_quiet plain_dul _,upd_loop (knd:=knd) (by simp [hh]) s.heap.objs.size h3.objs.size l its ps (Nat.ne_of_lt dlt) (Nat.ne_of_gt hlS) (Nat.ne_of_gt llt) hlen hz (h3.push { cls:=.type "list_iterator",data:=.fields #[.ref l,.int 0 0] }) ⟨_,(old l _ hl).1,rfl,n,rfl⟩ (fun i kv hkv => ?_) its.size 0 _ (by omega) (Nat.zero_le _) ⟨_,Heap.get?_push_size _ rfl,rfl,rfl⟩ (fun b o _ _ e=>e) ?_ (Nat.le_refl _) fun h' tk fr D=>⟨rfl,h',tk,rfl,D,fun b o e=>fr b o (old b o e).2.1 (old b o e).2.2 (old b o e).1⟩⟩
    ·obtain ⟨z,key,e1,e2,o,m,e3,e4⟩:=hp i kv hkv
     exact ⟨z,key,e1,e2,(old z o e3).2.1,(old z o e3).2.2,o,m,(old z o e3).1,e4⟩
    ·exact ⟨nuD,#[],0,Heap.get?_push_of_some _ hd3,⟨rfl,rfl,rfl⟩,rfl,(fun e he=>by simp at he),.nil,List.nodup_nil⟩
   ·cases r2 with
    | error e=>exact hr2
    | ok f2 =>
     cases f2 with
     | ret r =>
      obtain ⟨rfl,h',tk,rfl,S',hk'⟩:=hr2
      repeat (any_goals (first | assumption | wp_step))
      exact h _ _ hk' S'
     | _=>exact hr2.elim
  | _=>exact hr.elim
end
end DX
namespace L2
open PySem PySem.Spec PyProof.Rows
section
variable {X:Cx}
def rDictL (K:PySem.W.Frag):List V->Hp->VK->Prop:=fun xs H Q=>∃ (a:Addr) (us:List V) (kvs:List (Key × V)),xs=[.ref a]/\H a=some (.lst us)/\us.length=kvs.length/\(kvs.map (·.1)).Nodup /\
 (∀ (i:Nat) u kv,us[i]?=some u->kvs[i]?=some kv->∃ z,u = .ref z/\H z=some (.tup [kV kv.1,kv.2]))/\∀ p,H p=none->Q (.ref p) (upd H p (.dK kvs))
theorem fold_put : ∀ (kvs acc:List (Key × V)),(kvs.map (·.1)).Nodup->(∀ kv ∈ kvs,∀ kw ∈ acc,kv.1 ≠ kw.1)->kvs.foldl (fun acc kv=>putK acc kv.1 kv.2) acc=acc ++ kvs
 | [],acc,_,_=>by simp
 | kv :: r,acc,nd,h=>by
  rw [List.map_cons] at nd
  have nd':=List.nodup_cons.mp nd
  have e:putK acc kv.1 kv.2=acc ++ [kv]:=by
   unfold putK
   rw [if_neg]
   intro z
   obtain ⟨kw,hk,e⟩:=List.any_eq_true.mp z
   exact h kv (List.mem_cons_self ..) kw hk (of_decide_eq_true e).symm
  rw [List.foldl_cons,e,fold_put r (acc ++ [kv]) nd'.2 fun k1 h1 k2 h2 => ?_,List.append_assoc]
  ·rfl
  ·rcases List.mem_append.mp h2 with h2 | h2
   ·exact h k1 (List.mem_cons_of_mem _ h1) k2 h2
   ·rw [List.mem_singleton.mp h2]
    exact fun z=>nd'.1 (z ▸ List.mem_map_of_mem h1)
theorem kv_fold : ∀ {kvs:List (Key × V)} {vs:List (Key × Value)} {acc:List (Key × V)} {bcc:List (Key × Value)},KV kvs vs->KV acc bcc->KV (kvs.foldl (fun acc kv=>putK acc kv.1 kv.2) acc) (vs.foldl (fun acc kv=>stored acc kv.1 kv.2) bcc)
 | [],[],_,_,_,h=>h
 | kv :: r,v :: q,acc,bcc,.cons ⟨e,rv⟩ t,h=>by
  have h1:=h.put kv.1 rv
  rw [e] at h1
  rw [List.foldl_cons,List.foldl_cons,e]
  exact kv_fold t h1
theorem call_dictL (hc:X.calm=true):CallR X (.type "dict") (rDictL X.K):=by
 intro pins s σ H xs us' Q I r h
 obtain ⟨a,us,kvs,rfl,hH,hl,nd,hp,q⟩:=h
 obtain ⟨u,rfl,rx⟩:=vals1 r
 cases rx
 obtain ⟨z,its,n,rv,e⟩:us.length<=sizeLine/\∃ (its:List Value) (n:Nat),Vals us its/\s.heap.get? a=some { cls:=.type "list",data:=.seq its.toArray n }:=I.hok a _ hH
 have vl:=rv.length
 have at' : ∀ (i:Nat) kv,kvs[i]?=some kv->∃ z key v,its[i]?=some (.ref z)/\RelV (kV kv.1) key/\RelV kv.2 v/\DX.TupAt s.heap z key v:=fun i kv hkv=>by
  have hi:=(List.getElem?_eq_some_iff.mp hkv).1
  obtain ⟨u,hu⟩ : ∃ u,us[i]?=some u:=⟨_,List.getElem?_eq_getElem (by omega)⟩
  obtain ⟨z,rfl,hz⟩:=hp i u kv hu hkv
  obtain ⟨v,hv,ru⟩:=rv.get hu
  cases ru
  obtain ⟨_,ts,rt,o,ho,hc',m,hd⟩:_/\∃ ts,Vals [kV kv.1,kv.2] ts/\s.heap.IsTuple z ts.toArray:=I.hok z _ hz
  obtain ⟨k1,v1,rfl,r1,r2⟩:=vals2 rt
  exact ⟨z,k1,v1,hv,r1,r2,o,m,ho,hc',hd⟩
 obtain ⟨vs,kvr,vat⟩ : ∃ vs:List (Key × Value),KV kvs vs/\∀ (i:Nat) kv,vs[i]?=some kv->∃ z key,its.toArray[i]?=some (.ref z)/\(mixKind X.prog X.w).is kv.1 key=true/\DX.TupAt s.heap z key kv.2:=by
  have key : ∀ (kvs:List (Key × V)) (j:Nat),(∀ (i:Nat) kv,kvs[i]?=some kv->∃ z key v,its[j+i]?=some (.ref z)/\RelV (kV kv.1) key/\RelV kv.2 v/\DX.TupAt s.heap z key v)->∃ vs:List (Key × Value),KV kvs vs/\∀ (i:Nat) kv,vs[i]?=some kv->∃ z key,its.toArray[j+i]?=some (.ref z)/\(mixKind X.prog X.w).is kv.1 key=true/\DX.TupAt s.heap z key kv.2:=by
   intro kvs
   induction kvs with
   | nil=>exact fun j _=>⟨[],.nil,fun i kv h=>by simp at h⟩
   | cons kv r ih =>
    intro j h
    obtain ⟨vs,a1,a2⟩:=ih (j+1) fun i kv hk=>by
     have:=h (i+1) kv (by simpa using hk)
     rwa [show j+(i+1)=j+1+i by omega] at this
    obtain ⟨z,key,v,b1,b2,b3,b4⟩:=h 0 kv rfl
    refine ⟨(kv.1,v) :: vs,.cons ⟨rfl,b3⟩ a1,fun i kw hk => ?_⟩
    cases i with
    | zero =>
     cases (show some (kv.1,v)=some kw from hk)
     exact ⟨z,key,by simpa using b1,kV_is b2,b4⟩
    | succ i =>
     have:=a2 i kw (by simpa using hk)
     rwa [show j+(i+1)=j+1+i by omega]
  obtain ⟨vs,a1,a2⟩:=key kvs 0 fun i kv hk=>by rw [Nat.zero_add]; exact at' i kv hk
  exact ⟨vs,a1,fun i kv hk=>by have:=a2 i kv hk; rwa [Nat.zero_add] at this⟩
 have kl:=kvr.length
 refine DX.call_dict_list (knd:=mixKind X.prog X.w) (I.ok.hd hc) e (ps:=vs) (by omega) (by rw [List.size_toArray]; omega) vat fun h' tk k3 D => ?_
 have rel:=kv_fold kvr (acc:=[]) (bcc:=[]) .nil
 rw [fold_put kvs [] nd (fun _ _ _ h=>nomatch h),List.nil_append] at rel
 exact ⟨.ref _,_,I.laid (a:=s.heap.objs.size) (o:=.dK kvs) (t':=tk) k3 (Nat.le_refl _) ⟨by omega,beq_eq_false_iff_ne.mpr (Ne.symm (Nat.ne_of_lt I.big)),_,rel,D⟩,rfl,q _ (I.hok.fresh (Nat.le_refl _))⟩
end
end L2
namespace K17
open PySem PySem.Spec PyProof.Rows L2 GM TM
open BQ TR
def belowF (rc:List (Str × List Rw))(x:Str):List Str:=rc.flatMap fun p=>if p.1=x then thgs p.2 else []
theorem op_notInK {X:Cx}{K:PySem.W.Frag}(h:X.K=K):OpR X (compareOp .NotIn) (rIn K true):=h ▸ op_notIn_seq
theorem op_inK {X:Cx}{K:PySem.W.Frag}(h:X.K=K):OpR X (compareOp .In) (rIn K false):=h ▸ op_in_seq
def Ord (rc:List (Str × List Rw))(ws xs:List Str):Prop:=∀ (i:Nat) x,xs[i]?=some x->∀ t ∈ belowF rc x,t ∈ ws\/t ∈ xs.take i
theorem Ord.snoc {rc:List (Str × List Rw)}{ws xs:List Str}{x:Str}(h:Ord rc ws xs)(hx : ∀ t ∈ belowF rc x,t ∈ ws ++ xs):Ord rc ws (xs ++ [x]):=fun i y hy t ht=>by
 rcases snoc_get hy with ⟨hi,hy'⟩ | ⟨rfl,rfl⟩
 ·rcases h i y hy' t ht with h' | h'
  ·exact .inl h'
  ·rw [List.take_append_of_le_length (by omega)]
   exact .inr h'
 ·rw [List.take_append_of_le_length (Nat.le_refl _),List.take_length]
  exact List.mem_append.mp (hx t ht)
def BwV (H:Hp)(b:Addr)(ws:List Str)(us:List V)(rc:List (Str × List Rw)):Prop:=∃ w' y f,H b=some (.tup [.ref w',y,.ref f])/\H w'=some (.tup (ws.map V.str))/\H f=some (.tup us)/\L2R (RecV H) us rc
theorem BwV.bk {H:Hp}{b:Addr}{ws:List Str}{us:List V}{rc:List (Str × List Rw)}(h:BwV H b ws us rc):BkV H b us rc:=by
 obtain ⟨w',y,f,a,_,c,d⟩:=h
 exact ⟨_,y,f,a,c,d⟩
theorem BwV.keep {H H':Hp}{b:Addr}{ws:List Str}{us:List V}{rc:List (Str × List Rw)}(k:Tk H H')(h:BwV H b ws us rc):BwV H' b ws us rc:=by
 obtain ⟨w',y,f,a,e,c,d⟩:=h
 exact ⟨w',y,f,k _ _ a,k _ _ e,k _ _ c,d.imp fun _ _ x=>x.keep k⟩
def NRp (rc:List (Str × List Rw))(ws xs:List Str)(p:Str × List Rw):Prop:=p.1 ∈ ws ++ xs\/∃ t ∈ belowF rc p.1,t ∉ ws ++ xs
def FirstR (rc:List (Str × List Rw))(ws xs:List Str)(x:Str):Prop:=∃ (j:Nat) (p:Str × List Rw),rc[j]?=some p/\p.1=x/\¬ NRp rc ws xs p/\∀ j' < j,∀ p',rc[j']?=some p'->NRp rc ws xs p'
theorem first_snoc {rc:List (Str × List Rw)}{ws xs:List Str}{y:Str}(h : ∀ (i:Nat) x,xs[i]?=some x->FirstR rc ws (xs.take i) x)(k:FirstR rc ws xs y) : ∀ (i:Nat) x,(xs ++ [y])[i]?=some x->FirstR rc ws ((xs ++ [y]).take i) x:=fun i x hx=>by
 rcases snoc_get hx with ⟨l,hx'⟩ | ⟨rfl,rfl⟩
 ·rw [List.take_append_of_le_length (by omega)]
  exact h i x hx'
 ·rw [List.take_append_of_le_length (Nat.le_refl _),List.take_length]
  exact k
structure OrdE (rc:List (Str × List Rw))(ws xs:List Str):Prop where
 nd:xs.Nodup
 sub : ∀ x ∈ xs,x ∈ rc.map (·.1)
 full:xs.length=rc.length\/∀ p ∈ rc,NRp rc ws xs p
 fst : ∀ (i:Nat) x,xs[i]?=some x->FirstR rc ws (xs.take i) x
structure Full (rc:List (Str × List Rw))(ws xs:List Str):Prop where
 ord:Ord rc ws xs
 nd:xs.Nodup
 sub : ∀ x ∈ xs,x ∈ rc.map (·.1)
 all : ∀ p ∈ rc,p.1 ∈ xs
def rank (t:Int)(j:Nat):Nat:=if t=0 then j else if t=1 then 100 - j else j*7 % 13
theorem rank_lt {t:Int}{j k:Nat}(h:Lw t j k)(hj:j < 50)(hk:k < 50):rank t k < rank t j:=by
 unfold rank
 rcases h with ⟨rfl,h⟩ | ⟨rfl,h⟩ | ⟨h,h0,h1⟩
 ·simpa using h
 ·simp; omega
 ·rw [if_neg h0,if_neg h1,if_neg h0,if_neg h1]; exact h
theorem below_of {rc:List (Str × List Rw)} : ∀ {j:Nat} {p:Str × List Rw},(rc.map (·.1)).Nodup->rc[j]?=some p->belowF rc p.1=thgs p.2:=by
 induction rc with
 | nil=>intro j p _ h; simp at h
 | cons q r ih =>
  intro j p nd h
  rw [List.map_cons] at nd
  have nd':=List.nodup_cons.mp nd
  have none : ∀ (r:List (Str × List Rw)) (x:Str),x ∉ r.map (·.1)->belowF r x=[]:=by
   intro r x hx
   unfold belowF
   rw [List.flatMap_eq_nil_iff]
   intro q hq
   rw [if_neg (fun e:q.1=x=>hx (e ▸ List.mem_map_of_mem hq))]
  cases j with
  | zero =>
   cases (show some q=some p from h)
   show (if q.1=q.1 then thgs q.2 else []) ++ belowF r q.1=thgs q.2
   rw [if_pos rfl,none r q.1 nd'.1,List.append_nil]
  | succ j =>
   have h':r[j]?=some p:=by simpa using h
   have ne:q.1 ≠ p.1:=fun e=>nd'.1 (e ▸ List.mem_map_of_mem (List.mem_of_getElem? h'))
   show (if q.1=p.1 then thgs q.2 else []) ++ belowF r p.1=thgs p.2
   rw [if_neg ne,List.nil_append]
   exact ih nd'.2 h'
def spReady:Sp:=fun vs H Q _=>∃ (b o:Addr) (ws xs:List Str) (us:List V) (rc:List (Str × List Rw)),vs=[.ref b,.ref o]/\BwV H b ws us rc/\RcS rc/\(rc.map (·.1)).Nodup/\ws.length<=20/\H o=some (.lst (xs.map V.str))/\xs.length<=12/\(∀ p ∈ rc,p.1 ∉ ws) /\
 (∀ p H',Same H H'->p ∈ rc->p.1 ∉ xs->(∀ t ∈ belowF rc p.1,t ∈ ws ++ xs)->FirstR rc ws xs p.1->Q (.str p.1) H')/\(∀ H',Same H H'->(∀ p ∈ rc,NRp rc ws xs p)->Q .non H')
def spOof:Sp:=fun vs H Q _=>∃ (b:Addr) (ws:List Str) (us:List V) (rc:List (Str × List Rw)),vs=[.ref b]/\BwV H b ws us rc/\RcS rc/\(rc.map (·.1)).Nodup/\ws.length<=20/\(∀ p ∈ rc,p.1 ∉ ws) /\
 ∀ (xs:List Str) l H',Same H H'->H l=none->H' l=some (.lst (xs.map V.str))->xs.length<=12->Ord rc ws xs->OrdE rc ws xs->Q (.ref l) H'
structure BkT (ws rs:List Str)(t:Int)(rc:List (Str × List Rw)):Prop where
 nm:rc.map (·.1)=rs
 nd:(ws ++ rs).Nodup
 r12:rs.length<=12
 tg : ∀ (j:Nat) p,rc[j]?=some p->∀ y ∈ thgs p.2,Tg ws rs t j y
theorem BkT.names {ws rs:List Str}{t:Int}{rc:List (Str × List Rw)}(h:BkT ws rs t rc):(rc.map (·.1)).Nodup:=by
 rw [h.nm]
 exact (List.nodup_append.mp h.nd).2.1
theorem BkT.len {ws rs:List Str}{t:Int}{rc:List (Str × List Rw)}(h:BkT ws rs t rc):rc.length=rs.length:=by
 have:=congrArg List.length h.nm
 rwa [List.length_map] at this
theorem nd_sub : ∀ {ws ks:List Str},ks.Nodup->(∀ y ∈ ks,y ∈ ws)->ks.length<=ws.length
 | [],[],_,_=>Nat.le_refl _
 | [],y :: _,_,h=>nomatch h y (List.mem_cons_self ..)
 | w :: ws,ks,nd,h=>by
  have ih:=nd_sub (ws:=ws) (nd.erase w) fun y hy=>by
   obtain ⟨h1,h2⟩:=nd.mem_erase_iff.mp hy
   rcases List.mem_cons.mp (h y h2) with z | z
   ·exact absurd z h1
   ·exact z
  have:=List.le_length_erase (a:=w) (l:=ks)
  rw [List.length_cons]
  omega
theorem full_of {ws rs xs:List Str}{t:Int}{rc:List (Str × List Rw)}(b:BkT ws rs t rc)(ord:Ord rc ws xs)(e:OrdE rc ws xs):Full rc ws xs:=by
 have nmd:=b.names
 have rl:=b.len
 have r6:=b.r12
 refine ⟨ord,e.nd,e.sub,fun p hp => ?_⟩
 rcases e.full with l | nr
 ·by_cases z:p.1 ∈ xs
  ·exact z
  ·exfalso
   have:=nd_sub (ws:=rc.map (·.1)) (ks:=p.1 :: xs) (List.nodup_cons.mpr ⟨z,e.nd⟩) fun y hy=>by
    rcases List.mem_cons.mp hy with rfl | hy
    ·exact List.mem_map_of_mem hp
    ·exact e.sub y hy
   rw [List.length_cons,List.length_map] at this
   omega
 ·have key : ∀ (n j:Nat) (p:Str × List Rw),rank t j < n->rc[j]?=some p->p.1 ∈ xs:=by
   intro n
   induction n with
   | zero=>intro j p h; omega
   | succ n ih =>
    intro j p hr hj
    have jl:=(List.getElem?_eq_some_iff.mp hj).1
    rcases nr p (List.mem_of_getElem? hj) with h | ⟨y,hy,h⟩
    ·rcases List.mem_append.mp h with h | h
     ·exfalso
      have e2:=b.nm
      have:p.1 ∈ rs:=by rw [<- e2]; exact List.mem_map_of_mem (List.mem_of_getElem? hj)
      exact (List.nodup_append.mp b.nd).2.2 p.1 h p.1 this rfl
     ·exact h
    ·exfalso
     rw [below_of nmd hj] at hy
     rcases b.tg j p hj y hy with z | ⟨k,hk,lw⟩
     ·exact h (List.mem_append_left _ z)
     ·have kl:=(List.getElem?_eq_some_iff.mp hk).1
      have e2:(rc.map (·.1))[k]?=some y:=by rw [b.nm]; exact hk
      rw [List.getElem?_map] at e2
      obtain ⟨q,hq,e3⟩:=Option.map_eq_some_iff.mp e2
      have:=ih k q (by have:=rank_lt lw (by omega) (by omega); omega) hq
      exact h (List.mem_append_right _ (by rw [<- e3]; exact this))
  obtain ⟨j,hj⟩:=List.getElem?_of_mem hp
  exact key (rank t j+1) j p (Nat.lt_succ_self _) hj
section
variable {P:Program}{w:World}{K:PySem.W.Frag}{mg:Str->Option Value}{base:Heap}
theorem ndTh:(["thing","there"]:List Str).Nodup:=by decide +kernel
abbrev Nrdy:List Str:=["book","order","there","name"]
theorem scReady:FnScope Nrdy ["book","order"] (defScope sReady):=⟨rfl,rfl,rfl,by decide +kernel,rfl,by decide +kernel,by decide +kernel⟩
theorem ok_ready {f:Addr}{fd:FuncData}(F:Fun K "first_ready" "first_ready" sReady f fd)(T:Txt mg)(cN:Cal P w K mg base CX0 2 "recipe_names" ["book"] spRnm)(cT:Cal P w K mg base CX0 2 "things_of" ["book","name"] spThof):FnOk P w K mg base CX0 3 f fd ["book","order"] spReady:=by
 refine F.ok scReady (fun vs H Q E h => ?_) (fun cdv A outer s H vs Q E hr h => ?_)
 ·obtain ⟨_,_,_,_,_,_,rfl,_⟩:=h
  rfl
 ·obtain ⟨b,o,ws,xs,us,rc,rfl,bw,rcs,nmd,w20,ho,x12,nws,k1,k2⟩:=h
  refine ⟨_,(pss_cons (ps_set (i:=2) scReady.nd rfl (Or.inr rfl) (pe_op op_cat (pe_callTy call_list_of rfl T.list' bt_list (pa_cons (pit 0 0) pa_nil)) (pv 1)))
   (pss_cons (ps_for PassesOwn.never rfl (pi_list (pe_cal cN hr rfl pass0 (pa_cons (pv 0) pa_nil))) (pg_name (i:=3) scReady.nd rfl (Or.inl rfl))
    (pss_one (ps_if (PW.pt (pw_and (pt_cmpR op_notIn_seq (pv 3) (pv 1) rfl) (pw_and1 (pt_val (pe_callB (call_allB rfl) rfl T.all' boot_all (pa_cons
      (pe_compC (N':=["thing","there"]) (fun σ=>[none,some 2].map fun t=>t.bind fun j=>(σ[j]?).join) rfl rfl (by decide +kernel) (by decide +kernel)
       (hk_of (sc:=defScope sReady) rfl (by decide +kernel)) (fun _ _ _=>blkN_by (sc:=defScope sReady) (N:=Nrdy) [none,some 2] rfl rfl rfl rfl (by decide +kernel))
       (pi_list (pe_cal cT hr rfl pass0 (pa_cons (pv 0) (pa_cons (pv 3) pa_nil)))) (fun _ _ _ _ _ _=>pg_name (i:=0) ndTh rfl (Or.inl rfl))
       (fun _ _ _ _ _ _=>pifs_nil)
       (fun _ _ _ _ _ _=>pe_cmpR (op_inK (K:=K) rfl) (pv 0) (pv 1) rfl)) pa_nil))))))
     (pss_one (ps_ret (pv 3)))
     pss_nil)))
   (pss_one (ps_ret pe_non)))),?_⟩
  obtain ⟨w',y,g,hb,hw,hg,hu⟩:=id bw
  have rl:=rcs.ln
  refine ⟨b,_,_,rfl,SqT.of hb,rfl,w',_,rfl,.inr (SqT.of hw),fun l1 n1 => ?_⟩
  have s1:=Same.upd (o:=.lst (ws.map V.str)) n1
  refine ⟨_,rfl,l1,o,_,_,rfl,rfl,upd_same,s1 _ _ ho,by rw [List.length_map,List.length_map]; exact sz1000 (by omega),fun Th nT => ?_⟩
  have sT:=Same.upd (o:=.lst (ws.map V.str ++ xs.map V.str)) nT
  have hT:upd (upd H l1 (.lst (ws.map V.str))) Th (.lst (ws.map V.str ++ xs.map V.str)) Th=some (.lst ((ws ++ xs).map V.str)):=by rw [upd_same,List.map_append]
  have s2:=s1.trans sT
  generalize upd (upd H l1 (.lst (ws.map V.str))) Th (.lst (ws.map V.str ++ xs.map V.str))=H2 at s2 hT ⊢
  refine ⟨_,rfl,b,us,rc,rfl,bw.bk.keep s2.tk,rcs.ln,fun L H3 s3 nL hL => ?_⟩
  have s23:=s2.trans s3
  refine ⟨L,rfl,⟨_,SqL.of hL⟩,?_⟩
  refine for_list (xs:=(rc.map (·.1)).map V.str) (fun i σ H'=>∃ v3:Option V,σ=[some (.ref b),some (.ref o),some (.ref Th),v3]/\Same H3 H'/\∀ i' < i,∀ p,rc[i']?=some p->NRp rc ws xs p) ⟨_,rfl,Same.refl _,fun i' h=>by omega⟩ (fun i σ H' _ ⟨_,_,sm,_⟩=>SqL.of (sm _ _ hL)) ?_ ?_
  ·rintro i v σ H4 hv ⟨v3,rfl,s4,nr⟩
   rw [List.map_map,List.getElem?_map] at hv
   obtain ⟨p,hp,rfl⟩:=Option.map_eq_some_iff.mp hv
   have s24:=s23.trans s4
   have e1:=below_of nmd hp
   have nx:NRp rc ws xs p->∀ i' < i+1,∀ p,rc[i']?=some p->NRp rc ws xs p:=fun np i' hi' p' hp'=>by
    rcases Nat.lt_succ_iff_lt_or_eq.mp hi' with z | z
    ·exact nr i' z p' hp'
    ·rw [z,hp] at hp'
     cases hp'
     exact np
   refine ⟨_,rfl,_,rfl,o,_,rfl,.inl (SqL.of (s24 _ _ ho)),rfl,flat_strs _,_,rfl,ite2 (fun h1 => ?_) (fun h1=>iteF ⟨_,rfl,s4,nx (.inl (List.mem_append_right _ (in_strs.mp (by simpa using h1))))⟩)⟩
   have pn:p.1 ∉ xs:=fun z=>by
    have h1':(!inV (V.str p.1) (xs.map V.str))=true:=h1
    rw [in_strs.mpr z] at h1'
    cases h1'
   refine ⟨_,rfl,_,rfl,b,us,rc,i,p,rfl,bw.bk.keep s24.tk,nmd,rcs,hp,fun M H5 s5 nM hM => ?_⟩
   refine ⟨M,rfl,⟨_,SqL.of hM⟩,fun D nD => ?_⟩
   have pr:=rcs.rw p (List.mem_of_getElem? hp)
   have tl:=thgs_len pr.2
   have hT5:=(s3.trans (s4.trans s5)) _ _ hT
   refine comp_rel (Ys.list (SqL.of hM)) (fun _ x y _=>y = .bl (inV x ((ws ++ xs).map V.str))) (fun _ _ _ _ _ h _=>h) nD (by rw [List.length_map]; omega) (fun i' v H' R hv' sm hR => ?_) (fun ys H6 s6 hD6 yl hy => ?_)
   ·rw [List.getElem?_map] at hv'
    obtain ⟨t,ht,rfl⟩:=Option.map_eq_some_iff.mp hv'
    exact ⟨(Keep.refl _).set rfl,_,rfl,_,rfl,Th,_,rfl,.inl (SqL.of (sm _ _ hT5)),rfl,flat_strs _,hR _ _ (Same.refl _) rfl⟩
   ·have ey:ys=((thgs p.2).map fun t=>inV (.str t) ((ws ++ xs).map V.str)).map V.bl:=by
     refine list_eq (by rw [List.length_map,List.length_map,yl,List.length_map]) fun i x y hx hy' => ?_
     rw [List.map_map,List.getElem?_map] at hx
     cases e:(thgs p.2)[i]? with
     | none=>rw [e] at hx; cases hx
     | some t =>
      rw [e] at hx
      cases hx
      exact hy i (.str t) y (by rw [List.getElem?_map,e]; rfl) hy'
    rw [ey] at hD6
    have s36:=s4.trans (s5.trans s6)
    refine ⟨D,_,rfl,SqL.of hD6,_,rfl,ite2 (fun h2 => ?_) (fun h2 => ?_)⟩
    ·have allt : ∀ t ∈ belowF rc p.1,t ∈ ws ++ xs:=fun t ht=>by
      rw [e1] at ht
      have:=List.all_eq_true.mp h2 (inV (.str t) ((ws ++ xs).map V.str)) (List.mem_map_of_mem ht)
      exact in_strs.mp this
     exact ⟨_,rfl,k1 p H6 (s23.trans s36) (List.mem_of_getElem? hp) pn allt ⟨i,p,hp,rfl,(fun z=>z.elim (fun z=>(List.mem_append.mp z).elim (nws p (List.mem_of_getElem? hp)) pn) fun ⟨t,ht,q⟩=>q (allt t ht)),nr⟩⟩
    ·refine ⟨_,rfl,s36,nx (.inr ?_)⟩
     rw [e1]
     refine Classical.byContradiction fun z=>h2 (List.all_eq_true.mpr fun x hx => ?_)
     obtain ⟨t,ht,rfl⟩:=List.mem_map.mp hx
     exact in_strs.mpr (Classical.byContradiction fun z'=>z ⟨t,ht,z'⟩)
  ·rintro σ H4 ⟨v3,rfl,s4,nr⟩
   refine k2 H4 (s23.trans s4) fun p hp => ?_
   obtain ⟨j,hj⟩:=List.getElem?_of_mem hp
   exact nr j (by rw [List.length_map,List.length_map]; exact (List.getElem?_eq_some_iff.mp hj).1) p hj
theorem scOof:FnScope ["book","order","ready"] ["book"] (defScope sOof):=⟨rfl,rfl,rfl,by decide +kernel,rfl,by decide +kernel,by decide +kernel⟩
theorem ok_oof {f:Addr}{fd:FuncData}(F:Fun K "order_of" "order_of" sOof f fd)(cR:Cal P w K mg base CX0 3 "first_ready" ["book","order"] spReady):FnOk P w K mg base CX0 4 f fd ["book"] spOof:=by
 refine F.ok scOof (fun vs H Q E h => ?_) (fun cdv A outer s H vs Q E hr h => ?_)
 ·obtain ⟨_,_,_,_,rfl,_⟩:=h
  rfl
 ·obtain ⟨b,ws,us,rc,rfl,bw,rcs,nmd,w20,nws,k⟩:=h
  refine ⟨_,(pss_cons (ps_set (i:=1) scOof.nd rfl (Or.inl rfl) (pe_lst pa_nil))
   (pss_cons (ps_set (i:=2) scOof.nd rfl (Or.inl rfl) (pe_cal cR hr rfl pass0 (pa_cons (pv 0) (pa_cons (pv 1) pa_nil))))
   (pss_cons (ps_while PassesOwn.never (pt_cmpR op_notN (pv 2) pe_non (nomark _))
    (pss_cons (ps_expr (pe_bm PySem.F.plainAttrs_list PySem.F.slot_list_append PySem.F.type_list_append mt_append (pv 1) (pa_cons (pv 2) pa_nil)))
    (pss_one (ps_set (i:=2) scOof.nd rfl (Or.inl rfl) (pe_cal cR hr rfl pass0 (pa_cons (pv 0) (pa_cons (pv 1) pa_nil)))))))
   (pss_one (ps_ret (pv 1)))))),?_⟩
  have rl:=rcs.ln
  refine ⟨(by show 0<=sizeLine; decide),fun O nO => ?_⟩
  have sO:=Same.upd (o:=.lst []) nO
  have hO:upd H O (.lst []) O=some (.lst []):=upd_same
  generalize upd H O (.lst [])=H1 at sO hO ⊢
  have len : ∀ {xs:List Str},xs.Nodup->(∀ x ∈ xs,x ∈ rc.map (·.1))->xs.length<=rc.length:=fun nd sub=>by
   have:=nd_sub nd sub
   rw [List.length_map] at this
   exact this
  refine ⟨_,rfl,_,rfl,b,O,ws,[],us,rc,rfl,bw.keep sO.tk,rcs,nmd,w20,hO,Nat.zero_le _,nws,fun p H2 s2 hp pn all fr => ?_,fun H2 s2 nr => ?_⟩
  all_goals
   refine ⟨fun m σ H'=>∃ xs v,σ=[some (.ref b),some (.ref O),some v]/\m=13 - xs.length/\Same H H'/\H' O=some (.lst (xs.map V.str))/\Ord rc ws xs/\xs.Nodup/\(∀ x ∈ xs,x ∈ rc.map (·.1))/\(∀ (i:Nat) x,xs[i]?=some x->FirstR rc ws (xs.take i) x)/\((∃ p ∈ rc,v = .str p.1/\p.1 ∉ xs/\(∀ t ∈ belowF rc p.1,t ∈ ws ++ xs)/\FirstR rc ws xs p.1)\/(v = .non/\∀ p ∈ rc,NRp rc ws xs p)),?_,?_⟩
  ·exact ⟨_,[],_,rfl,rfl,sO.trans s2,s2 _ _ hO,(fun i x h=>by simp at h),List.nodup_nil,(fun x h=>nomatch h),(fun i x h=>by simp at h),.inl ⟨p,hp,rfl,pn,all,fr⟩⟩
  rotate_left
  ·exact ⟨_,[],_,rfl,rfl,sO.trans s2,s2 _ _ hO,(fun i x h=>by simp at h),List.nodup_nil,(fun x h=>nomatch h),(fun i x h=>by simp at h),.inr ⟨rfl,nr⟩⟩
  all_goals
   rintro m σ H3 ⟨xs,v,rfl,rfl,s3,hO3,ord,xnd,xsub,xfst,alt⟩
   rcases alt with ⟨p,hp,rfl,pn,all,fr⟩ | ⟨rfl,nr⟩
   ·refine ⟨_,rfl,rfl,_,rfl,iteT ?_⟩
    have xl:=len xnd xsub
    have nd2:=nodup_snoc xnd pn
    have sub2 : ∀ x ∈ xs ++ [p.1],x ∈ rc.map (·.1):=fun x hx=>by
     rcases List.mem_append.mp hx with hx | hx
     ·exact xsub x hx
     ·rw [List.mem_singleton.mp hx]
      exact List.mem_map_of_mem hp
    have xl2:=len nd2 sub2
    rw [List.length_append] at xl2
    replace xl2:xs.length+1<=rc.length:=xl2
    refine ⟨_,fun _ _ h=>h,?_⟩
    refine ⟨_,rfl,.inl ⟨rfl,_,SqL.of hO3⟩,_,rfl,O,_,_,rfl,rfl,hO3,small1000 (by rw [List.length_map]; omega),?_⟩
    have el:xs.map V.str ++ [V.str p.1]=(xs ++ [p.1]).map V.str:=by simp
    rw [el]
    have s4:Same H (upd H3 O (.lst ((xs ++ [p.1]).map V.str))):=sm_own' s3 nO
    have hO4:upd H3 O (.lst ((xs ++ [p.1]).map V.str)) O=some (.lst ((xs ++ [p.1]).map V.str)):=upd_same
    generalize upd H3 O (.lst ((xs ++ [p.1]).map V.str))=H4 at s4 hO4 ⊢
    have lt:13 - (xs ++ [p.1]).length < 13 - xs.length:=by rw [List.length_append]; show 13 - (xs.length+1) < _; omega
    refine ⟨_,rfl,_,rfl,b,O,ws,xs ++ [p.1],us,rc,rfl,bw.keep s4.tk,rcs,nmd,w20,hO4,by rw [List.length_append]; show xs.length+1<=12; omega,nws,fun p' H5 s5 hp' pn' all' fr' => ?_,fun H5 s5 nr' => ?_⟩
    ·exact ⟨_,lt,xs ++ [p.1],_,rfl,rfl,s4.trans s5,s5 _ _ hO4,ord.snoc all,nd2,sub2,first_snoc xfst fr,.inl ⟨p',hp',rfl,pn',all',fr'⟩⟩
    ·exact ⟨_,lt,xs ++ [p.1],_,rfl,rfl,s4.trans s5,s5 _ _ hO4,ord.snoc all,nd2,sub2,first_snoc xfst fr,.inr ⟨rfl,nr'⟩⟩
   ·refine ⟨_,rfl,rfl,_,rfl,iteF ?_⟩
    have xl:=len xnd xsub
    exact ⟨_,rfl,k xs O H3 s3 nO hO3 (by omega) ord ⟨xnd,xsub,.inr nr,xfst⟩⟩
end
end K17
namespace L2
open PySem PySem.Spec PyProof.Rows PySem.W
end L2
namespace L2
open PySem PySem.Spec PyProof.Rows
section
variable {X:Cx}{pos:Pos}
def gTupM (K:PySem.W.Frag)(n:Nat)(t:TGs):TG:=fun v σ H Q=>∃ a xs,v = .ref a/\SqL K H a xs/\xs.length=n/\t xs σ H Q
end
end L2
namespace L2
open PySem PySem.Spec PyProof.Rows
section
variable {X:Cx}
theorem call_isiSL:CallR X (.builtin "isinstance") (fun xs H Q=>∃ x,xs=[.str x,.ty "list"]/\Q (.bl false) H):=by
 intro pins s σ H xs us Q I r h
 obtain ⟨x,rfl,q⟩:=h
 obtain ⟨u,w',rfl,rx,ry⟩:=vals2 r
 cases ry
 have f2:EP X pins σ Q (.bool false) { s with toks:=s.toks+1 }:=⟨.bl false,H,I.tok _,rfl,q⟩
 obtain ⟨t,rfl⟩:=rx
 exact IsiPair.str_list f2
end
end L2
namespace L2
open PySem PySem.Spec PyProof.Rows PySem.W PySem.Builtin PySem.Builtin.ObjectAttr
section
variable {X:Cx}{o value:Expr}{x:Str}{pos pos':Pos}{ta tv:TE}{C P f:Addr}
def sExM (K:Frag)(C P f:Addr)(ta tv:TE)(x:Str):TS:=fun D σ H=>tv σ H fun y H1=>ta σ H1 fun z H2=>∃ a dx fs,z = .ref a/\H2 a=some (exN a C (some dx))/\H2 dx=some (xdE dx fs)/\fs.length<=90/\ExF K C P f x /\
 D.nx σ (upd H2 dx (xdE dx ((x,y) :: fs)))
theorem ps_exM (ha:PE X o ta)(hv:PE X value tv)(hs:swapsWith value (some (.Attribute o x pos')) pos.line X.env=pure false):PS X (.Assign [.Attribute o x pos'] value pos) (sExM X.K C P f ta tv x):=by
 intro pins s σ H D I h
 refine plainObj_wpAny_Assign_Attribute (thn (hv pins s σ H _ I h) fun u s1 ⟨y,H1,I1,ry,q⟩=>thn (ha pins s1 σ H1 _ I1 q) fun ov s2 ⟨z,H2,I2,rx,a,dx,fs,ez,ea,ed,hl,F,q2⟩ => ?_) hs
 subst ez
 obtain rfl:ov=Value.ref a:=rx
 obtain ⟨⟨ob,t',⟨o1,o2,o3⟩,o4⟩,_⟩:=I2.hok _ _ ea
 obtain ⟨⟨mA,n1,r1,w1⟩,_⟩:=I2.hok _ _ ed
 obtain ⟨hh,g,d,tk,os⟩:=s2
 refine exi_set_more I2.kIn (clsI_of I2.kIn F.i.xi) F.i.k F.sa F.nn ⟨o1,o2⟩ o3 n1 w1 (by rw [List.length_map]; omega) fun h' tk' hn' ks => ?_
 have hx : ∃ u,h'.get? dx=some u:=by
  obtain ⟨o,es,ep,e,q⟩:=id hn'
  exact ⟨o,e⟩
 refine ⟨σ,_,I2.write (x:=dx) (e:=dx) (t':=tk') (by rw [ed]; exact True.intro) (.inl rfl) ks hx ?_,q2⟩
 refine xdE_ok hn' (fun g => ?_) (fun g hg => ?_)
 ·by_cases z:g=x
  ·subst z
   simp only [List.lookup,beq_self_eq_true,if_true]
   exact ry
  ·have:((x,y) :: fs:List (Str × V)).lookup g=fs.lookup g:=by
    simp only [List.lookup]
    rw [beq_eq_false_iff_ne.mpr z]
   rw [this,if_neg z]
   exact r1 g
 ·by_cases z:g=x
  ·rw [z]; simp
  ·rw [if_neg z] at hg
   exact List.mem_cons_of_mem _ (w1 g hg)
end
end L2
namespace K17
open PySem PySem.Spec PyProof.Rows L2 GM TM
open BQ TR
abbrev sI5:Stmt:=inClass (top 10) 0
abbrev sOwn:Stmt:=top 1
structure ErM (K:PySem.W.Frag)(mg:Str->Option Value)(cP c0 c1 c2 c3 c4 c5 c6 c7 c8 f5:Addr):Prop where
 e5:ExF K c5 cP f5 "recipe"
 q51:ExF K c5 cP f5 "one"
 q52:ExF K c5 cP f5 "other"
 q53:ExF K c5 cP f5 "ways"
 ct:CtK K cP
 bi:BaseI K cP
 s5:PySem.W.subIn K (.ref c5) (.ref cP)=some true
 p5:PySem.W.kitOne K (.ref c5) (.ref cP)=some true
 v5:PySem.W.kitOne K (.ref c5) (.type "ValueError")=some true
 mP:mg "PhialError" = some (.ref cP)
 m0:mg "Twice" = some (.ref c0)
 m1:mg "NoName" = some (.ref c1)
 m2:mg "NoPair" = some (.ref c2)
 m3:mg "Ring" = some (.ref c3)
 m4:mg "Over" = some (.ref c4)
 m5:mg "Meet" = some (.ref c5)
 m6:mg "NoText" = some (.ref c6)
 m7:mg "NoAmount" = some (.ref c7)
 m8:mg "TooLarge" = some (.ref c8)
 i50:PySem.W.kitOne K (.ref c5) (.ref c0)=some false
 i51:PySem.W.kitOne K (.ref c5) (.ref c1)=some false
 i52:PySem.W.kitOne K (.ref c5) (.ref c2)=some false
 i53:PySem.W.kitOne K (.ref c5) (.ref c3)=some false
 i54:PySem.W.kitOne K (.ref c5) (.ref c4)=some false
 i55:PySem.W.kitOne K (.ref c5) (.ref c5)=some true
 i56:PySem.W.kitOne K (.ref c5) (.ref c6)=some false
 i57:PySem.W.kitOne K (.ref c5) (.ref c7)=some false
 i58:PySem.W.kitOne K (.ref c5) (.ref c8)=some false
def spKind (i:Nat)(c:Addr):Sp:=fun vs H Q _=>∃ a dd,vs=[.ref a]/\H a=some (excD a c dd)/\∀ H',Same H H'->Q (.int (i:Nat)) H'
def spOwn0:Sp:=fun vs H Q _=>∃ x:Str,vs=[.str x]/\Q (.str x) H
def spOwn1:Sp:=fun vs H Q _=>∃ (l:Addr) (xs:List Str),vs=[.ref l]/\H l=some (.lst (xs.map V.str))/\xs.length<=1000/\∀ D H',Same H H'->H D=none->H' D=some (.lst (xs.map V.str))->Q (.ref D) H'
def TwoL (H:Hp)(D:Addr)(xs ys:List Str):Prop:=∃ d1 d2,H D=some (.tup [.ref d1,.ref d2])/\H d1=some (.lst (xs.map V.str))/\H d2=some (.lst (ys.map V.str))
theorem TwoL.keep {H H':Hp}{D:Addr}{xs ys:List Str}(s:Same H H')(h:TwoL H D xs ys):TwoL H' D xs ys:=by
 obtain ⟨d1,d2,a,b,c⟩:=h
 exact ⟨d1,d2,s _ _ a,s _ _ b,s _ _ c⟩
def spOwn2:Sp:=fun vs H Q _=>∃ (l:Addr) (xs ys:List Str),vs=[.ref l]/\TwoL H l xs ys/\xs.length<=1000/\ys.length<=1000/\∀ D H',Same H H'->TwoL H' D xs ys->Q (.ref D) H'
def meetF (dx:Addr)(x a b:Str)(D:Addr):HO:=xdE dx [("ways",.ref D),("other",.str b),("one",.str a),("recipe",.str x)]
def spI5 (c:Addr):Sp:=fun vs H Q _=>∃ (e l:Addr) (x a b:Str) (xs ys:List Str),vs=[.ref e,.str x,.str a,.str b,.ref l]/\x.length<=100/\a.length<=100/\b.length<=100/\TwoL H l xs ys/\xs.length<=1000/\ys.length<=1000/\H e=some (exN e c none)/\∀ dx D H',dx ≠ e->(∀ p o,p ≠ e->H p=some o->H' p=some o)->H' e=some (exN e c (some dx))->H' dx=some (meetF dx x a b D)->TwoL H' D xs ys->Q .non H'
def Bad5 (c:Addr)(x a b:Str)(xs ys:List Str)(H:Hp)(E:XK):Prop:=∀ dx D H',Same H H'->H' dx=some (meetF dx x a b D)->TwoL H' D xs ys->E (.ref c) (some dx) H'
theorem Bad5.mono {c:Addr}{x a b:Str}{xs ys:List Str}{H H1:Hp}{E:XK}(h:Bad5 c x a b xs ys H E)(s:Same H H1):Bad5 c x a b xs ys H1 E:=fun dx D H' s' hd=>h dx D H' (s.trans s') hd
theorem raise5 {c l:Addr}{x a b:Str}{xs ys:List Str}{H:Hp}{E:XK}(lx:x.length<=100)(la:a.length<=100)(lb:b.length<=100)(hl:TwoL H l xs ys)(xl:xs.length<=1000)(yl:ys.length<=1000)(h:Bad5 c x a b xs ys H E):[V.str x,.str a,.str b,.ref l].length<=sizeLine/\∀ e,H e=none->spI5 c [.ref e,.str x,.str a,.str b,.ref l] (upd H e (exN e c none)) (fun v H2=>v = .non/\∃ dd,H2 e=some (exN e c dd)/\E (.ref c) dd (rem H2 e)) E0:=by
 refine ⟨(by show 4<=sizeLine; decide),fun e he=>⟨e,l,x,a,b,xs,ys,rfl,lx,la,lb,hl.keep (Same.upd he),xl,yl,upd_same,fun dx D H' ne sm hE hd hD=>⟨rfl,some dx,hE,?_⟩⟩⟩
 obtain ⟨d1,d2,h1,h2,h3⟩:=hD
 have De:D ≠ e:=fun z=>by rw [z,hE] at h1; cases h1
 have d1e:d1 ≠ e:=fun z=>by rw [z,hE] at h2; cases h2
 have d2e:d2 ≠ e:=fun z=>by rw [z,hE] at h3; cases h3
 refine h dx D _ (fun p o hp => ?_) (by rw [rem_ne ne]; exact hd) ⟨d1,d2,by rw [rem_ne De]; exact h1,by rw [rem_ne d1e]; exact h2,by rw [rem_ne d2e]; exact h3⟩
 have n1:p ≠ e:=fun z=>by rw [z,he] at hp; cases hp
 rw [rem_ne n1]
 exact sm p o n1 (by rw [upd_ne n1]; exact hp)
theorem lE:Str.empty.length=0:=rfl
theorem pss_no {X:Cx}{ss:List Stmt}:PSs X ss (fun _ _ _=>False):=fun _ _ _ _ _ _ h=>h.elim
section
variable {P:Program}{w:World}{K:PySem.W.Frag}{mg:Str->Option Value}{base:Heap}{cP c0 c1 c2 c3 c4 c5 c6 c7 c8 f5:Addr}
theorem ndPa:(["part"]:List Str).Nodup:=by decide +kernel
theorem scOwn:FnScope ["thing"] ["thing"] (defScope sOwn):=⟨rfl,rfl,rfl,by decide +kernel,rfl,by decide +kernel,by decide +kernel⟩
theorem ok_own0 {f:Addr}{fd:FuncData}(F:Fun K "own_copy" "own_copy" sOwn f fd)(T:Txt mg):FnOk P w K mg base CX0 1 f fd ["thing"] spOwn0:=by
 refine F.ok scOwn (fun vs H Q E h => ?_) (fun cdv A outer s H vs Q E hr h => ?_)
 ·obtain ⟨_,rfl,_⟩:=h
  rfl
 ·obtain ⟨x,rfl,k⟩:=h
  refine ⟨_,pss_cons (ps_if (pt_val (pe_callB call_isiSL rfl T.isi boot_isinstance (pa_cons (pv 0) (pa_cons (pe_bltn (v:=.ty "list") rfl T.list' bt_list rfl) pa_nil)))) pss_no pss_nil)
   (pss_cons (ps_if (pt_val (pe_callB call_isi rfl T.isi boot_isinstance (pa_cons (pv 0) (pa_cons (pe_bltn (v:=.ty "tuple") rfl T.tup' bt_tuple rfl) pa_nil)))) pss_no pss_nil)
   (pss_one (ps_ret (pv 0)))),?_⟩
  exact ⟨_,rfl,_,rfl,_,rfl,iteF ⟨_,rfl,_,"tuple",false,rfl,.str_tuple,_,rfl,iteF ⟨_,rfl,k⟩⟩⟩
theorem ok_own1 {f:Addr}{fd:FuncData}(F:Fun K "own_copy" "own_copy" sOwn f fd)(T:Txt mg)(cO:Cal P w K mg base CX0 1 "own_copy" ["thing"] spOwn0):FnOk P w K mg base CX0 2 f fd ["thing"] spOwn1:=by
 refine F.ok scOwn (fun vs H Q E h => ?_) (fun cdv A outer s H vs Q E hr h => ?_)
 ·obtain ⟨_,_,rfl,_⟩:=h
  rfl
 ·obtain ⟨l,xs,rfl,hl,xl,k⟩:=h
  refine ⟨_,pss_cons (ps_if (pt_val (pe_callB call_isi rfl T.isi boot_isinstance (pa_cons (pv 0) (pa_cons (pe_bltn (v:=.ty "list") rfl T.list' bt_list rfl) pa_nil))))
    (pss_one (ps_ret (pe_comp (N':=["part"]) (cl:=[]) (g:=L2.gName 0) (fun _=>[none]) rfl rfl (by decide +kernel) (by decide +kernel) (clOk_plain (by decide +kernel)) (fun _ _=>blkN_none) (pi_list (pv 0)) (fun _ _ _ _ _=>pg_name (i:=0) ndPa rfl (Or.inl rfl) (Or.inr rfl)) (fun _ _ _ _ _=>pifs_nil) (fun _ _ _ _ _=>pe_cal cO hr rfl pass0 (pa_cons (pv 0) pa_nil))))) pss_nil)
   pss_no,?_⟩
  refine ⟨_,rfl,_,"list",true,rfl,.lst_list (SqL.of hl),_,rfl,iteT ⟨_,rfl,l,rfl,⟨_,SqL.of hl⟩,fun D nD => ?_⟩⟩
  refine comp_rel (Ys.list (SqL.of hl)) (fun _ x y _=>y=x) (fun _ _ _ _ _ h _=>h) nD (by rw [List.length_map]; exact xl) (fun i x H' R hx sm hR => ?_) (fun ys H1 s1 hD yl hy => ?_)
  ·rw [List.getElem?_map] at hx
   obtain ⟨y,hy,rfl⟩:=Option.map_eq_some_iff.mp hx
   exact ⟨(Keep.refl _).set rfl,_,rfl,y,rfl,hR _ _ (Same.refl _) rfl⟩
  ·have ey:ys=xs.map V.str:=list_eq yl fun i x y hx hy'=>hy i x y hx hy'
   subst ey
   exact k D H1 s1 nD hD
theorem ok_own2 {f:Addr}{fd:FuncData}(F:Fun K "own_copy" "own_copy" sOwn f fd)(T:Txt mg)(cO:Cal P w K mg base CX0 2 "own_copy" ["thing"] spOwn1):FnOk P w K mg base CX0 3 f fd ["thing"] spOwn2:=by
 refine F.ok scOwn (fun vs H Q E h => ?_) (fun cdv A outer s H vs Q E hr h => ?_)
 ·obtain ⟨_,_,_,rfl,_⟩:=h
  rfl
 ·obtain ⟨l,xs,ys,rfl,⟨d1,d2,h0,h1,h2⟩,xl,yl,k⟩:=h
  refine ⟨_,pss_cons (ps_if (pt_val (pe_callB call_isi rfl T.isi boot_isinstance (pa_cons (pv 0) (pa_cons (pe_bltn (v:=.ty "list") rfl T.list' bt_list rfl) pa_nil))))
    pss_no pss_nil)
   (pss_cons (ps_if (pt_val (pe_callB call_isi rfl T.isi boot_isinstance (pa_cons (pv 0) (pa_cons (pe_bltn (v:=.ty "tuple") rfl T.tup' bt_tuple rfl) pa_nil))))
    (pss_one (ps_ret (pe_callTy call_tuple_of rfl T.tup' bt_tuple (pa_cons (pe_comp (N':=["part"]) (cl:=[]) (g:=L2.gName 0) (fun _=>[none]) rfl rfl (by decide +kernel) (by decide +kernel) (clOk_plain (by decide +kernel)) (fun _ _=>blkN_none) (pi_tup (pv 0)) (fun _ _ _ _ _=>pg_name (i:=0) ndPa rfl (Or.inl rfl) (Or.inr rfl)) (fun _ _ _ _ _=>pifs_nil) (fun _ _ _ _ _=>pe_cal cO hr rfl pass0 (pa_cons (pv 0) pa_nil))) pa_nil)))) pss_nil)
   pss_no),?_⟩
  refine ⟨_,rfl,_,"list",false,rfl,.tup_list (SqT.of h0),_,rfl,iteF ⟨_,rfl,_,"tuple",true,rfl,.tup_tuple (SqT.of h0),_,rfl,iteT ⟨_,rfl,l,rfl,⟨_,SqT.of h0⟩,fun D nD => ?_⟩⟩⟩
  refine comp_relL (Ys.tup (SqT.of h0)) (fun i _ y H'=>∃ d,y = .ref d/\d ≠ D/\H' d=some (.lst ((if i=0 then xs else ys).map V.str))) (fun i x y H H' h s => ?_) nD (by show 2<=1000; decide) (fun i x H' R hx sm hD hR => ?_) (fun zs H1 s1 hD zl hz => ?_)
  ·obtain ⟨d,e,n,hd⟩:=h
   exact ⟨d,e,n,s _ _ n hd⟩
  ·obtain ⟨os,hD⟩:=hD
   match i,hx with
   | 0,hx =>
    cases hx
    refine ⟨(Keep.refl _).set rfl,_,rfl,d1,xs,rfl,sm _ _ h1,xl,fun d H4 s4 nd hd=>hR _ _ s4 ⟨d,rfl,(fun e=>by rw [e,hD] at nd; cases nd),hd⟩⟩
   | 1,hx =>
    cases hx
    refine ⟨(Keep.refl _).set rfl,_,rfl,d2,ys,rfl,sm _ _ h2,yl,fun d H4 s4 nd hd=>hR _ _ s4 ⟨d,rfl,(fun e=>by rw [e,hD] at nd; cases nd),hd⟩⟩
   | n+2,hx=>simp at hx
  ·obtain ⟨z0,e0⟩ : ∃ z,zs[0]?=some z:=⟨_,List.getElem?_eq_getElem (by rw [zl]; show 0 < 2; decide)⟩
   obtain ⟨z1,e1⟩ : ∃ z,zs[1]?=some z:=⟨_,List.getElem?_eq_getElem (by rw [zl]; show 1 < 2; decide)⟩
   obtain ⟨a,rfl,_,ha⟩:=hz 0 _ z0 rfl e0
   obtain ⟨b,rfl,_,hb⟩:=hz 1 _ z1 rfl e1
   have ez:zs=[.ref a,.ref b]:=by
    match zs,zl with
    | [p,q],_ =>
     cases (show some p=some (V.ref a) from e0)
     cases (show some q=some (V.ref b) from e1)
     rfl
   subst ez
   refine ⟨D,_,rfl,.inl ⟨SqL.of hD,fun t nt => ?_⟩⟩
   have st:=Same.upd (o:=.tup [.ref a,.ref b]) nt
   exact k t _ (s1.trans st) ⟨a,b,upd_same,st _ _ ha,st _ _ hb⟩
theorem scI5:FnScope ["self","recipe","one","other","ways"] ["self","recipe","one","other","ways"] (defScope sI5):=⟨rfl,rfl,rfl,by decide +kernel,rfl,by decide +kernel,by decide +kernel⟩
theorem ok_i5 {f:Addr}{fd:FuncData}(F:Fun K "__init__" "Meet.__init__" sI5 f fd)(R:ErM K mg cP c0 c1 c2 c3 c4 c5 c6 c7 c8 f5)(cO:Cal P w K mg base CX0 3 "own_copy" ["thing"] spOwn2):FnOk P w K mg base CX0 4 f fd ["self","recipe","one","other","ways"] (spI5 c5):=by
 refine F.ok scI5 (fun vs H Q E h => ?_) (fun cdv A outer s H vs Q E hr h => ?_)
 ·obtain ⟨_,_,_,_,_,_,_,rfl,_⟩:=h
  rfl
 ·obtain ⟨e,l,x,a,b,xs,ys,rfl,lx,la,lb,hl,xl,yl,he,k⟩:=h
  refine ⟨_,pss_cons (ps_expr (pe_binit rfl R.mP R.bi (pa_cons (pv 0) (pa_cons (pe_join (pj_cons pe_str (pj_cons (pe_fmt (pv 1)) (pj_cons pe_str (pj_cons (pe_fmt (pv 2)) (pj_cons pe_str (pj_cons (pe_fmt (pv 3)) (pj_cons pe_str pj_nil)))))))) pa_nil))))
   (pss_cons (ps_exN (C:=c5) (P:=cP) (f:=f5) rfl (pv 0) (pv 1) rfl)
   (pss_cons (ps_exM (C:=c5) (P:=cP) (f:=f5) (pv 0) (pv 2) rfl)
   (pss_cons (ps_exM (C:=c5) (P:=cP) (f:=f5) (pv 0) (pv 3) rfl)
   (pss_one (ps_exM (C:=c5) (P:=cP) (f:=f5) (pv 0) (pe_cal cO hr rfl pass0 (pa_cons (pv 4) pa_nil)) rfl))))),?_⟩
  have l1:("in recipe " : Str).length=10:=by decide +kernel
  have l2:(" the wares " : Str).length=11:=by decide +kernel
  have l3:(" and " : Str).length=5:=by decide +kernel
  have l4:(" meet" : Str).length=5:=by decide +kernel
  refine ⟨_,rfl,_,rfl,?_,_,rfl,_,⟨sz1000 (by omega),rfl⟩,_,rfl,?_,_,rfl,?_,_,rfl,_,⟨sz1000 (by omega),rfl⟩,_,rfl,?_,_,rfl,?_,_,rfl,_,⟨sz1000 (by omega),rfl⟩,_,rfl,?_,_,rfl,?_,?_,e,c5,none,f5,_,rfl,he,R.e5.i,?_⟩
  ·rw [lenA,lE]; exact sz1000 (by omega)
  ·rw [lenA,lenA,lE]; exact sz1000 (by omega)
  ·rw [lenA,lenA,lenA,lE]; exact sz1000 (by omega)
  ·rw [lenA,lenA,lenA,lenA,lE]; exact sz1000 (by omega)
  ·rw [lenA,lenA,lenA,lenA,lenA,lE]; exact sz1000 (by omega)
  ·rw [lenA,lenA,lenA,lenA,lenA,lenA,lE]; exact sz1000 (by omega)
  ·rw [lenA,lenA,lenA,lenA,lenA,lenA,lenA,lE]; exact sz1000 (by omega)
  ·rw [lenA,lenA,lenA,lenA,lenA,lenA,lenA,lE]; exact sz1000 (by omega)
  ·refine ⟨_,rfl,_,rfl,e,rfl,he,R.e5,fun dx hd ne => ?_⟩
   refine ⟨_,rfl,_,rfl,e,dx,_,rfl,by rw [upd_ne (Ne.symm ne),upd_same],upd_same,by show 1<=90; decide,R.q51,?_⟩
   refine ⟨_,rfl,_,rfl,e,dx,_,rfl,by rw [upd_ne (Ne.symm ne),upd_ne (Ne.symm ne),upd_same],upd_same,by show 2<=90; decide,R.q52,?_⟩
   have sA : ∀ p o,p ≠ e->H p=some o->upd (upd (upd (upd H e (exN e c5 (some dx))) dx (xdE dx [("recipe",V.str x)])) dx (xdE dx [("one",V.str a),("recipe",V.str x)])) dx (xdE dx [("other",V.str b),("one",V.str a),("recipe",V.str x)]) p=some o:=fun p o n hp=>by
    have n2:p ≠ dx:=fun z=>by rw [z,hd] at hp; cases hp
    rw [upd_ne n2,upd_ne n2,upd_ne n2,upd_ne n]
    exact hp
   have hE:upd (upd (upd (upd H e (exN e c5 (some dx))) dx (xdE dx [("recipe",V.str x)])) dx (xdE dx [("one",V.str a),("recipe",V.str x)])) dx (xdE dx [("other",V.str b),("one",V.str a),("recipe",V.str x)]) e=some (exN e c5 (some dx)):=by rw [upd_ne (Ne.symm ne),upd_ne (Ne.symm ne),upd_ne (Ne.symm ne),upd_same]
   have hX:upd (upd (upd (upd H e (exN e c5 (some dx))) dx (xdE dx [("recipe",V.str x)])) dx (xdE dx [("one",V.str a),("recipe",V.str x)])) dx (xdE dx [("other",V.str b),("one",V.str a),("recipe",V.str x)]) dx=some (xdE dx [("other",V.str b),("one",V.str a),("recipe",V.str x)]):=upd_same
   generalize upd (upd (upd (upd H e (exN e c5 (some dx))) dx (xdE dx [("recipe",V.str x)])) dx (xdE dx [("one",V.str a),("recipe",V.str x)])) dx (xdE dx [("other",V.str b),("one",V.str a),("recipe",V.str x)])=H1 at sA hE hX ⊢
   obtain ⟨d1,d2,t0,t1,t2⟩:=hl
   have ne1 : ∀ {p:Addr} {o:HO},H p=some o->(o = .tup [.ref d1,.ref d2]\/(∃ zs,o = .lst zs))->p ≠ e:=fun {p o} hp ho z=>by
    rw [z,he] at hp
    rcases ho with rfl | ⟨zs,rfl⟩ <;> cases hp
   refine ⟨_,rfl,l,xs,ys,rfl,⟨d1,d2,sA _ _ (ne1 t0 (.inl rfl)) t0,sA _ _ (ne1 t1 (.inr ⟨_,rfl⟩)) t1,sA _ _ (ne1 t2 (.inr ⟨_,rfl⟩)) t2⟩,xl,yl,fun D H2 s2 tw => ?_⟩
   refine ⟨_,rfl,e,dx,_,rfl,s2 _ _ hE,s2 _ _ hX,by show 3<=90; decide,R.q53,?_⟩
   have hX2:=s2 _ _ hX
   obtain ⟨g1,g2,u0,u1,u2⟩:=tw
   have nx : ∀ {p:Addr} {o:HO},H2 p=some o->(o = .tup [.ref g1,.ref g2]\/(∃ zs,o = .lst zs))->p ≠ dx:=fun {p o} hp ho z=>by
    rw [z,hX2] at hp
    rcases ho with rfl | ⟨zs,rfl⟩ <;> cases hp
   refine k dx D _ ne (fun p o n hp => ?_) (by rw [upd_ne (Ne.symm ne)]; exact s2 _ _ hE) upd_same ⟨g1,g2,by rw [upd_ne (nx u0 (.inl rfl))]; exact u0,by rw [upd_ne (nx u1 (.inr ⟨_,rfl⟩))]; exact u1,by rw [upd_ne (nx u2 (.inr ⟨_,rfl⟩))]; exact u2⟩
   have n2:p ≠ dx:=fun z=>by rw [z,hd] at hp; cases hp
   rw [upd_ne n2]
   exact s2 _ _ (sA p o n hp)
theorem scKind:FnScope ["_law_e","_law_some"] ["_law_e"] (defScope sKind):=⟨rfl,rfl,rfl,by decide +kernel,rfl,by decide +kernel,by decide +kernel⟩
theorem ok_kind5 {f:Addr}{fd:FuncData}(F:Fun K "_law_kind" "_law_kind" sKind f fd)(T:Txt mg)(R:ErM K mg cP c0 c1 c2 c3 c4 c5 c6 c7 c8 f5):FnOk P w K mg base CX0 1 f fd ["_law_e"] (spKind 5 c5):=by
 refine F.ok scKind (fun vs H Q E h => ?_) (fun cdv A outer s H vs Q E hr h => ?_)
 ·obtain ⟨_,_,rfl,_⟩:=h
  rfl
 ·obtain ⟨a,dd,rfl,hH,k⟩:=h
  refine ⟨_,(pss_cons (ps_set (i:=1) scKind.nd rfl (Or.inl rfl) (pe_lst (pa_cons (pe_callB call_isiY rfl T.isi boot_isinstance (pa_cons (pv 0) (pa_cons (pe_glob (v:=.ref c0) rfl R.m0 rfl) pa_nil))) (pa_cons (pe_callB call_isiY rfl T.isi boot_isinstance (pa_cons (pv 0) (pa_cons (pe_glob (v:=.ref c1) rfl R.m1 rfl) pa_nil))) (pa_cons (pe_callB call_isiY rfl T.isi boot_isinstance (pa_cons (pv 0) (pa_cons (pe_glob (v:=.ref c2) rfl R.m2 rfl) pa_nil))) pa_nil)))))
   (pss_cons (ps_set (i:=1) scKind.nd rfl (Or.inl rfl) (pe_op op_cat (pv 1) (pe_lst (pa_cons (pe_callB call_isiY rfl T.isi boot_isinstance (pa_cons (pv 0) (pa_cons (pe_glob (v:=.ref c3) rfl R.m3 rfl) pa_nil))) (pa_cons (pe_callB call_isiY rfl T.isi boot_isinstance (pa_cons (pv 0) (pa_cons (pe_glob (v:=.ref c4) rfl R.m4 rfl) pa_nil))) (pa_cons (pe_callB call_isiY rfl T.isi boot_isinstance (pa_cons (pv 0) (pa_cons (pe_glob (v:=.ref c5) rfl R.m5 rfl) pa_nil))) pa_nil))))))
   (pss_cons (ps_set (i:=1) scKind.nd rfl (Or.inl rfl) (pe_op op_cat (pv 1) (pe_lst (pa_cons (pe_callB call_isiY rfl T.isi boot_isinstance (pa_cons (pv 0) (pa_cons (pe_glob (v:=.ref c6) rfl R.m6 rfl) pa_nil))) (pa_cons (pe_callB call_isiY rfl T.isi boot_isinstance (pa_cons (pv 0) (pa_cons (pe_glob (v:=.ref c7) rfl R.m7 rfl) pa_nil))) (pa_cons (pe_callB call_isiY rfl T.isi boot_isinstance (pa_cons (pv 0) (pa_cons (pe_glob (v:=.ref c8) rfl R.m8 rfl) pa_nil))) pa_nil))))))
   (pss_cons (ps_if (PW.pt (pw_or (pt_not (pt_val (pe_callB call_isiY rfl T.isi boot_isinstance (pa_cons (pv 0) (pa_cons (pe_glob (v:=.ref cP) rfl R.mP rfl) pa_nil))))) (pw_or1 (pt_not (pt_val (pe_callB call_isiY rfl T.isi boot_isinstance (pa_cons (pv 0) (pa_cons (pe_bltn (v:=.ty "ValueError") rfl T.val bt_val rfl) pa_nil))))))))
    (pss_one (ps_ret (pe_un un_neg pe_int)))
    pss_nil)
   (pss_cons (ps_if (pt_cmpR op_ne (pe_bm PySem.F.plainAttrs_list PySem.F.slot_list_count PySem.F.type_list_count mt_count (pv 1) (pa_cons pe_bl pa_nil)) pe_int (nomark _))
    (pss_one (ps_ret (pe_un un_neg pe_int)))
    pss_nil)
   (pss_one (ps_ret (pe_bm PySem.F.plainAttrs_list PySem.F.slot_list_index PySem.F.type_list_index mt_index (pv 1) (pa_cons pe_bl pa_nil))))))))),?_⟩
  refine ⟨_,rfl,a,c5,dd,.ref c0,.ref c0,false,rfl,hH,R.e5.i.k,rfl,R.i50,_,rfl,a,c5,dd,.ref c1,.ref c1,false,rfl,hH,R.e5.i.k,rfl,R.i51,_,rfl,a,c5,dd,.ref c2,.ref c2,false,rfl,hH,R.e5.i.k,rfl,R.i52,(by show 3<=sizeLine; decide),fun z1 hz1 => ?_⟩
  have s1:Same H (upd H z1 (.lst [.bl false,.bl false,.bl false])):=Same.upd hz1
  have hH1:=s1 _ _ hH
  refine ⟨_,rfl,_,rfl,a,c5,dd,.ref c3,.ref c3,false,rfl,hH1,R.e5.i.k,rfl,R.i53,_,rfl,a,c5,dd,.ref c4,.ref c4,false,rfl,hH1,R.e5.i.k,rfl,R.i54,_,rfl,a,c5,dd,.ref c5,.ref c5,true,rfl,hH1,R.e5.i.k,rfl,R.i55,(by show 3<=sizeLine; decide),fun z2 hz2 => ?_⟩
  have s2:=s1.trans (Same.upd (o:=.lst [.bl false,.bl false,.bl true]) hz2)
  refine ⟨z1,z2,_,_,rfl,rfl,(Same.upd hz2) _ _ upd_same,upd_same,(by show 6<=sizeLine; decide),fun z3 hz3 => ?_⟩
  have s3:=s2.trans (Same.upd (o:=.lst [.bl false,.bl false,.bl false,.bl false,.bl false,.bl true]) hz3)
  have hH3:=s3 _ _ hH
  refine ⟨_,rfl,_,rfl,a,c5,dd,.ref c6,.ref c6,false,rfl,hH3,R.e5.i.k,rfl,R.i56,_,rfl,a,c5,dd,.ref c7,.ref c7,false,rfl,hH3,R.e5.i.k,rfl,R.i57,_,rfl,a,c5,dd,.ref c8,.ref c8,false,rfl,hH3,R.e5.i.k,rfl,R.i58,(by show 3<=sizeLine; decide),fun z4 hz4 => ?_⟩
  have s4:=s3.trans (Same.upd (o:=.lst [.bl false,.bl false,.bl false]) hz4)
  refine ⟨z3,z4,_,_,rfl,rfl,(Same.upd hz4) _ _ upd_same,upd_same,(by show 9<=sizeLine; decide),fun z5 hz5 => ?_⟩
  have s5:=s4.trans (Same.upd (o:=.lst [.bl false,.bl false,.bl false,.bl false,.bl false,.bl true,.bl false,.bl false,.bl false]) hz5)
  have hH5:=s5 _ _ hH
  refine ⟨_,rfl,a,c5,dd,.ref cP,.ref cP,true,rfl,hH5,R.e5.i.k,rfl,R.p5,_,rfl,iteF ⟨_,rfl,a,c5,dd,.type "ValueError",.ty "ValueError",true,rfl,hH5,R.e5.i.k,rfl,R.v5,_,rfl,iteF ?_⟩⟩
  refine ⟨_,rfl,.inl ⟨rfl,_,SqL.of upd_same⟩,z5,_,.bl true,rfl,rfl,upd_same,rfl,rfl,rfl,_,rfl,iteF ?_⟩
  refine ⟨_,rfl,.inl ⟨rfl,_,SqL.of upd_same⟩,z5,_,.bl true,5,.bl true,rfl,rfl,upd_same,rfl,rfl,rfl,rfl,fun m z h e => ?_,k _ s5⟩
  have hm:m=0\/m=1\/m=2\/m=3\/m=4:=by omega
  rcases hm with rfl | rfl | rfl | rfl | rfl <;> cases e <;> rfl
end
end K17
namespace L2
open PySem PySem.Spec PyProof.Rows
theorem Inv.thaw {X:Cx}{pins:List (Addr × Obj)}{σ:St}{H:Hp}{s:Shared}{d:Addr}{ob:Obj}{kvs:List (Key × V)}(I:Inv X pins σ H s)(hd:H d=some (.frz ob (.dK kvs)))(h0 : ∀ o u,X.H₀ d ≠ some (.frz o u)):Inv X pins σ (upd H d (.dK kvs)) s:=by
 have ne : ∀ b,H b=none->b ≠ d:=fun b n z=>by rw [z,hd] at n; cases n
 have nd : ∀ b u,H b=some u->u ≠ .frz ob (.dK kvs)->b ≠ d:=fun b u e n z=>by
  rw [z,hd] at e
  exact n (Option.some.inj e).symm
 have st : ∀ {a:Addr} {u:HO},ObjOk X.prog X.w H s.heap a u->ObjOk X.prog X.w (upd H d (.dK kvs)) s.heap a u:=fun x =>
  x.stay (fun c v _ q=>q) (fun c q=>by rw [upd_ne (nd c _ q (by intro z; cases z))]; exact q) fun c xs q=>by rw [upd_ne (nd c _ q (by intro z; cases z))]; exact q
 refine ⟨I.ok,I.os,I.bare,⟨I.base.keep,I.base.slot,fun b o e n hx => ?_,I.base.there,fun b xs e => ?_,fun b o u e => ?_,fun b ps e => ?_⟩,I.loc,I.cell,?_,fun x c e => ?_,fun p hp => ?_,fun b u e => ?_,I.len⟩
 ·have z:=I.base.free b o e n hx
  rw [upd_ne (ne b z)]
  exact z
 ·have z:=I.base.tups b xs e
  rw [upd_ne (nd b _ z (by intro z; cases z))]
  exact z
 ·have z:=I.base.frzs b o u e
  rw [upd_ne (fun q=>h0 o u (by rw [<- q]; exact e))]
  exact z
 ·obtain ⟨m,z⟩:=I.base.tbls b ps e
  exact ⟨m,by rw [upd_ne (nd b _ z (by intro z; cases z))]; exact z⟩
 ·rw [upd_ne (ne _ I.free)]
  exact I.free
 ·rw [upd_ne (ne _ (I.freeC x c e))]
  exact I.freeC x c e
 ·obtain ⟨q1,q2,q3⟩:=I.pin p hp
  exact ⟨q1,by rw [upd_ne (ne _ q2)]; exact q2,q3⟩
 ·by_cases e':b=d
  ·subst e'
   rw [upd_same] at e
   cases e
   exact st (I.hok b _ hd).2
  ·rw [upd_ne e'] at e
   exact st (I.hok b u e)
def tThaw (H₀:Hp)(te:TE):TE:=fun σ H Q=>te σ H fun v H'=>∃ d ob kvs,H' d=some (.frz ob (.dK kvs))/\(∀ o u,H₀ d ≠ some (.frz o u))/\Q v (upd H' d (.dK kvs))
theorem pe_thaw {X:Cx}{e:Expr}{te:TE}(he:PE X e te):PE X e (tThaw X.H₀ te):=by
 intro pins s σ H Q I h
 refine thn (he pins s σ H _ I h) fun v s1 ⟨x,H1,I1,r1,d,ob,kvs,hd,h0,q⟩ => ?_
 exact ⟨x,_,I1.thaw hd h0,r1,q⟩
def rUpd:V->List V->Hp->VK->Prop:=fun x vs H Q=>∃ d o kvs more,x = .ref d/\vs=[.ref o]/\d ≠ o/\H d=some (.dK kvs)/\H o=some (.dK more)/\kvs.length+more.length<=1000/\Q .non (upd H d (.dK (mergeK kvs more)))
section
variable {prog:Program}{w:World}{A:Around}{E:Value->Shared->Prop}{s:Shared}
end
end L2
namespace L2
open PySem PySem.Spec PyProof.Rows
def tMinD (te:TE):TE:=fun σ H Q=>te σ H fun x H1=>∃ l n,x = .ref l/\H1 l=some (.lst [.int n])/\Q (.int n) H1
end L2
namespace L2
open PySem PySem.Spec PyProof.Rows
structure MCal (P:Program)(w:World)(K:PySem.W.Frag)(mg:Str->Option Value)(base:Heap)(CX:CXT)(k:Nat)(C:Addr)(m:Str)(ps:List Str)(sp:Sp):Prop where
 ex : ∃ (f:Addr) (fd:FuncData),Meth K C m f/\Binds K fd ps []/\FnOk P w K mg base CX k f fd ps sp
section
variable {X:Cx}{CX:CXT}{k:Nat}{C:Addr}{m:Str}{ps:List Str}{sp:Sp}{E:XK}{o e:Expr}{es:List Expr}{ta:TE}{t:TA}{apos pos:Pos}
end
def tThawS (H₀:Hp)(t:TS):TS:=fun D σ H=>t { D with nx:=fun σ' H'=>∃ d ob kvs,H' d=some (.frz ob (.dK kvs))/\(∀ o u,H₀ d ≠ some (.frz o u))/\D.nx σ' (upd H' d (.dK kvs)) } σ H
theorem thaw_same {H H5:Hp}{c:Addr}{ob:Obj}{kvs:List (Key × V)}(h:H c=some (.dK kvs))(s:Same (upd H c (.frz ob (.dK kvs))) H5):Same H (upd H5 c (.dK kvs)):=fun b o e=>by
 by_cases z:b=c
 ·subst z
  rw [h] at e
  cases e
  exact upd_same
 ·rw [upd_ne z]
  exact s b o (by rw [upd_ne z]; exact e)
end L2
namespace RH
inductive Rch {α:Type}(B:α->List α):α->α->Prop
 | refl (x:α):Rch B x x
 | step {x t y:α}:t ∈ B x->Rch B t y->Rch B x y
theorem Rch.snoc {α:Type}{B:α->List α}{x y t:α}(h:Rch B x y)(ht:t ∈ B y):Rch B x t:=by
 induction h with
 | refl x=>exact .step ht (.refl _)
 | step a _ ih=>exact .step a (ih ht)
theorem Rch.closed {α:Type}{B:α->List α}{S:α->Prop}(c : ∀ x,S x->∀ t ∈ B x,S t){x y:α}(h:Rch B x y)(hx:S x):S y:=by
 induction h with
 | refl x=>exact hx
 | step a _ ih=>exact ih (c _ hx _ a)
theorem Rch.none {α:Type}{B:α->List α}{x y:α}(h:Rch B x y)(e:B x=[]):y=x:=by
 cases h with
 | refl=>rfl
 | step a _=>rw [e] at a; cases a
theorem Rch.next {α:Type}{B:α->List α}{x y:α}(h:Rch B x y)(ne:x ≠ y) : ∃ t ∈ B x,Rch B t y:=by
 cases h with
 | refl=>exact absurd rfl ne
 | step a b=>exact ⟨_,a,b⟩
structure Wk {α:Type}(B:α->List α)(x:α)(ks wt:List α):Prop where
 k : ∀ y ∈ ks,Rch B x y
 w : ∀ y ∈ wt,Rch B x y
 c : ∀ y ∈ ks,∀ t ∈ B y,t ∈ ks\/t ∈ wt
 s:x ∈ ks\/x ∈ wt
theorem Wk.start {α:Type}{B:α->List α}{x:α}:Wk B x [] [x]:=⟨(fun _ h=>nomatch h),(fun y h=>by rw [List.mem_singleton.mp h]; exact .refl _),(fun _ h=>nomatch h),.inr (List.mem_singleton_self _)⟩
theorem Wk.old {α:Type}{B:α->List α}{x y:α}{ks wt:List α}(h:Wk B x ks (wt ++ [y]))(hy:y ∈ ks):Wk B x ks wt:=by
 refine ⟨h.k,fun z hz=>h.w z (List.mem_append_left _ hz),fun z hz t ht => ?_,?_⟩
 ·rcases h.c z hz t ht with a | a
  ·exact .inl a
  ·rcases List.mem_append.mp a with a | a
   ·exact .inr a
   ·rw [List.mem_singleton.mp a]; exact .inl hy
 ·rcases h.s with a | a
  ·exact .inl a
  ·rcases List.mem_append.mp a with a | a
   ·exact .inr a
   ·rw [List.mem_singleton.mp a]; exact .inl hy
theorem Wk.new {α:Type}{B:α->List α}{x y:α}{ks wt:List α}(h:Wk B x ks (wt ++ [y])):Wk B x (ks ++ [y]) (wt ++ B y):=by
 have ry:=h.w y (by simp)
 have mv : ∀ t,t ∈ wt ++ [y]->t ∈ ks ++ [y]\/t ∈ wt ++ B y:=fun t a=>by
  rcases List.mem_append.mp a with a | a
  ·exact .inr (List.mem_append_left _ a)
  ·exact .inl (List.mem_append_right _ a)
 refine ⟨fun z hz => ?_,fun z hz => ?_,fun z hz t ht => ?_,?_⟩
 ·rcases List.mem_append.mp hz with a | a
  ·exact h.k z a
  ·rw [List.mem_singleton.mp a]; exact ry
 ·rcases List.mem_append.mp hz with a | a
  ·exact h.w z (List.mem_append_left _ a)
  ·exact ry.snoc a
 ·rcases List.mem_append.mp hz with a | a
  ·rcases h.c z a t ht with b | b
   ·exact .inl (List.mem_append_left _ b)
   ·exact mv t b
  ·rw [List.mem_singleton.mp a] at ht
   exact .inr (List.mem_append_right _ ht)
 ·rcases h.s with a | a
  ·exact .inl (List.mem_append_left _ a)
  ·exact mv x a
theorem Wk.done {α:Type}{B:α->List α}{x:α}{ks:List α}(h:Wk B x ks [])(y:α):y ∈ ks ↔ Rch B x y:=by
 refine ⟨h.k y,fun r => ?_⟩
 refine r.closed (S:=fun z=>z ∈ ks) (fun z hz t ht => ?_) ?_
 ·rcases h.c z hz t ht with a | a
  ·exact a
  ·cases a
 ·rcases h.s with a | a
  ·exact a
  ·cases a
def Chn {α:Type}(B:α->List α)(way:List α):Prop:=∀ (i:Nat) x y,way[i]?=some x->way[i+1]?=some y->y ∈ B x
theorem Chn.one {α:Type}{B:α->List α}{x:α}:Chn B [x]:=fun i a b _ hb=>by simp at hb
theorem Chn.snoc {α:Type}{B:α->List α}{way:List α}{x y:α}(h:Chn B (way ++ [x]))(hy:y ∈ B x):Chn B (way ++ [x] ++ [y]):=fun i a b ha hb=>by
 have bl:=(List.getElem?_eq_some_iff.mp hb).1
 rw [List.length_append] at bl
 have bl':i+1 < (way ++ [x]).length+1:=bl
 by_cases e:i+1 < (way ++ [x]).length
 ·rw [List.getElem?_append_left e] at hb
  rw [List.getElem?_append_left (by omega)] at ha
  exact h i a b ha hb
 ·have e':i+1=(way ++ [x]).length:=by omega
  rw [List.getElem?_append_right (by omega),e',Nat.sub_self] at hb
  obtain rfl:y=b:=by simpa using hb
  have e2:i=way.length:=by rw [List.length_append] at e'; have:i+1=way.length+1:=e'; omega
  rw [List.getElem?_append_left (by omega),e2,List.getElem?_append_right (Nat.le_refl _),Nat.sub_self] at ha
  obtain rfl:x=a:=by simpa using ha
  exact hy
end RH
namespace K17
open PySem PySem.Spec PyProof.Rows L2 GM TM BQ TR RH
theorem fn_or {P:Program}{w:World}{K:PySem.W.Frag}{mg:Str->Option Value}{base:Heap}{CX:CXT}{k:Nat}{f:Addr}{fd:FuncData}{ps:List Str}{s1 s2:Sp}(a:FnOk P w K mg base CX k f fd ps s1)(b:FnOk P w K mg base CX k f fd ps s2):FnOk P w K mg base CX k f fd ps (fun vs H Q E=>s1 vs H Q E\/s2 vs H Q E) :=
 ⟨fun vs H Q E h=>h.elim (a.len vs H Q E) (b.len vs H Q E),fun A outer s H args us vs Q E h1 h2 h3 h4 h=>h.elim (a.run A outer s H args us vs Q E h1 h2 h3 h4) (b.run A outer s H args us vs Q E h1 h2 h3 h4)⟩
def spRowsNo:Sp:=fun vs H Q _=>∃ (b:Addr) (us:List V) (rc:List (Str × List Rw)) (x:Str),vs=[.ref b,.str x]/\BkV H b us rc/\x ∉ rc.map (·.1)/\∀ q,H q=none->Q (.ref q) (upd H q (.tup []))
def spThofNo:Sp:=fun vs H Q _=>∃ (b:Addr) (us:List V) (rc:List (Str × List Rw)) (x:Str),vs=[.ref b,.str x]/\BkV H b us rc/\x ∉ rc.map (·.1)/\∀ l H',Same H H'->H l=none->H' l=some (.lst [])->Q (.ref l) H'
def spThofA:Sp:=fun vs H Q E=>spThof vs H Q E\/spThofNo vs H Q E
structure Unv (rc:List (Str × List Rw))(U:List Str):Prop where
 r:RcS rc
 nd:(rc.map (·.1)).Nodup
 ln:U.length<=40
 th : ∀ p ∈ rc,∀ y ∈ thgs p.2,y ∈ U
structure Wl (ws:List Str)(B:Str->List Str)(x:Str)(ys:List Str):Prop where
 so:sortedS ys=true
 nd:ys.Nodup
 mm : ∀ y,y ∈ ys ↔ y ∈ ws/\Rch B x y
theorem sorted_pw : ∀ {ss:List Str},sortedS ss=true->ss.Pairwise (fun a b=>a.cps.toList<=b.cps.toList)
 | [],_=>.nil
 | x :: r,h=>by
  have key : ∀ (r:List Str) (x:Str),risingS x r=true->(∀ y ∈ r,x.cps.toList<=y.cps.toList)/\r.Pairwise (fun a b=>a.cps.toList<=b.cps.toList):=by
   intro r
   induction r with
   | nil=>intro x _; exact ⟨(fun _ h=>nomatch h),.nil⟩
   | cons y r ih =>
    intro x hx
    have hx':(!ltCps y.cps.toList x.cps.toList && risingS y r)=true:=hx
    simp only [Bool.and_eq_true,Bool.not_eq_true'] at hx'
    obtain ⟨h1,h2⟩:=hx'
    rw [ltCps_eq] at h1
    have le:x.cps.toList<=y.cps.toList:=List.not_lt.mp (of_decide_eq_false h1)
    obtain ⟨i1,i2⟩:=ih y h2
    refine ⟨fun z hz => ?_,.cons i1 i2⟩
    rcases List.mem_cons.mp hz with rfl | hz
    ·exact le
    ·exact List.le_trans le (i1 z hz)
  obtain ⟨k1,k2⟩:=key r x h
  exact .cons k1 k2
theorem sorted_uniq {a b:List Str}(h:a.Perm b)(ha:sortedS a=true)(hb:sortedS b=true):a=b:=by
 refine h.eq_of_pairwise (le:=fun a b=>a.cps.toList<=b.cps.toList) (fun x y _ _ h1 h2 => ?_) (sorted_pw ha) (sorted_pw hb)
 exact TM.ext (List.le_antisymm h1 h2)
theorem Wl.uniq {ws xs ys:List Str}{B:Str->List Str}{x:Str}(h:Wl ws B x xs)(k:Wl ws B x ys):xs=ys :=
 sorted_uniq ((List.perm_ext_iff_of_nodup h.nd k.nd).mpr fun y=>(h.mm y).trans (k.mm y).symm) h.so k.so
theorem below_no {rc:List (Str × List Rw)}{x:Str}(h:x ∉ rc.map (·.1)):belowF rc x=[]:=by
 unfold belowF
 rw [List.flatMap_eq_nil_iff]
 intro p hp
 rw [if_neg fun e=>h (List.mem_map.mpr ⟨p,hp,e⟩)]
def spWof:Sp:=fun vs H Q _=>∃ (b:Addr) (ws:List Str) (us:List V) (rc:List (Str × List Rw)) (x:Str) (U:List Str),vs=[.ref b,.str x]/\BwV H b ws us rc/\Unv rc U/\x ∈ U/\∀ l (ys:List Str) H',Same H H'->H l=none->H' l=some (.lst (ys.map V.str))->Wl ws (belowF rc) x ys->ys.length<=40->Q (.ref l) H'
theorem ix_tupK {X:Cx}{K:PySem.W.Frag}(h:X.K=K):IxR X (rIxT K):=h ▸ ix_tup
section
variable {P:Program}{w:World}{K:PySem.W.Frag}{mg:Str->Option Value}{base:Heap}
theorem ok_rowsno {f:Addr}{fd:FuncData}(F:Fun K "rows_of" "rows_of" sRowsOf f fd):FnOk P w K mg base CX0 1 f fd ["book","name"] spRowsNo:=by
 refine F.ok scRowsOf (fun vs H Q E h => ?_) (fun cdv A outer s H vs Q E hr h => ?_)
 ·obtain ⟨_,_,_,_,rfl,_⟩:=h
  rfl
 ·obtain ⟨b,us,rc,x,rfl,⟨x0,y0,g,hb,hg,hu⟩,nx,k⟩:=h
  refine ⟨_,(pss_cons (ps_for PassesOwn.never rfl (pi_tup (pit 0 2)) (pg_tup rfl (pgs_cons (pg_name (i:=2) scRowsOf.nd rfl (Or.inl rfl)) (pgs_cons (pg_name (i:=3) scRowsOf.nd rfl (Or.inl rfl)) pgs_nil)))
    (pss_one (ps_if (pt_cmpR op_eq (pv 2) (pv 1) (nomark _))
    (pss_one (ps_ret (pv 3)))
    pss_nil)))
   (pss_one (ps_ret (pe_tup pa_nil)))),?_⟩
  refine ⟨b,_,_,rfl,SqT.of hb,rfl,g,rfl,⟨_,SqT.of hg⟩,?_⟩
  refine for_tup (xs:=us) (fun i σ H'=>∃ v2 v3:Option V,σ=[some (.ref b),some (.str x),v2,v3]/\H'=H) ⟨none,none,rfl,rfl⟩ (fun i σ H' _ hh=>by obtain ⟨_,_,_,rfl⟩:=hh; exact SqT.of hg) ?_ ?_
  ·intro i v σ H1 hv hh
   obtain ⟨v2,v3,rfl,rfl⟩:=hh
   obtain ⟨p',hp',z,q,vs',rfl,hz,hq,hr'⟩:=hu.get hv
   refine ⟨z,_,rfl,SqT.of hz,rfl,_,_,rfl,_,_,rfl,rfl,?_⟩
   refine ⟨_,rfl,_,rfl,rfl,_,rfl,ite2 (fun hc => ?_) (fun hc=>⟨_,_,rfl,rfl⟩)⟩
   have e:p'.1=x:=by simpa using hc
   exact absurd (List.mem_map.mpr ⟨p',List.mem_of_getElem? hp',e⟩) nx
  ·intro σ H1 hh
   obtain ⟨v2,v3,rfl,rfl⟩:=hh
   exact ⟨(by show 0<=sizeLine; decide),fun q nq=>k q nq⟩
theorem ok_thofno {f:Addr}{fd:FuncData}(F:Fun K "things_of" "things_of" sThof f fd)(cR:Cal P w K mg base CX0 1 "rows_of" ["book","name"] spRowsNo)(cT:Cal P w K mg base CX0 1 "things_in" ["row"] spThings):FnOk P w K mg base CX0 2 f fd ["book","name"] spThofNo:=by
 refine F.ok scThof (fun vs H Q E h => ?_) (fun cdv A outer s H vs Q E hr h => ?_)
 ·obtain ⟨_,_,_,_,rfl,_⟩:=h
  rfl
 ·obtain ⟨b,us,rc,x,rfl,bk,nx,k⟩:=h
  refine ⟨_,(pss_cons (ps_set (i:=2) scThof.nd rfl (Or.inl rfl) (pe_lst pa_nil))
   (pss_cons (ps_for PassesOwn.never rfl (pi_tup (pe_cal cR hr rfl pass0 (pa_cons (pv 0) (pa_cons (pv 1) pa_nil)))) (pg_name (i:=3) scThof.nd rfl (Or.inl rfl))
    (pss_one (ps_expr (pe_bm PySem.F.plainAttrs_list PySem.F.slot_list_extend PySem.F.type_list_extend mt_extend (pv 2) (pa_cons (pe_cal cT hr rfl pass0 (pa_cons (pv 3) pa_nil)) pa_nil)))))
   (pss_one (ps_ret (pv 2))))),?_⟩
  refine ⟨(by show 0<=sizeLine; decide),fun Fd nF => ?_⟩
  have sF:=Same.upd (o:=.lst []) nF
  refine ⟨_,rfl,_,rfl,b,us,rc,x,rfl,bk.keep sF.tk,nx,fun q nq => ?_⟩
  have sq:=Same.upd (o:=.tup []) nq
  refine ⟨q,rfl,⟨_,SqT.of upd_same⟩,?_⟩
  refine for_tup (xs:=[]) (fun i σ H'=>σ=[some (.ref b),some (.str x),some (.ref Fd),none]/\H'=upd (upd H Fd (.lst [])) q (.tup [])) ⟨rfl,rfl⟩ (fun i σ H' _ hh=>by obtain ⟨_,rfl⟩:=hh; exact SqT.of upd_same) (fun i v σ H1 hv _=>by simp at hv) ?_
  intro σ H1 hh
  obtain ⟨rfl,rfl⟩:=hh
  exact ⟨_,rfl,k Fd _ (sF.trans sq) nF (sq _ _ upd_same)⟩
theorem ndNB:(["name","book"]:List Str).Nodup:=by decide +kernel
abbrev Nwof:List Str:=["book","thing","reached","waiting","name"]
theorem scWof:FnScope Nwof ["book","thing"] (defScope sWof):=⟨rfl,rfl,rfl,by decide +kernel,rfl,by decide +kernel,by decide +kernel⟩
theorem ok_wof {f:Addr}{fd:FuncData}(F:Fun K "wares_of" "wares_of" sWof f fd)(T:Txt mg)(cT:Cal P w K mg base CX0 2 "things_of" ["book","name"] spThofA):FnOk P w K mg base CX0 3 f fd ["book","thing"] spWof:=by
 refine F.ok scWof (fun vs H Q E h => ?_) (fun cdv A outer s H vs Q E hr h => ?_)
 ·obtain ⟨_,_,_,_,_,_,rfl,_⟩:=h
  rfl
 ·obtain ⟨b,ws,us,rc,x,U,rfl,bw,un,xU,k⟩:=h
  refine ⟨_,(pss_cons (ps_set (i:=2) scWof.nd rfl (Or.inl rfl) pe_dnewK)
   (pss_cons (ps_set (i:=3) scWof.nd rfl (Or.inl rfl) (pe_lst (pa_cons (pv 1) pa_nil)))
   (pss_cons (ps_while PassesOwn.never (pt_cmpR (op_neE hr.units) (pv 3) (pe_lst pa_nil) (nomark _))
    (pss_cons (ps_set (i:=4) scWof.nd rfl (Or.inl rfl) (pe_bm0 PySem.F.plainAttrs_list PySem.F.slot_list_pop PySem.F.type_list_pop mt_pop (pv 3)))
    (pss_one (ps_if (pt_cmp (pc_dnotin (hu_of hr) (pv 4) (pv 2)))
     (pss_cons (ps_dput (hu_of hr) (pv 2) (pv 4) pe_bl rfl)
     (pss_one (ps_expr (pe_bm PySem.F.plainAttrs_list PySem.F.slot_list_extend PySem.F.type_list_extend mt_extend (pv 3) (pa_cons (pe_cal cT hr rfl pass0 (pa_cons (pv 0) (pa_cons (pv 4) pa_nil))) pa_nil)))))
     pss_nil))))
   (pss_one (ps_ret (pe_callB call_sortS rfl T.sorted' boot_sorted (pa_cons (pe_thaw
    (pe_compC (N':=["name","book"]) (fun σ=>[none,some 0].map fun t=>t.bind fun j=>(σ[j]?).join) rfl rfl (by decide +kernel) (by decide +kernel)
       (hk_of (sc:=defScope sWof) rfl (by decide +kernel)) (fun _ _ _=>blkN_by (sc:=defScope sWof) (N:=Nwof) [none,some 0] rfl rfl rfl rfl (by decide +kernel))
       (pi_dict (pv 2)) (fun _ _ _ _ _ _=>pg_name (i:=0) ndNB rfl (Or.inl rfl))
       (fun _ _ _ _ _ _=>pifs_one (pt_cmpR (op_inK (K:=K) rfl) (pv 0) (pe_ix (ix_tupK (K:=K) rfl) (pv 1) pe_int (fun _ _=>rfl)) rfl))
       (fun _ _ _ _ _ _=>pv 0))) pa_nil))))))),?_⟩
  refine fun D nD => ?_
  have sD:=Same.upd (o:=.dK []) nD
  refine ⟨_,rfl,(by show 1<=sizeLine; decide),fun W nW => ?_⟩
  have sW:=Same.upd (o:=.lst [.str x]) nW
  have DW:D ≠ W:=fun e=>by rw [<- e,upd_same] at nW; cases nW
  have nW0:H W=none:=sm_none' sD nW
  have hD1:upd (upd H D (.dK [])) W (.lst [.str x]) D=some (.dK []):=sW _ _ upd_same
  have hW1:upd (upd H D (.dK [])) W (.lst [.str x]) W=some (.lst ([x].map V.str)):=upd_same
  have s1:=sD.trans sW
  generalize upd (upd H D (.dK [])) W (.lst [.str x])=H1 at hD1 hW1 s1 ⊢
  have ul:=un.ln
  refine ⟨fun m σ H'=>∃ (kvs:List (Key × V)) (ks wt:List Str) (v4:Option V),σ=[some (.ref b),some (.str x),some (.ref D),some (.ref W),v4]/\Same H H'/\H' D=some (.dK kvs)/\H' W=some (.lst (wt.map V.str))/\kvs.map (·.1)=ks.map Sum.inr/\ks.Nodup/\(∀ y ∈ ks,y ∈ U)/\(∀ y ∈ wt,y ∈ U)/\wt.length<=100*(ks.length+1)/\Wk (belowF rc) x ks wt/\m=100*(41 - ks.length)+wt.length,?_,?_⟩
  ·exact ⟨_,[],[],[x],none,rfl,s1,hD1,hW1,rfl,List.nodup_nil,(fun y h=>nomatch h),(fun y h=>by rw [List.mem_singleton.mp h]; exact xU),by show 1<=100; decide,Wk.start,rfl⟩
  ·intro m σ H2 hh
   obtain ⟨kvs,ks,wt,v4,rfl,s2,hD2,hW2,ek,knd,kU,wU,wl,wk,rfl⟩:=hh
   have kl:ks.length<=40:=Nat.le_trans (nd_sub knd kU) ul
   have kvl:kvs.length=ks.length:=by simpa using congrArg List.length ek
   refine ⟨_,rfl,(by show 0<=sizeLine; decide),fun em nem => ?_⟩
   have sem:=Same.upd (o:=.lst []) nem
   refine ⟨W,em,_,rfl,rfl,SqL.of (sem _ _ hW2),SqL.of upd_same,_,rfl,ite2 (fun hne => ?_) (fun hne => ?_)⟩
   ·have hD3:=sem _ _ hD2
    have hW3:=sem _ _ hW2
    have s3:=s2.trans sem
    generalize upd H2 em (.lst [])=H3 at hD3 hW3 s3 ⊢
    have wn:wt ≠ []:=fun e=>by rw [e] at hne; cases hne
    obtain ⟨wt',y,rfl⟩ : ∃ wt' y,wt=wt' ++ [y]:=by
     rcases List.eq_nil_or_concat wt with e | ⟨a,b,e⟩
     ·exact absurd e wn
     ·exact ⟨a,b,by rw [e,List.concat_eq_append]⟩
    have yU:y ∈ U:=wU y (by simp)
    refine ⟨_,fun _ _ h=>h,?_⟩
    refine ⟨_,rfl,.inl ⟨rfl,_,SqL.of hW3⟩,W,_,.str y,rfl,rfl,hW3,by simp,?_⟩
    have ed:((wt' ++ [y]).map V.str).dropLast=wt'.map V.str:=by simp
    rw [ed]
    have s4:Same H (upd H3 W (.lst (wt'.map V.str))):=sm_own' s3 nW0
    have hD4:upd H3 W (.lst (wt'.map V.str)) D=some (.dK kvs):=by rw [upd_ne DW]; exact hD3
    have hW4:upd H3 W (.lst (wt'.map V.str)) W=some (.lst (wt'.map V.str)):=upd_same
    generalize upd H3 W (.lst (wt'.map V.str))=H4 at s4 hD4 hW4 ⊢
    have wl':wt'.length+1<=100*(ks.length+1):=by simpa using wl
    have inks : ¬ (!(valV kvs (Sum.inr y)).isSome)=true->y ∈ ks:=fun hk=>by
     cases e:valV kvs (Sum.inr y) with
     | none=>rw [e] at hk; exact absurd rfl hk
     | some o =>
      unfold valV at e
      obtain ⟨kv,hf,_⟩:=Option.map_eq_some_iff.mp e
      have h1:=List.mem_of_find?_eq_some hf
      have h2:=List.find?_some hf
      have h3:kv.1=Sum.inr y:=by simpa using h2
      have:Sum.inr y ∈ ks.map (Sum.inr:Str->Key):=by rw [<- ek]; exact List.mem_map.mpr ⟨kv,h1,h3⟩
      obtain ⟨z,hz,ez⟩:=List.mem_map.mp this
      cases ez
      exact hz
    refine ⟨_,rfl,_,rfl,D,_,rfl,DGet.k (k:=.inr y) hD4,_,rfl,ite2 (fun hnk => ?_) (fun hk => ?_)⟩
    ·have vn:valV kvs (Sum.inr y)=none:=by
      cases e:valV kvs (Sum.inr y) with
      | none=>rfl
      | some o =>
       have:(!(valV kvs (Sum.inr y)).isSome)=true:=hnk
       rw [e] at this
       cases this
     have yk:y ∉ ks:=fun hy=>by
      have hm:Sum.inr y ∈ kvs.map (·.1):=by rw [ek]; exact List.mem_map.mpr ⟨y,hy,rfl⟩
      obtain ⟨kv,hkv,ekv⟩:=List.mem_map.mp hm
      have:(valV kvs (Sum.inr y)).isSome=true:=by
       unfold valV
       rw [Option.isSome_map,List.find?_isSome]
       exact ⟨kv,hkv,by simpa using ekv⟩
      rw [vn] at this
      cases this
     refine ⟨_,rfl,_,rfl,D,_,rfl,DPut.k (k:=.inr y) hD4 (small1000 (by omega)),?_⟩
     rw [putK_new _ vn]
     have s5:Same H (upd H4 D (.dK (kvs ++ [(.inr y,.bl true)]))):=sm_own' s4 nD
     have hD5:upd H4 D (.dK (kvs ++ [(.inr y,.bl true)])) D=some (.dK (kvs ++ [(.inr y,.bl true)])):=upd_same
     have hW5:upd H4 D (.dK (kvs ++ [(.inr y,.bl true)])) W=some (.lst (wt'.map V.str)):=by rw [upd_ne (Ne.symm DW)]; exact hW4
     generalize upd H4 D (.dK (kvs ++ [(.inr y,.bl true)]))=H5 at s5 hD5 hW5 ⊢
     have nd2:=nodup_snoc knd yk
     have kU2 : ∀ z ∈ ks ++ [y],z ∈ U:=fun z hz=>by
      rcases List.mem_append.mp hz with hz | hz
      ·exact kU z hz
      ·rw [List.mem_singleton.mp hz]; exact yU
     have kl2:(ks ++ [y]).length<=40:=Nat.le_trans (nd_sub nd2 kU2) ul
     rw [List.length_append] at kl2
     replace kl2:ks.length+1<=40:=kl2
     have fin : ∀ (l:Addr) (ts:List Str) (H6:Hp),Same H5 H6->H6 l=some (.lst (ts.map V.str))->(∀ t ∈ ts,t ∈ U)->ts.length<=60->ts=belowF rc y->∃ p q xs ys,V.ref W = .ref p/\[V.ref l]=[.ref q]/\H6 p=some (.lst xs)/\H6 q=some (.lst ys)/\xs.length+ys.length<=sizeLine/\∃ m',m' < 100*(41 - ks.length)+(wt' ++ [y]).length/\∃ (kvs':List (Key × V)) (ks' wt2:List Str) (v4:Option V),[some (.ref b),some (.str x),some (.ref D),some (.ref W),some (V.str y)]=[some (.ref b),some (.str x),some (.ref D),some (.ref W),v4]/\Same H (upd H6 p (.lst (xs ++ ys)))/\(upd H6 p (.lst (xs ++ ys))) D=some (.dK kvs')/\(upd H6 p (.lst (xs ++ ys))) W=some (.lst (wt2.map V.str))/\kvs'.map (·.1)=ks'.map Sum.inr/\ks'.Nodup/\(∀ y ∈ ks',y ∈ U)/\(∀ y ∈ wt2,y ∈ U)/\wt2.length<=100*(ks'.length+1)/\Wk (belowF rc) x ks' wt2/\m'=100*(41 - ks'.length)+wt2.length:=by
      intro l ts H6 s6 hl tU tl te
      refine ⟨W,l,_,_,rfl,rfl,s6 _ _ hW5,hl,by rw [List.length_map,List.length_map]; exact Nat.le_trans (show _<=10000 by omega) (by decide),_,?_,kvs ++ [(.inr y,.bl true)],ks ++ [y],wt' ++ ts,_,rfl,sm_own' (s5.trans s6) nW0,by rw [upd_ne DW]; exact s6 _ _ hD5,by rw [upd_same,List.map_append],by rw [List.map_append,ek,List.map_append]; rfl,nd2,kU2,fun z hz => ?_,?_,te ▸ wk.new,rfl⟩
      ·rw [List.length_append,List.length_append,List.length_append]
       show 100*(41 - (ks.length+1))+(wt'.length+ts.length) < 100*(41 - ks.length)+(wt'.length+1)
       omega
      ·rcases List.mem_append.mp hz with hz | hz
       ·exact wU z (List.mem_append_left _ hz)
       ·exact tU z hz
      ·rw [List.length_append,List.length_append]
       show wt'.length+ts.length<=100*(ks.length+1+1)
       omega
     by_cases hy:y ∈ rc.map (·.1)
     ·obtain ⟨p,hp,ep⟩:=List.mem_map.mp hy
      obtain ⟨j,hj⟩:=List.getElem?_of_mem hp
      have tl:(thgs p.2).length<=60:=by
       have pr:=un.r.rw p hp
       have:=thgs_len (rs:=p.2) pr.2
       omega
      subst ep
      refine ⟨_,rfl,.inl ⟨rfl,_,SqL.of hW5⟩,_,rfl,_,rfl,.inl ⟨b,us,rc,j,p,rfl,bw.bk.keep s5.tk,un.nd,un.r,hj,fun l H6 s6 nl hl => ?_⟩⟩
      obtain ⟨p',q',xs,ys,e1,e2,e3,e4,e5,e6⟩:=fin l (thgs p.2) H6 s6 hl (un.th p hp) tl (below_of un.nd hj).symm
      exact ⟨p',q',xs,ys,e1,e2,e3,e4,e5,e6⟩
     ·refine ⟨_,rfl,.inl ⟨rfl,_,SqL.of hW5⟩,_,rfl,_,rfl,.inr ⟨b,us,rc,y,rfl,bw.bk.keep s5.tk,hy,fun l H6 s6 nl hl => ?_⟩⟩
      obtain ⟨p',q',xs,ys,e1,e2,e3,e4,e5,e6⟩:=fin l [] H6 s6 hl (fun t h=>nomatch h) (by show 0<=60; decide) (below_no hy).symm
      exact ⟨p',q',xs,ys,e1,e2,e3,e4,e5,e6⟩
    ·refine ⟨_,?_,kvs,ks,wt',_,rfl,s4,hD4,hW4,ek,knd,kU,fun z hz=>wU z (List.mem_append_left _ hz),by omega,wk.old ?_,rfl⟩
     ·rw [List.length_append]
      show 100*(41 - ks.length)+wt'.length < 100*(41 - ks.length)+(wt'.length+1)
      omega
     ·exact inks hk
   ·have hD3:=sem _ _ hD2
    have s3:=s2.trans sem
    generalize upd H2 em (.lst [])=H3 at hD3 s3 ⊢
    obtain ⟨w',y0,fo',hb,hw,hfo,hu⟩:=id bw
    have hb3:=s3 _ _ hb
    have hw3:=s3 _ _ hw
    refine ⟨_,rfl,D,kvs,rfl,hD3,fun ob C nC => ?_⟩
    have dne : ∀ {p:Addr} {o:HO},H3 p=some o->(∀ kv,o ≠ .dK kv)->p ≠ D:=fun {p o} e n z=>by rw [z,hD3] at e; cases e; exact n _ rfl
    have Cd:C ≠ D:=fun e=>by rw [e,upd_same] at nC; cases nC
    have hbF:upd H3 D (.frz ob (.dK kvs)) b=some (.tup [.ref w',y0,.ref fo']):=by rw [upd_ne (dne hb3 (fun _ z=>nomatch z))]; exact hb3
    have hwF:upd H3 D (.frz ob (.dK kvs)) w'=some (.tup (ws.map V.str)):=by rw [upd_ne (dne hw3 (fun _ z=>nomatch z))]; exact hw3
    have ekeys:kvs.map (fun kv=>kV kv.1)=ks.map V.str:=by
     have:=congrArg (List.map kV) ek
     rw [List.map_map,List.map_map] at this
     exact this
    refine comp_filt (Ys.dict upd_same) (fun v=>inV v (ws.map V.str)) (fun v u _=>u=v) (fun _ _ _ _ h _=>h) nC (by rw [List.length_map]; omega) (fun i v H' R1 R2 hv sm q1 q2 => ?_) (fun ys H5 s5 hC yl hy => ?_)
    ·rw [ekeys,List.getElem?_map] at hv
     obtain ⟨y,hy,rfl⟩:=Option.map_eq_some_iff.mp hv
     exact ⟨(Keep.refl _).set rfl,_,rfl,_,rfl,b,_,0,_,rfl,rfl,SqT.of (sm _ _ hbF),rfl,w',_,rfl,.inr (SqT.of (sm _ _ hwF)),rfl,flat_strs _,_,rfl,ite2 (fun h1=>⟨_,rfl,q1 h1 _ _ (Same.refl _) rfl⟩) (fun h1=>q2 (by simpa using h1) _ (Same.refl _))⟩
    ·rw [ekeys] at yl hy
     have ef:(ks.map V.str).filter (fun v=>inV v (ws.map V.str))=(ks.filter fun s=>inV (.str s) (ws.map V.str)).map V.str:=by rw [List.filter_map]; rfl
     rw [ef] at yl hy
     have ey:ys=(ks.filter fun s=>inV (.str s) (ws.map V.str)).map V.str:=by
      refine list_eq yl fun i x y hx hy' => ?_
      exact hy i x y hx hy'
     subst ey
     refine ⟨D,ob,kvs,s5 _ _ upd_same,(fun o u z=>by have z':H D=some (.frz o u):=z; rw [nD] at z'; cases z'),?_⟩
     have s13:Same H3 (upd H5 D (.dK kvs)):=thaw_same hD3 s5
     have hC3:upd H5 D (.dK kvs) C=some (.lst ((ks.filter fun s=>inV (.str s) (ws.map V.str)).map V.str)):=by rw [upd_ne Cd]; exact hC
     generalize upd H5 D (.dK kvs)=H6 at s13 hC3 ⊢
     refine ⟨C,_,rfl,SqL.of hC3,?_,fun p ss' pm so np=>k p ss' _ ((s3.trans s13).trans (Same.upd np)) (sm_none' (s3.trans s13) np) upd_same ⟨so,pm.nodup_iff.mpr (knd.filter _),fun y => ?_⟩ ?_⟩
     ·have:=List.length_filter_le (fun s=>inV (.str s) (ws.map V.str)) ks
      omega
     ·have w0:wt=[]:=by
       cases wt with
       | nil=>rfl
       | cons a r=>exact absurd rfl hne
      rw [w0] at wk
      rw [pm.mem_iff,List.mem_filter,wk.done y,in_strs]
      exact And.comm
     ·have:=List.length_filter_le (fun s=>inV (.str s) (ws.map V.str)) ks
      rw [pm.length_eq]
      omega
end
end K17
namespace K17
open PySem PySem.Spec PyProof.Rows L2 GM TM BQ
def RowB:Rw->Prop
 | .take a _=>SmR a
 | .parts a ps=>SmR a/\1<=ps.length/\ps.length<=4/\∀ p ∈ ps,1<=p.1/\p.1<=1000
 | .to n _=>1<=n/\n<=1000
 | .fill a _=>SmR a
def badF (l:BQ.Q):Rw->Bool
 | .fill a _=>decide (a.1*l.2 < l.1*a.2)
 | _=>false
theorem RowB.c {l:BQ.Q}{r:Rw}(h:RowB r)(k:badF l r=false):RwC l r:=by
 cases r with
 | take a x=>exact h
 | parts a ps=>exact h
 | to n x=>exact h
 | fill a x=>exact ⟨h,by have : ¬ (a.1*l.2 < l.1*a.2):=of_decide_eq_false k; omega⟩
theorem bhd_okC {l:BQ.Q}{r:Rw}{n:Nat}(h:Am l)(h1:Bt n l.1)(h2:Bt n l.2)(ok:RowB r):Am (bhd l r)/\Bt (n+40) (bhd l r).1/\Bt (n+40) (bhd l r).2:=by
 cases r with
 | take a x =>
  have ok':SmR a:=ok
  have b:=add_bt h ok'.am h1 h2 ok'.bt.1 ok'.bt.2
  exact ⟨add_am h ok'.am,b.1,b.2⟩
 | parts a ps =>
  have ok':SmR a:=ok.1
  have b:=add_bt h ok'.am h1 h2 ok'.bt.1 ok'.bt.2
  exact ⟨add_am h ok'.am,b.1,b.2⟩
 | to m x =>
  obtain ⟨m1,m2⟩:=ok
  have b:Bt 10 (m+1):=bt_of 10 (c:=1002) (by omega) (by omega)
  have p1:0<=l.1*(m+1):=Int.mul_nonneg h.t0 (by omega)
  have:=lw_bt (T:=l.1*(m+1)) (B:=l.2) (n:=n+40) p1 h.b1 ((h1.mul b).mono (by omega)) (h2.mono (by omega))
  exact ⟨lw_am p1 h.b1,this.1,this.2⟩
 | fill a x =>
  have ok':SmR a:=ok
  exact ⟨ok'.am,ok'.bt.1.mono (by omega),ok'.bt.2.mono (by omega)⟩
def lz (rs:List Rw):BQ.Q:=rs.foldl bhd (0,1)
theorem lz_snoc (rs:List Rw)(r:Rw):lz (rs ++ [r])=bhd (lz rs) r:=by unfold lz; rw [List.foldl_append]; rfl
theorem lz_take {rs:List Rw}{i:Nat}{r:Rw}(h:rs[i]?=some r):lz (rs.take (i+1))=bhd (lz (rs.take i)) r:=by rw [List.take_add_one,h]; exact lz_snoc _ _
theorem lz_ok {rs:List Rw}(h : ∀ r ∈ rs,RowB r) : ∀ i,Am (lz (rs.take i))/\Bt (40*i+40) (lz (rs.take i)).1/\Bt (40*i+40) (lz (rs.take i)).2
 | 0=>⟨am0,(bt_of 2 (c:=2) (by decide) (by decide):Bt 2 (0:Int)).mono (by decide),(bt_of 2 (c:=2) (by decide) (by decide):Bt 2 (1:Int)).mono (by decide)⟩
 | i+1=>by
  obtain ⟨a,b,c⟩:=lz_ok h i
  cases e:rs[i]? with
  | none =>
   have hl:rs.length<=i:=List.getElem?_eq_none_iff.mp e
   have:rs.take (i+1)=rs.take i:=by rw [List.take_of_length_le hl,List.take_of_length_le (by omega)]
   rw [this]
   exact ⟨a,b.mono (by omega),c.mono (by omega)⟩
  | some r =>
   rw [lz_take e]
   obtain ⟨a',b',c'⟩:=bhd_okC a b c (h r (List.mem_of_getElem? e))
   exact ⟨a',b'.mono (by omega),c'.mono (by omega)⟩
def FO (rows:List Rw):Option Nat->Prop
 | some i=>(∃ r,rows[i]?=some r/\badF (lz (rows.take i)) r=true)/\∀ j < i,∀ r,rows[j]?=some r->badF (lz (rows.take j)) r=false
 | none=>∀ j < rows.length,∀ r,rows[j]?=some r->badF (lz (rows.take j)) r=false
theorem FO.uniq {rows:List Rw}{o o':Option Nat}(h:FO rows o)(k:FO rows o'):o=o':=by
 have bad : ∀ {i j:Nat},FO rows (some i)->FO rows (some j)->¬ i < j:=fun a b lt=>by
  obtain ⟨⟨r,e,h⟩,_⟩:=a
  rw [b.2 _ lt r e] at h
  cases h
 cases o with
 | none =>
  cases o' with
  | none=>rfl
  | some j =>
   obtain ⟨⟨r,e,hb⟩,_⟩:=k
   rw [h j (List.getElem?_eq_some_iff.mp e).1 r e] at hb
   cases hb
 | some i =>
  cases o' with
  | none =>
   obtain ⟨⟨r,e,hb⟩,_⟩:=h
   rw [k i (List.getElem?_eq_some_iff.mp e).1 r e] at hb
   cases hb
  | some j =>
   have:=bad h k
   have:=bad k h
   have:i=j:=by omega
   rw [this]
def BO (rc:List (Str × List Rw)):Option (Str × Nat)->Prop
 | some (x,i)=>∃ (k:Nat) (p:Str × List Rw),rc[k]?=some p/\p.1=x/\FO p.2 (some i)/\∀ j < k,∀ q,rc[j]?=some q->FO q.2 none
 | none=>∀ j < rc.length,∀ q,rc[j]?=some q->FO q.2 none
theorem sm_cast : ∀ ps:List (Int × Str),sm ps (fun p=>(p.1:Rat))=(ptot ps:Rat)
 | []=>by show (0:Rat)=((0:Int):Rat); rfl
 | p :: r=>by
  have e:ptot (p :: r)=p.1+ptot r:=by unfold ptot; rw [List.map_cons,List.sum_cons]
  show (p.1:Rat)+sm r (fun p=>(p.1:Rat))=_
  rw [sm_cast r,e,Rat.intCast_add]
theorem rq_am {a b S n:Rat}(hS:S ≠ 0)(hb:b ≠ 0):(a*n) / (b*S)=(a / b / S)*n:=by grind
theorem rq_one {v S:Rat}(hS:S ≠ 0):v / S*S=v:=by grind
theorem add_put {l:BQ.Q}{r:Rw}(hl:Am l)(h:RwC l r)(hs : ∀ p ∈ rowQ l r,Am p.2):add l (fo (0,1) ((rowQ l r).map (·.2)))=bhd l r:=by
 have hs' : ∀ s ∈ (rowQ l r).map (·.2),Am s:=fun s hs2=>by obtain ⟨p,hp,rfl⟩:=List.mem_map.mp hs2; exact hs p hp
 have v0:=sm_fo (ss:=(rowQ l r).map (·.2)) (x:=(0,1)) hs' am0
 have af:Am (fo (0,1) ((rowQ l r).map (·.2))):=fo_am hs' am0
 have key : ∀ {z:BQ.Q},Am z->vl z=vl l+sm ((rowQ l r).map (·.2)) vl->add l (fo (0,1) ((rowQ l r).map (·.2)))=z:=fun {z} az e=>by
  refine vl_inj (add_am hl af) az ?_
  rw [vl_add hl af,v0,vl_zero,Rat.zero_add,e]
 cases r with
 | take a x =>
  have ha:SmR a:=h
  refine key (add_am hl ha.am) ?_
  rw [show bhd l (.take a x)=add l a from rfl,vl_add hl ha.am]
  show _=vl l+(vl a+0)
  rw [Rat.add_zero]
 | parts a ps =>
  obtain ⟨ha,p1,p4,hn⟩:=h
  refine key (add_am hl ha.am) ?_
  rw [show bhd l (.parts a ps)=add l a from rfl,vl_add hl ha.am]
  have S1:1<=ptot ps:=by
   cases ps with
   | nil=>exact absurd p1 (by decide)
   | cons q r =>
    have:=ptot_ge (fun p hp=>(hn p hp).1) (List.mem_cons_self (a:=q) (l:=r))
    have:=(hn q (List.mem_cons_self ..)).1
    omega
  have e:(rowQ l (.parts a ps)).map (·.2)=ps.map fun p=>lw (a.1*p.1) (a.2*ptot ps):=by unfold rowQ rowP; rw [List.map_map,List.map_map]; rfl
  rw [e,sm_map]
  have e2:sm ps (fun p=>vl (lw (a.1*p.1) (a.2*ptot ps)))=sm ps (fun p=>(vl a / (ptot ps:Rat))*(p.1:Rat)):=sm_congr fun p hp=>by
   have n1:=(hn p hp).1
   rw [vl_lw (Int.mul_nonneg ha.am.t0 (by omega)) (mul1 ha.am.b1 S1),Rat.intCast_mul,Rat.intCast_mul]
   exact rq_am (icast_ne S1) (icast_ne ha.am.b1)
  rw [e2,sm_mul,sm_cast,rq_one (icast_ne S1)]
 | to n x =>
  obtain ⟨n1,n2⟩:=h
  have p1:0<=l.1*(n+1):=Int.mul_nonneg hl.t0 (by omega)
  have p2:0<=l.1*n:=Int.mul_nonneg hl.t0 (by omega)
  refine key (lw_am p1 hl.b1) ?_
  show vl (lw (l.1*(n+1)) l.2)=vl l+(vl (lw (l.1*n) l.2)+0)
  rw [vl_lw p1 hl.b1,vl_lw p2 hl.b1,Rat.intCast_mul,Rat.intCast_mul,Rat.intCast_add]
  show _=(l.1:Rat) / (l.2:Rat)+_
  have h2:=icast_ne hl.b1
  have e1:((1:Int):Rat)=1:=rfl
  rw [e1]
  generalize (l.1:Rat)=a at *
  generalize (l.2:Rat)=b at *
  generalize (n:Rat)=m at *
  grind
 | fill a x =>
  obtain ⟨ha,le⟩:=h
  have t0:0<=a.1*l.2 - l.1*a.2:=by omega
  have b1:=mul1 ha.am.b1 hl.b1
  refine key ha.am ?_
  show vl a=_
  have vk:vl (lacks a l)=vl a - vl l:=by
   show vl (lw (a.1*l.2 - l.1*a.2) (a.2*l.2))=_
   rw [vl_lw t0 b1,Rat.intCast_mul,show ((a.1*l.2 - l.1*a.2:Int):Rat)=(a.1:Rat)*(l.2:Rat) - (l.1:Rat)*(a.2:Rat) by rw [Rat.intCast_sub,Rat.intCast_mul,Rat.intCast_mul]]
   show _=(a.1:Rat) / (a.2:Rat) - (l.1:Rat) / (l.2:Rat)
   have h2:=icast_ne hl.b1
   have h3:=icast_ne ha.am.b1
   generalize (l.1:Rat)=q1 at *
   generalize (l.2:Rat)=q2 at *
   generalize (a.1:Rat)=q3 at *
   generalize (a.2:Rat)=q4 at *
   grind
  have er:rowQ l (.fill a x)=if 0 < (lacks a l).1 then [(x,lacks a l)] else []:=by
   have e:rowP 0 l (.fill a x)=if 0 < (lacks a l).1 then [((0:Int),x,lacks a l)] else []:=rfl
   unfold rowQ
   rw [e]
   split <;> rfl
  rw [er]
  by_cases c:0 < (lacks a l).1
  ·rw [if_pos c]
   show vl a=vl l+(vl (lacks a l)+0)
   rw [vk]
   grind
  ·rw [if_neg c]
   show vl a=vl l+0
   have am:=lacks_am ha.am hl le
   have:(lacks a l).1=0:=by have:=am.t0; omega
   have v:vl (lacks a l)=0:=by
    have z : ¬ 0 < vl (lacks a l):=fun p=>by have:=(vl_pos am).mp p; omega
    have nn:=vl_nn am
    grind
   rw [vk] at v
   grind
end K17
namespace K17
open PySem PySem.Spec PyProof.Rows L2 GM TM BQ TR RH
structure Rk (rc:List (Str × List Rw))(rk:Str->Nat):Prop where
 lt : ∀ x t,t ∈ belowF rc x->rk t < rk x
 le : ∀ x,rk x<=20
structure WayD (rc:List (Str × List Rw))(x y:Str)(way:List Str):Prop where
 h0:way[0]?=some x
 h1 : ∃ w',way=w' ++ [y]
 ch:Chn (belowF rc) way
 l2:2<=way.length
 ll:way.length<=21
def spWay:Sp:=fun vs H Q _=>∃ (b:Addr) (ws:List Str) (us:List V) (rc:List (Str × List Rw)) (U:List Str) (x y:Str) (rk:Str->Nat),vs=[.ref b,.str x,.str y]/\BwV H b ws us rc/\Unv rc U/\y ∈ ws/\x ≠ y/\Rch (belowF rc) x y/\Rk rc rk/\∀ l way H',Same H H'->H l=none->H' l=some (.lst (way.map V.str))->WayD rc x y way->Q (.ref l) H'
theorem filt_str (q:V->Bool)(ys:List Str):(ys.map V.str).filter q=(ys.filter fun y=>q (.str y)).map V.str:=by
 rw [List.filter_map]
 rfl
open Classical in
noncomputable def rchV (rc:List (Str × List Rw))(y:Str)(v:V):Bool:=match v with | .str t=>decide (Rch (belowF rc) t y) | _=>false
open Classical in
theorem rchV_t {rc:List (Str × List Rw)}{t y:Str}(h:Rch (belowF rc) t y):rchV rc y (.str t)=true:=decide_eq_true h
open Classical in
theorem rchV_f {rc:List (Str × List Rw)}{t y:Str}(h : ¬ Rch (belowF rc) t y):rchV rc y (.str t)=false:=decide_eq_false h
open Classical in
theorem rchV_of {rc:List (Str × List Rw)}{t y:Str}(h:rchV rc y (.str t)=true):Rch (belowF rc) t y:=of_decide_eq_true h
section
variable {P:Program}{w:World}{K:PySem.W.Frag}{mg:Str->Option Value}{base:Heap}
theorem ndTWB:(["thing","ware","book"]:List Str).Nodup:=by decide +kernel
abbrev Nway:List Str:=["book","recipe","ware","way"]
theorem scWay:FnScope Nway ["book","recipe","ware"] (defScope sWay):=⟨rfl,rfl,rfl,by decide +kernel,rfl,by decide +kernel,by decide +kernel⟩
theorem ok_way {f:Addr}{fd:FuncData}(F:Fun K "way_down" "way_down" sWay f fd)(cT:Cal P w K mg base CX0 3 "things_of" ["book","name"] spThof)(cW:Cal P w K mg base CX0 3 "wares_of" ["book","thing"] spWof):FnOk P w K mg base CX0 4 f fd ["book","recipe","ware"] spWay:=by
 refine F.ok scWay (fun vs H Q E h => ?_) (fun cdv A outer s H vs Q E hr h => ?_)
 ·obtain ⟨_,_,_,_,_,_,_,_,rfl,_⟩:=h
  rfl
 ·obtain ⟨b,ws,us,rc,U,x,y,rk,rfl,bw,un,yw,xy,rxy,hrk,k⟩:=h
  refine ⟨_,(pss_cons (ps_set (i:=3) scWay.nd rfl (Or.inl rfl) (pe_lst (pa_cons (pv 1) pa_nil)))
   (pss_cons (ps_while PassesOwn.never (pt_cmpR op_ne (pe_ix ix_list (pv 3) (pe_un un_neg pe_int) (fun _ _=>rfl)) (pv 2) (nomark _))
    (pss_one (ps_expr (pe_bm PySem.F.plainAttrs_list PySem.F.slot_list_append PySem.F.type_list_append mt_append (pv 3) (pa_cons (pe_ix ix_list (pe_compC (N':=["thing","ware","book"]) (fun σ=>[none,some 2,some 0].map fun t=>t.bind fun j=>(σ[j]?).join) rfl rfl (by decide +kernel) (by decide +kernel)
     (hk_of (sc:=defScope sWay) rfl (by decide +kernel)) (fun _ _ _=>blkN_by (sc:=defScope sWay) (N:=Nway) [none,some 2,some 0] rfl rfl rfl rfl (by decide +kernel))
     (pi_list (pe_cal cT hr rfl pass0 (pa_cons (pv 0) (pa_cons (pe_ix ix_list (pv 3) (pe_un un_neg pe_int) (fun _ _=>rfl)) pa_nil)))) (fun _ _ _ _ _ _=>pg_name (i:=0) ndTWB rfl (Or.inl rfl))
     (fun _ _ _ _ _ _=>pifs_one (pt_cmpR (op_inK (K:=K) rfl) (pv 1) (pe_cal cW hr rfl pass0 (pa_cons (pv 2) (pa_cons (pv 0) pa_nil))) rfl))
     (fun _ _ _ _ _ _=>pv 0)) pe_int (fun _ _=>rfl)) pa_nil)))))
   (pss_one (ps_ret (pv 3))))),?_⟩
  refine ⟨_,rfl,(by show 1<=sizeLine; decide),fun W nW => ?_⟩
  have sW:=Same.upd (o:=.lst [.str x]) nW
  have hW:upd H W (.lst [.str x]) W=some (.lst (([] ++ [x]).map V.str)):=upd_same
  generalize upd H W (.lst [.str x])=H1 at sW hW ⊢
  refine ⟨fun m σ H'=>∃ (way:List Str) (z:Str),σ=[some (.ref b),some (.str x),some (.str y),some (.ref W)]/\m=rk z/\Same H H'/\H' W=some (.lst ((way ++ [z]).map V.str))/\(way ++ [z])[0]?=some x/\Chn (belowF rc) (way ++ [z])/\Rch (belowF rc) z y/\way.length+rk z<=20/\(way=[]->z=x),⟨_,[],x,rfl,rfl,sW,hW,rfl,Chn.one,rxy,by have:=hrk.le x; simpa using this,fun _=>rfl⟩,?_⟩
  intro m σ H2 hh
  obtain ⟨way,z,rfl,rfl,s2,hW2,w0,ch,rzy,wl,wz⟩:=hh
  have ela:(way ++ [z]).map V.str=way.map V.str ++ [V.str z]:=by simp
  have alast:atI ((way ++ [z]).map V.str) (-1)=some (.str z):=by rw [ela]; exact atI_last _ _
  have wl1:(way ++ [z]).length=way.length+1:=by rw [List.length_append]; rfl
  refine ⟨_,rfl,_,rfl,W,_,-1,.str z,rfl,rfl,SqL.of hW2,alast,_,rfl,rfl,_,rfl,ite2 (fun hne => ?_) (fun hne => ?_)⟩
  ·have zy:z ≠ y:=fun e=>by rw [e] at hne; simp at hne
   obtain ⟨t0,ht0,rt0⟩:=rzy.next zy
   have zr:z ∈ rc.map (·.1):=by
    by_cases h:z ∈ rc.map (·.1)
    ·exact h
    ·rw [below_no h] at ht0; cases ht0
   obtain ⟨p,hp,rfl⟩:=List.mem_map.mp zr
   obtain ⟨j,hj⟩:=List.getElem?_of_mem hp
   have eb:=below_of un.nd hj
   refine ⟨_,fun _ _ h=>h,?_⟩
   refine ⟨_,rfl,.inl ⟨rfl,_,SqL.of hW2⟩,_,rfl,_,rfl,_,rfl,W,_,-1,.str p.1,rfl,rfl,SqL.of hW2,alast,b,us,rc,j,p,rfl,bw.bk.keep s2.tk,un.nd,un.r,hj,fun l H3 s3 nl hl=>⟨l,rfl,⟨_,SqL.of hl⟩,fun D nD => ?_⟩⟩
   have pr:=un.r.rw p hp
   have tl:=thgs_len (rs:=p.2) pr.2
   refine comp_filt (Ys.list (SqL.of hl)) (rchV rc y) (fun u v _=>v=u) (fun _ _ _ _ h _=>h) nD (by rw [List.length_map]; omega) (fun i v H' R1 R2 hv sm r1 r2 => ?_) (fun ys H4 s4 hD yl hy => ?_)
   ·rw [List.getElem?_map] at hv
    obtain ⟨t,ht,rfl⟩:=Option.map_eq_some_iff.mp hv
    have s02:=(s2.trans s3).trans sm
    refine ⟨(Keep.refl _).set rfl,_,rfl,_,rfl,_,rfl,b,ws,us,rc,t,U,rfl,bw.keep s02.tk,un,un.th p hp t (List.mem_of_getElem? ht),fun q zs H5 s5 nq hq wlz _ => ?_⟩
    refine ⟨q,_,rfl,.inl (SqL.of hq),rfl,flat_strs _,_,rfl,ite2 (fun h1 => ?_) (fun h1 => ?_)⟩
    ·exact ⟨_,rfl,r1 (rchV_t ((wlz.mm y).mp (in_strs.mp h1)).2) _ _ s5 rfl⟩
    ·exact r2 (rchV_f fun hm=>by rw [in_strs.mpr ((wlz.mm y).mpr ⟨yw,hm⟩)] at h1; exact h1 rfl) _ s5
   have ey:ys=((thgs p.2).filter fun t=>rchV rc y (.str t)).map V.str:=by
    refine list_eq (by rw [yl,filt_str]) fun i x y' hx hy' => ?_
    exact hy i x y' (by rw [filt_str]; exact hx) hy'
   subst ey
   have t0m:t0 ∈ (thgs p.2).filter fun t=>rchV rc y (.str t):=List.mem_filter.mpr ⟨by rw [<- eb]; exact ht0,rchV_t rt0⟩
   cases ef:(thgs p.2).filter fun t=>rchV rc y (.str t) with
   | nil=>rw [ef] at t0m; cases t0m
   | cons t r =>
    rw [ef] at hD
    have tm:t ∈ (thgs p.2).filter fun t=>rchV rc y (.str t):=by rw [ef]; exact List.mem_cons_self ..
    obtain ⟨tm1,tm2⟩:=List.mem_filter.mp tm
    have rt:Rch (belowF rc) t y:=rchV_of tm2
    rw [<- eb] at tm1
    have s24:=s3.trans s4
    have s04:=s2.trans s24
    have hW4:=s24 _ _ hW2
    have lt:=hrk.lt _ _ tm1
    refine ⟨D,_,0,.str t,rfl,rfl,SqL.of hD,atI_nat (j:=0) rfl,W,_,_,rfl,rfl,hW4,small1000 (by rw [List.length_map,wl1]; omega),?_⟩
    refine ⟨rk t,lt,way ++ [p.1],t,rfl,rfl,sm_own' s04 nW,by rw [upd_same]; simp,?_,ch.snoc tm1,rt,by rw [wl1]; omega,fun e=>by simp at e⟩
    rw [List.getElem?_append_left (by omega)]
    exact w0
  ·have zy:z=y:=by simpa using hne
   subst zy
   have wn:way ≠ []:=fun e=>xy (wz e).symm
   have w1:1<=way.length:=by
    cases way with
    | nil=>exact absurd rfl wn
    | cons=>exact Nat.succ_le_succ (Nat.zero_le _)
   exact ⟨_,rfl,k W (way ++ [z]) H2 s2 nW hW2 ⟨w0,⟨way,rfl⟩,ch,by omega,by omega⟩⟩
end
end K17
namespace K17
open PySem PySem.Spec PyProof.Rows L2 GM TM
open BQ TR RH
def tw:List Str->List Str->Option Str
 | _,[]=>none
 | acc,x :: r=>if x ∈ acc then some x else tw (acc ++ [x]) r
def nmsB (b:Bs):List Str:=b.ws ++ b.rs.map (·.1)
def pnames (ps:List (Str × Str)):List Str:=ps.flatMap fun p=>[p.1,p.2]
def lackW (ws:List Str)(x:Str):Bool:=decide (x ∉ ws)
def thn (nms:List Str):List (Str × List Rw)->Option (Str × Str)
 | []=>none
 | p :: r=>match (thgs p.2).find? (lackW nms) with
  | some x=>some (x,p.1)
  | none=>thn nms r
def selfP (p:Str × Str):Bool:=decide (p.1=p.2)
theorem tw_at (acc l:List Str)(i:Nat)(h : ∀ j < i,∀ x,l[j]?=some x->x ∉ acc ++ l.take j):tw acc l=tw (acc ++ l.take i) (l.drop i):=by
 induction i with
 | zero=>simp
 | succ i ih =>
  have:=ih fun j hj x hx=>h j (by omega) x hx
  rw [this]
  by_cases hi:i < l.length
  ·rw [List.drop_eq_getElem_cons hi]
   have e:l.take (i+1)=l.take i ++ [l[i]]:=by rw [List.take_add_one,List.getElem?_eq_getElem hi]; rfl
   have n:=h i (Nat.lt_succ_self i) l[i] (List.getElem?_eq_getElem hi)
   show (if l[i] ∈ acc ++ l.take i then _ else _)=_
   rw [if_neg n,e,List.append_assoc]
  ·rw [List.drop_of_length_le (by omega),List.drop_of_length_le (by omega)]
   rfl
theorem tw_hit {acc l:List Str}{i:Nat}{x:Str}(h : ∀ j < i,∀ x,l[j]?=some x->x ∉ acc ++ l.take j)(hx:l[i]?=some x)(hm:x ∈ acc ++ l.take i):tw acc l=some x:=by
 rw [tw_at acc l i h]
 have hi:=(List.getElem?_eq_some_iff.mp hx).1
 rw [List.drop_eq_getElem_cons hi]
 have e:l[i]=x:=(List.getElem?_eq_some_iff.mp hx).2
 show (if l[i] ∈ acc ++ l.take i then _ else _)=_
 rw [e,if_pos hm]
theorem tw_end {acc l:List Str}(h : ∀ j < l.length,∀ x,l[j]?=some x->x ∉ acc ++ l.take j):tw acc l=none:=by
 rw [tw_at acc l l.length h,List.drop_length]
 rfl
theorem tw_nd : ∀ {l acc:List Str},acc.Nodup->tw acc l=none->(acc ++ l).Nodup
 | [],acc,h,_=>by simpa using h
 | x :: r,acc,h,e=>by
  unfold tw at e
  split at e
  ·cases e
  ·rename_i n
   have:(acc ++ [x]).Nodup:=List.nodup_append.mpr ⟨h,by simp,fun a ha b hb z=>n (by rw [List.mem_singleton.mp hb] at z; rw [<- z]; exact ha)⟩
   have:=tw_nd this e
   rwa [List.append_assoc] at this
theorem find_hit {α:Type}{l:List α}{f:α->Bool}{i:Nat}{x:α}(h : ∀ j < i,∀ y,l[j]?=some y->f y=false)(hx:l[i]?=some x)(hf:f x=true):l.find? f=some x:=by
 induction l generalizing i with
 | nil=>simp at hx
 | cons a r ih =>
  cases i with
  | zero =>
   simp at hx
   subst hx
   rw [List.find?_cons_of_pos hf]
  | succ i =>
   have ha:=h 0 (by omega) a rfl
   rw [List.find?_cons_of_neg (by rw [ha]; decide)]
   exact ih (i:=i) (fun j hj y hy=>h (j+1) (by omega) y (by simpa using hy)) (by simpa using hx)
theorem find_none {α:Type}{l:List α}{f:α->Bool}(h : ∀ j < l.length,∀ y,l[j]?=some y->f y=false):l.find? f=none:=by
 rw [List.find?_eq_none]
 intro x hx
 obtain ⟨i,hi⟩:=List.getElem?_of_mem hx
 rw [h i (List.getElem?_eq_some_iff.mp hi).1 x hi]
 decide
theorem pn_none {f:Str->Bool} : ∀ {ps:List (Str × Str)},(∀ p ∈ ps,f p.1=false/\f p.2=false)->(pnames ps).find? f=none
 | [],_=>rfl
 | p :: r,h=>by
  have hp:=h p (by simp)
  show ([p.1,p.2] ++ pnames r).find? f=none
  rw [List.find?_append,pn_none fun q hq=>h q (List.mem_cons_of_mem _ hq)]
  simp [hp.1,hp.2]
theorem pn_hit {f:Str->Bool}{x:Str} : ∀ {ps:List (Str × Str)} {i:Nat} {p:Str × Str},(∀ j < i,∀ q,ps[j]?=some q->f q.1=false/\f q.2=false)->ps[i]?=some p->[p.1,p.2].find? f=some x->(pnames ps).find? f=some x
 | [],i,p,_,hp,_=>by simp at hp
 | a :: r,0,p,_,hp,hf=>by
  simp at hp
  subst hp
  show ([a.1,a.2] ++ pnames r).find? f=_
  rw [List.find?_append,hf]
  rfl
 | a :: r,i+1,p,h,hp,hf=>by
  have ha:=h 0 (by omega) a rfl
  show ([a.1,a.2] ++ pnames r).find? f=_
  rw [List.find?_append,show [a.1,a.2].find? f=none by simp [ha.1,ha.2]]
  exact pn_hit (i:=i) (fun j hj q hq=>h (j+1) (by omega) q (by simpa using hq)) (by simpa using hp) hf
theorem thn_hit {nms:List Str}{x:Str} : ∀ {rc:List (Str × List Rw)} {i:Nat} {p:Str × List Rw},(∀ j < i,∀ q,rc[j]?=some q->(thgs q.2).find? (lackW nms)=none)->rc[i]?=some p->(thgs p.2).find? (lackW nms)=some x->thn nms rc=some (x,p.1)
 | [],i,p,_,hp,_=>by simp at hp
 | a :: r,0,p,_,hp,hf=>by
  simp at hp
  subst hp
  show (match (thgs a.2).find? (lackW nms) with | some x=>some (x,a.1) | none=>thn nms r)=_
  rw [hf]
 | a :: r,i+1,p,h,hp,hf=>by
  show (match (thgs a.2).find? (lackW nms) with | some x=>some (x,a.1) | none=>thn nms r)=_
  rw [h 0 (by omega) a rfl]
  exact thn_hit (i:=i) (fun j hj q hq=>h (j+1) (by omega) q (by simpa using hq)) (by simpa using hp) hf
structure BkO (b:Bs):Prop where
 w:b.ws.length<=20
 p:b.ps.length<=20
 r:RcS b.rs
 nw : ∀ x ∈ nmsB b,x.length<=100
 np : ∀ q ∈ b.ps,q.1.length<=100/\q.2.length<=100
 nt : ∀ q ∈ b.rs,∀ y ∈ thgs q.2,y.length<=100
theorem BookV.bk {H:Hp}{v:V}{b:Bs}(h:BookV H v b) : ∃ (z a0 a1 a2:Addr) (u1 u2:List V),v = .ref z/\H z=some (.tup [.ref a0,.ref a1,.ref a2])/\H a0=some (.tup (b.ws.map V.str))/\H a1=some (.tup u1)/\L2R (PairV H) u1 b.ps/\BkV H z u2 b.rs:=by
 obtain ⟨z,a0,a1,a2,u1,u2,rfl,hz,h0,h1,l1,h2,l2⟩:=h
 exact ⟨z,a0,a1,a2,u1,u2,rfl,hz,h0,h1,l1,_,_,a2,hz,h2,l2⟩
theorem BookV.keepS {H H':Hp}{v:V}{b:Bs}(s:Same H H')(h:BookV H v b):BookV H' v b:=by
 obtain ⟨z,a0,a1,a2,u1,u2,rfl,hz,h0,h1,l1,h2,l2⟩:=h
 exact ⟨z,a0,a1,a2,u1,u2,rfl,s _ _ hz,s _ _ h0,s _ _ h1,l1.imp fun _ _ x=>x.keep s,s _ _ h2,l2.imp fun _ _ x=>RecV.tk s.tk x⟩
theorem in_b {x:Str}{ws:List Str}:inV (.str x) (ws.map V.str)=decide (x ∈ ws):=by
 by_cases h:x ∈ ws
 ·rw [decide_eq_true h]; exact in_strs.mpr h
 ·rw [decide_eq_false h]
  cases e:inV (.str x) (ws.map V.str) with
  | false=>rfl
  | true=>exact absurd (in_strs.mp e) h
def spRTw:Sp:=fun vs H Q E=>∃ (v:V) (b:Bs),vs=[v]/\BookV H v b/\BkO b/\tw [] (nmsB b)=none/\∀ H',Same H H'->Q .non H'
def spRNn:Sp:=fun vs H Q E=>∃ (v:V) (b:Bs),vs=[v]/\BookV H v b/\BkO b/\tw [] (nmsB b)=none/\(pnames b.ps).find? (lackW b.ws)=none/\thn (nmsB b) b.rs=none/\∀ H',Same H H'->Q .non H'
def spRNp:Sp:=fun vs H Q E=>∃ (v:V) (b:Bs),vs=[v]/\BookV H v b/\BkO b/\b.ps.find? selfP=none/\∀ H',Same H H'->Q .non H'
def spFOv:Sp:=fun vs H Q _=>∃ (q:Addr) (us:List V) (rows:List Rw),vs=[.ref q]/\H q=some (.tup us)/\L2R (RowV H) us rows/\rows.length<=6/\(∀ r ∈ rows,RowB r)/\(∀ i H',Same H H'->i < 6->FO rows (some i)->Q (.int (i:Nat)) H')/\(∀ H',Same H H'->FO rows none->Q .non H')
def spROv0:Sp:=fun vs H Q E=>∃ (v:V) (b:Bs),vs=[v]/\BookV H v b/\b.rs.length<=12/\(∀ p ∈ b.rs,p.1.length<=100/\p.2.length<=6/\∀ r ∈ p.2,RowB r)/\BO b.rs none/\∀ H',Same H H'->Q .non H'
def Mts (rc:List (Str × List Rw))(x:Str)(p:Str × Str):Prop:=Rch (belowF rc) x p.1/\Rch (belowF rc) x p.2
def FM (rc:List (Str × List Rw))(ps:List (Str × Str)):Option (Str × Str × Str)->Prop
 | none=>∀ q ∈ rc,∀ p ∈ ps,¬ Mts rc q.1 p
 | some (x,a,d)=>∃ (i:Nat) (q:Str × List Rw) (j:Nat) (p:Str × Str),rc[i]?=some q/\q.1=x/\ps[j]?=some p/\p.1=a/\p.2=d/\Mts rc q.1 p/\(∀ i' < i,∀ q',rc[i']?=some q'->∀ p ∈ ps,¬ Mts rc q'.1 p)/\∀ j' < j,∀ p',ps[j']?=some p'->¬ Mts rc q.1 p'
theorem FM.uniq {rc:List (Str × List Rw)}{ps:List (Str × Str)}{o o':Option (Str × Str × Str)}(h:FM rc ps o)(k:FM rc ps o'):o=o':=by
 match o,o',h,k with
 | none,none,_,_=>rfl
 | none,some (x,a,d),h,⟨i,q,j,p,hq,_,hp,_,_,m,_⟩=>exact absurd m (h q (List.mem_of_getElem? hq) p (List.mem_of_getElem? hp))
 | some (x,a,d),none,⟨i,q,j,p,hq,_,hp,_,_,m,_⟩,h=>exact absurd m (h q (List.mem_of_getElem? hq) p (List.mem_of_getElem? hp))
 | some (x,a,d),some (x',a',d'),⟨i,q,j,p,hq,e1,hp,e2,e3,m,n1,n2⟩,⟨i',q',j',p',hq',e1',hp',e2',e3',m',n1',n2'⟩ =>
  have ei:i=i':=by
   rcases Nat.lt_trichotomy i i' with z | z | z
   ·exact absurd m (n1' i z q hq p (List.mem_of_getElem? hp))
   ·exact z
   ·exact absurd m' (n1 i' z q' hq' p' (List.mem_of_getElem? hp'))
  subst ei
  rw [hq] at hq'
  cases hq'
  have ej:j=j':=by
   rcases Nat.lt_trichotomy j j' with z | z | z
   ·exact absurd m (n2' j z p hp)
   ·exact z
   ·exact absurd m' (n2 j' z p' hp')
  subst ej
  rw [hp] at hp'
  cases hp'
  rw [<- e1,<- e2,<- e3,<- e1',<- e2',<- e3']
def spRMe (c:Addr):Sp:=fun vs H Q E=>∃ (v:V) (b:Bs) (U:List Str) (rk:Str->Nat),vs=[v]/\BookV H v b/\Unv b.rs U/\(∀ x ∈ b.rs.map (·.1),x ∈ U)/\(∀ p ∈ b.rs,p.1 ∉ b.ws)/\b.rs.length<=12/\b.ps.length<=20/\(∀ p ∈ b.rs,p.1.length<=100)/\(∀ p ∈ b.ps,p.1.length<=100/\p.2.length<=100)/\(∀ p ∈ b.ps,p.1 ∈ b.ws/\p.2 ∈ b.ws)/\Rk b.rs rk/\(FM b.rs b.ps none->∀ H',Same H H'->Q .non H')/\(∀ x a d w1 w2,FM b.rs b.ps (some (x,a,d))->WayD b.rs x a w1->WayD b.rs x d w2->Bad5 c x a d w1 w2 H E)
structure BkM (ws rs:List Str)(t:Int)(b:Bs):Prop where
 o:BkO b
 ew:b.ws=ws
 bt:BkT ws rs t b.rs
 rw : ∀ p ∈ b.rs,p.1.length<=100/\p.2.length<=6/\∀ r ∈ p.2,RowB r
 bo:BO b.rs none
 tn:thn (nmsB b) b.rs=none
 pw : ∀ p ∈ b.ps,p.1 ∈ ws/\p.2 ∈ ws/\p.1 ≠ p.2
theorem BkM.dis {ws rs:List Str}{t:Int}{b:Bs}(h:BkM ws rs t b) : ∀ p ∈ b.rs,p.1 ∉ b.ws:=fun p hp hw=>by
 have:p.1 ∈ rs:=by rw [<- h.bt.nm]; exact List.mem_map.mpr ⟨p,hp,rfl⟩
 exact (List.nodup_append.mp h.bt.nd).2.2 p.1 (by rw [<- h.ew]; exact hw) p.1 this rfl
theorem BkM.enm {ws rs:List Str}{t:Int}{b:Bs}(h:BkM ws rs t b):nmsB b=ws ++ rs:=by unfold nmsB; rw [h.ew,h.bt.nm]
theorem BkM.unv {ws rs:List Str}{t:Int}{b:Bs}(bl:BkM ws rs t b):Unv b.rs (nmsB b):=by
 refine ⟨bl.o.r,bl.bt.names,by unfold nmsB; rw [List.length_append,List.length_map]; have:=bl.o.w; have:=bl.o.r.ln; omega,fun p hp y hy => ?_⟩
 obtain ⟨j,hj⟩:=List.getElem?_of_mem hp
 rw [bl.enm]
 rcases bl.bt.tg j p hj y hy with h | ⟨k',hk,_⟩
 ·exact List.mem_append_left _ h
 ·exact List.mem_append_right _ (List.mem_of_getElem? hk)
theorem rk_of {rc:List (Str × List Rw)}{ws xs:List Str}(f:Full rc ws xs)(dis : ∀ p ∈ rc,p.1 ∉ ws)(l:xs.length<=12):Rk rc fun x=>if x ∈ xs then xs.idxOf x+1 else 0:=by
 have xw : ∀ x ∈ xs,x ∉ ws:=fun x hx=>by
  obtain ⟨p,hp,rfl⟩:=List.mem_map.mp (f.sub x hx)
  exact dis p hp
 refine ⟨fun x t ht => ?_,fun x => ?_⟩
 ·have xr:x ∈ rc.map (·.1):=by
   by_cases h:x ∈ rc.map (·.1)
   ·exact h
   ·rw [below_no h] at ht; cases ht
  obtain ⟨p,hp,rfl⟩:=List.mem_map.mp xr
  have hx:=f.all p hp
  have il:xs.idxOf p.1 < xs.length:=List.idxOf_lt_length_of_mem hx
  show (if t ∈ xs then xs.idxOf t+1 else 0) < (if p.1 ∈ xs then xs.idxOf p.1+1 else 0)
  rw [if_pos hx]
  rcases f.ord (xs.idxOf p.1) p.1 (by rw [List.getElem?_eq_getElem il,List.getElem_idxOf il]) t ht with a | a
  ·rw [if_neg fun z=>xw t z a]
   omega
  ·obtain ⟨m,hm⟩:=List.getElem?_of_mem a
   have ml:m < xs.idxOf p.1:=by
    have:=(List.getElem?_eq_some_iff.mp hm).1
    rw [List.length_take] at this
    omega
   rw [List.getElem?_take_of_lt ml] at hm
   obtain ⟨m2,e2⟩:=List.getElem?_eq_some_iff.mp hm
   have e3:xs.idxOf t=m:=by rw [<- e2]; exact f.nd.idxOf_getElem m m2
   rw [if_pos (List.mem_of_getElem? hm),e3]
   omega
 ·show (if x ∈ xs then xs.idxOf x+1 else 0)<=20
  split
  ·have:=List.idxOf_lt_length_of_mem (by assumption:x ∈ xs)
   omega
  ·omega
def spLooked (c:Addr):Sp:=fun vs H Q E=>∃ (v:V) (b:Bs) (ws rs:List Str) (t:Int),vs=[v]/\BookV H v b/\BkM ws rs t b/\(FM b.rs b.ps none->∀ l (xs:List Str) H',Same H H'->H l=none->H' l=some (.lst (xs.map V.str))->Full b.rs b.ws xs->OrdE b.rs b.ws xs->Q (.ref l) H')/\(∀ x a d w1 w2,FM b.rs b.ps (some (x,a,d))->WayD b.rs x a w1->WayD b.rs x d w2->Bad5 c x a d w1 w2 H E)
theorem rowQ_sz {l:BQ.Q}{r:Rw}(hl:BQ.Am l)(l1:Bt 300 l.1)(l2:Bt 300 l.2)(h:RwC l r):(rowQ l r).length<=4/\∀ p ∈ rowQ l r,BQ.Am p.2/\Bt 400 p.2.1/\Bt 400 p.2.2:=by
 cases r with
 | take a x =>
  have ha:SmR a:=h
  exact ⟨(by decide:1<=4),fun p hp=>by rw [List.mem_singleton.mp hp]; exact ⟨ha.am,ha.bt.1.mono (by decide),ha.bt.2.mono (by decide)⟩⟩
 | parts a ps =>
  obtain ⟨ha,p1,p4,hn⟩:=h
  have S1:1<=ptot ps:=by
   cases ps with
   | nil=>exact absurd p1 (by decide)
   | cons q r =>
    have:=ptot_ge (fun p hp=>(hn p hp).1) (List.mem_cons_self (a:=q) (l:=r))
    have:=(hn q (List.mem_cons_self ..)).1
    omega
  have S4:=ptot_leK fun p hp=>(hn p hp).2
  have e:rowQ l (.parts a ps)=ps.map fun p=>(p.2,lw (a.1*p.1) (a.2*ptot ps)):=by unfold rowQ rowP; rw [List.map_map]; rfl
  rw [e]
  refine ⟨by rw [List.length_map]; exact p4,fun p hp => ?_⟩
  obtain ⟨q,hq,rfl⟩:=List.mem_map.mp hp
  have n1:=hn q hq
  have t0:0<=a.1*q.1:=Int.mul_nonneg ha.am.t0 (by omega)
  have c1:=BQ.mul1 ha.am.b1 S1
  have b:=lw_bt (n:=400) t0 c1 ((ha.bt.1.mul (bt_of 10 (c:=1024) (by omega) (by omega):Bt 10 q.1)).mono (by decide)) ((ha.bt.2.mul (bt_of 12 (c:=4096) (by omega) (by omega):Bt 12 (ptot ps))).mono (by decide))
  exact ⟨lw_am t0 c1,b.1,b.2⟩
 | to n x =>
  obtain ⟨n1,n2⟩:=h
  have t0:0<=l.1*n:=Int.mul_nonneg hl.t0 (by omega)
  have b:=lw_bt (n:=400) t0 hl.b1 ((l1.mul (bt_of 10 (c:=1024) (by omega) (by omega):Bt 10 n)).mono (by decide)) (l2.mono (by decide))
  refine ⟨(by decide:1<=4),fun p hp => ?_⟩
  have e:p=(x,lw (l.1*n) l.2):=List.mem_singleton.mp hp
  rw [e]
  exact ⟨lw_am t0 hl.b1,b.1,b.2⟩
 | fill a x =>
  obtain ⟨ha,le⟩:=h
  have er:rowQ l (.fill a x)=if 0 < (lacks a l).1 then [(x,lacks a l)] else []:=by
   have e:rowP 0 l (.fill a x)=if 0 < (lacks a l).1 then [((0:Int),x,lacks a l)] else []:=rfl
   unfold rowQ
   rw [e]
   split <;> rfl
  have t0:0<=a.1*l.2 - l.1*a.2:=by omega
  have c1:=BQ.mul1 ha.am.b1 hl.b1
  have l0:=Int.mul_nonneg hl.t0 (show 0<=a.2 by have:=ha.am.b1; omega)
  have b:=lw_bt (n:=400) t0 c1 (((ha.bt.1.mul l2).mono (by decide):Bt 400 (a.1*l.2)).le t0 (by omega)) ((ha.bt.2.mul l2).mono (by decide))
  rw [er]
  split
  ·exact ⟨(by decide:1<=4),fun p hp=>by rw [List.mem_singleton.mp hp]; exact ⟨lacks_am ha.am hl le,b.1,b.2⟩⟩
  ·exact ⟨Nat.zero_le _,fun p hp=>nomatch hp⟩
section
variable {P:Program}{w:World}{K:PySem.W.Frag}{mg:Str->Option Value}{base:Heap}{cP c0 c1 c2 c3 c4 c5 c6 c7 c8 f5:Addr}
theorem scRTw:FnScope ["book","told","name"] ["book"] (defScope sRTw):=⟨rfl,rfl,rfl,by decide +kernel,rfl,by decide +kernel,by decide +kernel⟩
theorem ok_rtw {f:Addr}{fd:FuncData}(F:Fun K "refuse_twice" "refuse_twice" sRTw f fd)(T:Txt mg)(cR:Cal P w K mg base CX0 2 "recipe_names" ["book"] spRnm):FnOk P w K mg base CX0 3 f fd ["book"] spRTw:=by
 refine F.ok scRTw (fun vs H Q E h => ?_) (fun cdv A outer s H vs Q E hr h => ?_)
 ·obtain ⟨_,_,rfl,_⟩:=h
  rfl
 ·obtain ⟨v,b,rfl,bv,bo,hT,kG⟩:=h
  refine ⟨_,(pss_cons (ps_set (i:=1) scRTw.nd rfl (Or.inl rfl) pe_dnewK)
   (pss_one (ps_for PassesOwn.never rfl (pi_list (pe_op op_cat (pe_callTy call_list_of rfl T.list' bt_list (pa_cons (pit 0 0) pa_nil)) (pe_cal cR hr rfl pass0 (pa_cons (pv 0) pa_nil)))) (pg_name (i:=2) scRTw.nd rfl (Or.inl rfl))
    (pss_cons (ps_if (pt_cmp (pc_din (hu_of hr) (pv 2) (pv 1)))
    pss_no
    pss_nil)
   (pss_one (ps_dput (hu_of hr) (pv 1) (pv 2) pe_bl rfl)))))),?_⟩
  obtain ⟨z,a0,a1,a2,u1,u2,rfl,hz,h0,h1,l1,bk⟩:=bv.bk
  refine fun D nD => ?_
  have sD:=Same.upd (o:=.dK []) nD
  have b1:=bo.w
  have b2:=bo.r.ln
  refine ⟨z,_,_,rfl,SqT.of (sD _ _ hz),rfl,a0,_,rfl,.inr (SqT.of (sD _ _ h0)),fun l1' n1 => ?_⟩
  have s1:=Same.upd (o:=.lst (b.ws.map V.str)) n1
  refine ⟨_,rfl,z,u2,b.rs,rfl,bk.keep (sD.trans s1).tk,b2,fun L H3 s3 nL hL => ?_⟩
  refine ⟨l1',L,_,_,rfl,rfl,s3 _ _ upd_same,hL,by rw [List.length_map,List.length_map,List.length_map]; exact sz1000 (by omega),fun p np => ?_⟩
  have sp:=Same.upd (o:=.lst (b.ws.map V.str ++ (b.rs.map (·.1)).map V.str)) np
  have hp:upd H3 p (.lst (b.ws.map V.str ++ (b.rs.map (·.1)).map V.str)) p=some (.lst ((nmsB b).map V.str)):=by rw [upd_same,<- List.map_append]; rfl
  have s04:=((sD.trans s1).trans s3).trans sp
  have hD4:=((s1.trans s3).trans sp) _ _ (upd_same (H:=H) (a:=D) (o:=.dK []))
  have pD:p ≠ D:=fun e=>by rw [e,(s1.trans s3) _ _ (upd_same (H:=H) (a:=D) (o:=.dK []))] at np; cases np
  generalize upd H3 p (.lst (b.ws.map V.str ++ (b.rs.map (·.1)).map V.str))=H4 at hp s04 hD4 ⊢
  refine ⟨p,rfl,⟨_,SqL.of hp⟩,?_⟩
  refine for_list (xs:=(nmsB b).map V.str) (fun i σ H'=>∃ (v2:Option V) (kvs:List (Key × V)),σ=[some (.ref z),some (.ref D),v2]/\Same H H'/\H' p=some (.lst ((nmsB b).map V.str))/\H' D=some (.dK kvs)/\kvs.length<=i/\(∀ y:Str,(valV kvs (.inr y)).isSome=decide (y ∈ (nmsB b).take i))/\∀ j < i,∀ x,(nmsB b)[j]?=some x->x ∉ [] ++ (nmsB b).take j)
   ⟨none,[],rfl,s04,hp,hD4,Nat.zero_le _,fun y=>by rw [show valV ([]:List (Key × V)) (Sum.inr y)=none from rfl]; simp,fun j h=>absurd h (by omega)⟩ (fun i σ H' _ hh=>by obtain ⟨_,_,_,_,h,_⟩:=hh; exact SqL.of h) ?_ ?_
  ·intro i x0 σ H5 hx0 hh
   obtain ⟨v2,kvs,rfl,s5,hp5,hD5,kl,kv,nh⟩:=hh
   rw [List.getElem?_map] at hx0
   obtain ⟨x,hx,rfl⟩:=Option.map_eq_some_iff.mp hx0
   have lx:x.length<=100:=bo.nw x (List.mem_of_getElem? hx)
   have il:=(List.getElem?_eq_some_iff.mp hx).1
   have nl:(nmsB b).length<=40:=by unfold nmsB; rw [List.length_append,List.length_map]; omega
   refine ⟨_,rfl,_,rfl,D,_,rfl,DGet.k (k:=.inr x) hD5,?_⟩
   rw [kv x]
   refine ⟨_,rfl,ite2 (fun hin => ?_) (fun hin => ?_)⟩
   ·have hm:x ∈ (nmsB b).take i:=of_decide_eq_true hin
    have:=tw_hit nh hx (show x ∈ [] ++ (nmsB b).take i by simpa using hm)
    rw [hT] at this
    cases this
   ·have hm:x ∉ (nmsB b).take i:=of_decide_eq_false (by simpa using hin)
    refine ⟨_,rfl,_,rfl,D,_,rfl,DPut.k (k:=.inr x) hD5 (small1000 (by omega)),?_⟩
    refine ⟨_,putK kvs (.inr x) (.bl true),rfl,sm_own' s5 nD,by rw [upd_ne pD]; exact hp5,upd_same,Nat.le_trans (length_putK _ _ _) (by omega),fun y => ?_,fun j hj y hy => ?_⟩
    ·rw [valV_put,List.take_add_one,hx]
     by_cases e:y=x
     ·subst e; simp
     ·rw [if_neg (fun z=>e (Sum.inr.inj z)),kv y]
      simp [e]
    ·by_cases e:j=i
     ·subst e; rw [hx] at hy; cases hy; simpa using hm
     ·exact nh j (by omega) y hy
  ·intro σ H5 hh
   obtain ⟨v2,kvs,rfl,s5,_,_,_,_,nh⟩:=hh
   rw [List.length_map] at nh
   exact kG _ s5
theorem scRNp:FnScope ["book","one","other"] ["book"] (defScope sRNp):=⟨rfl,rfl,rfl,by decide +kernel,rfl,by decide +kernel,by decide +kernel⟩
theorem ok_rnp {f:Addr}{fd:FuncData}(F:Fun K "refuse_no_pair" "refuse_no_pair" sRNp f fd):FnOk P w K mg base CX0 3 f fd ["book"] spRNp:=by
 refine F.ok scRNp (fun vs H Q E h => ?_) (fun cdv A outer s H vs Q E hr h => ?_)
 ·obtain ⟨_,_,rfl,_⟩:=h
  rfl
 ·obtain ⟨v,b,rfl,bv,bo,hP,kG⟩:=h
  refine ⟨_,(pss_one (ps_for PassesOwn.never rfl (pi_tup (pit 0 1)) (pg_tup rfl (pgs_cons (pg_name (i:=1) scRNp.nd rfl (Or.inl rfl)) (pgs_cons (pg_name (i:=2) scRNp.nd rfl (Or.inl rfl)) pgs_nil)))
    (pss_one (ps_if (pt_cmpR op_eq (pv 1) (pv 2) (nomark _))
    pss_no
    pss_nil)))),?_⟩
  obtain ⟨z,a0,a1,a2,u1,u2,rfl,hz,h0,h1,l1,bk⟩:=bv.bk
  refine ⟨z,_,_,rfl,SqT.of hz,rfl,a1,rfl,⟨_,SqT.of h1⟩,?_⟩
  refine for_tup (xs:=u1) (fun i σ H'=>∃ v1 v2:Option V,σ=[some (.ref z),v1,v2]/\H'=H/\∀ j < i,∀ q,b.ps[j]?=some q->selfP q=false) ⟨none,none,rfl,rfl,fun j h=>absurd h (by omega)⟩ (fun i σ H' _ hh=>by obtain ⟨_,_,_,rfl,_⟩:=hh; exact SqT.of h1) ?_ ?_
  ·intro i u σ H5 hu hh
   obtain ⟨v1,v2,rfl,rfl,nh⟩:=hh
   obtain ⟨q,hq,zz,rfl,hzz⟩:=l1.get hu
   have lq:=bo.np q (List.mem_of_getElem? hq)
   refine ⟨zz,_,rfl,SqT.of hzz,rfl,_,_,rfl,_,_,rfl,rfl,?_⟩
   refine ⟨_,rfl,_,rfl,rfl,_,rfl,ite2 (fun he => ?_) (fun he => ?_)⟩
   ·have e:q.1=q.2:=by simpa using he
    have:=find_hit (f:=selfP) nh hq (decide_eq_true e)
    rw [hP] at this
    cases this
   ·have e:q.1 ≠ q.2:=by simpa using he
    refine ⟨_,_,rfl,rfl,fun j hj y hy => ?_⟩
    by_cases ej:j=i
    ·subst ej; rw [hq] at hy; cases hy; exact decide_eq_false e
    ·exact nh j (by omega) y hy
  ·intro σ H5 hh
   obtain ⟨v1,v2,rfl,rfl,nh⟩:=hh
   rw [l1.len] at nh
   exact kG _ (Same.refl _)
theorem scRNn:FnScope ["book","pair","name","told","recipe","thing"] ["book"] (defScope sRNn):=⟨rfl,rfl,rfl,by decide +kernel,rfl,by decide +kernel,by decide +kernel⟩
theorem ok_rnn {f:Addr}{fd:FuncData}(F:Fun K "refuse_no_name" "refuse_no_name" sRNn f fd)(T:Txt mg)(cR:Cal P w K mg base CX0 2 "recipe_names" ["book"] spRnm)(cT:Cal P w K mg base CX0 2 "things_of" ["book","name"] spThof):FnOk P w K mg base CX0 3 f fd ["book"] spRNn:=by
 refine F.ok scRNn (fun vs H Q E h => ?_) (fun cdv A outer s H vs Q E hr h => ?_)
 ·obtain ⟨_,_,rfl,_⟩:=h
  rfl
 ·obtain ⟨v,b,rfl,bv,bo,ht,hP,hN,kG⟩:=h
  refine ⟨_,(pss_cons (ps_for PassesOwn.never rfl (pi_tup (pit 0 1)) (pg_name (i:=1) scRNn.nd rfl (Or.inl rfl))
    (pss_one (ps_for PassesOwn.never rfl (pi_tup (pv 1)) (pg_name (i:=2) scRNn.nd rfl (Or.inl rfl))
    (pss_one (ps_if (pt_cmpR op_notIn_seq (pv 2) (pit 0 0) rfl)
    pss_no
    pss_nil)))))
   (pss_cons (ps_set (i:=3) scRNn.nd rfl (Or.inl rfl) (pe_op op_cat (pe_callTy call_list_of rfl T.list' bt_list (pa_cons (pit 0 0) pa_nil)) (pe_cal cR hr rfl pass0 (pa_cons (pv 0) pa_nil))))
   (pss_one (ps_for PassesOwn.never rfl (pi_list (pe_cal cR hr rfl pass0 (pa_cons (pv 0) pa_nil))) (pg_name (i:=4) scRNn.nd rfl (Or.inl rfl))
    (pss_one (ps_for PassesOwn.never rfl (pi_list (pe_cal cT hr rfl pass0 (pa_cons (pv 0) (pa_cons (pv 4) pa_nil)))) (pg_name (i:=5) scRNn.nd rfl (Or.inl rfl))
    (pss_one (ps_if (pt_cmpR op_notIn_seq (pv 5) (pv 3) rfl)
    pss_no
    pss_nil)))))))),?_⟩
  obtain ⟨z,a0,a1,a2,u1,u2,rfl,hz,h0,h1,l1,bk⟩:=bv.bk
  have fl : ∀ ws:List Str,(ws.map V.str).all flatV=true:=fun ws=>List.all_eq_true.mpr fun x hx=>by obtain ⟨y,_,rfl⟩:=List.mem_map.mp hx; rfl
  have b1:=bo.w
  have b2:=bo.r.ln
  refine ⟨z,_,_,rfl,SqT.of hz,rfl,a1,rfl,⟨_,SqT.of h1⟩,?_⟩
  refine for_tup (xs:=u1) (fun i σ H'=>∃ v1 v2:Option V,σ=[some (.ref z),v1,v2,none,none,none]/\H'=H/\∀ j < i,∀ q,b.ps[j]?=some q->lackW b.ws q.1=false/\lackW b.ws q.2=false) ⟨none,none,rfl,rfl,fun j h=>absurd h (by omega)⟩ (fun i σ H' _ hh=>by obtain ⟨_,_,_,rfl,_⟩:=hh; exact SqT.of h1) ?_ ?_
  ·intro i u σ H5 hu hh
   obtain ⟨v1,v2,rfl,rfl,nh⟩:=hh
   obtain ⟨q,hq,zz,rfl,hzz⟩:=l1.get hu
   have lq:=bo.np q (List.mem_of_getElem? hq)
   refine ⟨_,rfl,zz,rfl,⟨_,SqT.of hzz⟩,?_⟩
   refine for_tup (xs:=[.str q.1,.str q.2]) (fun i' σ H'=>∃ v2:Option V,σ=[some (.ref z),some (.ref zz),v2,none,none,none]/\H'=H5/\∀ j < i',∀ x,[q.1,q.2][j]?=some x->lackW b.ws x=false) ⟨_,rfl,rfl,fun j h=>absurd h (by omega)⟩ (fun i σ H' _ hh=>by obtain ⟨_,_,rfl,_⟩:=hh; exact SqT.of hzz) ?_ ?_
   ·intro i' x0 σ H6 hx0 hh
    obtain ⟨w2,rfl,rfl,nh'⟩:=hh
    have hx':([q.1,q.2].map V.str)[i']?=some x0:=hx0
    rw [List.getElem?_map] at hx'
    obtain ⟨x,hx,rfl⟩:=Option.map_eq_some_iff.mp hx'
    have lx:x.length<=100:=by
     have:=List.mem_of_getElem? hx
     simp only [List.mem_cons,List.not_mem_nil,or_false] at this
     rcases this with rfl | rfl
     ·exact lq.1
     ·exact lq.2
    refine ⟨_,rfl,z,_,_,rfl,SqT.of hz,rfl,a0,_,rfl,.inr (SqT.of h0),rfl,fl _,_,rfl,?_⟩
    rw [in_b]
    refine ite2 (fun hn => ?_) (fun hn => ?_)
    ·have hl:lackW b.ws x=true:=by
      have:(!decide (x ∈ b.ws))=true:=hn
      unfold lackW
      simpa using this
     have:=pn_hit nh hq (find_hit nh' hx hl)
     rw [hP] at this
     cases this
    ·have hl:lackW b.ws x=false:=by
      have : ¬ (!decide (x ∈ b.ws))=true:=hn
      unfold lackW
      simpa using this
     refine ⟨_,rfl,rfl,fun j hj y hy => ?_⟩
     by_cases ej:j=i'
     ·subst ej; rw [hx] at hy; cases hy; exact hl
     ·exact nh' j (by omega) y hy
   ·intro σ H6 hh
    obtain ⟨w2,rfl,rfl,nh'⟩:=hh
    refine ⟨_,_,rfl,rfl,fun j hj y hy => ?_⟩
    by_cases ej:j=i
    ·subst ej; rw [hq] at hy; cases hy
     exact ⟨nh' 0 (by show 0 < 2; decide) _ rfl,nh' 1 (by show 1 < 2; decide) _ rfl⟩
    ·exact nh j (by omega) y hy
  ·intro σ H5 hh
   obtain ⟨v1,v2,rfl,rfl,nh⟩:=hh
   rw [l1.len] at nh
   have pn:(pnames b.ps).find? (lackW b.ws)=none:=pn_none fun q hq=>by
    obtain ⟨j,hj⟩:=List.getElem?_of_mem hq
    exact nh j (List.getElem?_eq_some_iff.mp hj).1 q hj
   have nd:(b.rs.map (·.1)).Nodup:=by
    have:=tw_nd (acc:=[]) List.nodup_nil ht
    rw [List.nil_append] at this
    exact (List.nodup_append.mp this).2.1
   refine ⟨z,_,_,rfl,SqT.of hz,rfl,a0,_,rfl,.inr (SqT.of h0),fun l1' n1 => ?_⟩
   have s1:=Same.upd (o:=.lst (b.ws.map V.str)) n1
   refine ⟨_,rfl,z,u2,b.rs,rfl,bk.keep s1.tk,b2,fun L H3 s3 nL hL => ?_⟩
   refine ⟨l1',L,_,_,rfl,rfl,s3 _ _ upd_same,hL,by rw [List.length_map,List.length_map,List.length_map]; exact sz1000 (by omega),fun p np => ?_⟩
   have sp:=Same.upd (o:=.lst (b.ws.map V.str ++ (b.rs.map (·.1)).map V.str)) np
   have hp:upd H3 p (.lst (b.ws.map V.str ++ (b.rs.map (·.1)).map V.str)) p=some (.lst ((nmsB b).map V.str)):=by rw [upd_same,<- List.map_append]; rfl
   have s04:=(s1.trans s3).trans sp
   generalize upd H3 p (.lst (b.ws.map V.str ++ (b.rs.map (·.1)).map V.str))=H4 at hp s04 ⊢
   refine ⟨_,rfl,z,u2,b.rs,rfl,bk.keep s04.tk,b2,fun L2 H5 s5 nL2 hL2 => ?_⟩
   have s05:=s04.trans s5
   refine ⟨L2,rfl,⟨_,SqL.of hL2⟩,?_⟩
   refine for_list (xs:=(b.rs.map (·.1)).map V.str) (fun i σ H'=>∃ v4 v5:Option V,σ=[some (.ref z),v1,v2,some (.ref p),v4,v5]/\Same H5 H'/\∀ j < i,∀ q,b.rs[j]?=some q->(thgs q.2).find? (lackW (nmsB b))=none) ⟨none,none,rfl,Same.refl _,fun j h=>absurd h (by omega)⟩ (fun i σ H' _ hh=>by obtain ⟨_,_,_,sm,_⟩:=hh; exact SqL.of (sm _ _ hL2)) ?_ ?_
   ·intro i x σ H6 hx hh
    obtain ⟨v4,v5,rfl,s6,nh6⟩:=hh
    rw [List.getElem?_map,List.getElem?_map] at hx
    obtain ⟨x',hx',rfl⟩:=Option.map_eq_some_iff.mp hx
    obtain ⟨q,hq,rfl⟩:=Option.map_eq_some_iff.mp hx'
    have qm:=List.mem_of_getElem? hq
    have lq:q.1.length<=100:=bo.nw q.1 (List.mem_append_right _ (List.mem_map.mpr ⟨q,qm,rfl⟩))
    refine ⟨_,rfl,_,rfl,z,u2,b.rs,i,q,rfl,bk.keep (s05.trans s6).tk,nd,bo.r,hq,fun l H7 s7 nl hl => ?_⟩
    refine ⟨l,rfl,⟨_,SqL.of hl⟩,?_⟩
    refine for_list (xs:=(thgs q.2).map V.str) (fun i' σ H'=>∃ v5:Option V,σ=[some (.ref z),v1,v2,some (.ref p),some (.str q.1),v5]/\H'=H7/\∀ j < i',∀ y,(thgs q.2)[j]?=some y->lackW (nmsB b) y=false) ⟨_,rfl,rfl,fun j h=>absurd h (by omega)⟩ (fun i σ H' _ hh=>by obtain ⟨_,_,rfl,_⟩:=hh; exact SqL.of hl) ?_ ?_
    ·intro i' y0 σ H8 hy0 hh
     obtain ⟨w5,rfl,rfl,nh7⟩:=hh
     rw [List.getElem?_map] at hy0
     obtain ⟨y,hy,rfl⟩:=Option.map_eq_some_iff.mp hy0
     have ly:=bo.nt q qm y (List.mem_of_getElem? hy)
     have hp8:H8 p=some (.lst ((nmsB b).map V.str)):=((s5.trans s6).trans s7) _ _ hp
     refine ⟨_,rfl,_,rfl,p,_,rfl,.inl (SqL.of hp8),rfl,fl _,_,rfl,?_⟩
     rw [in_b]
     refine ite2 (fun hn => ?_) (fun hn => ?_)
     ·have hl:lackW (nmsB b) y=true:=by
       have:(!decide (y ∈ nmsB b))=true:=hn
       unfold lackW
       simpa using this
      have:=thn_hit nh6 hq (find_hit nh7 hy hl)
      rw [hN] at this
      cases this
     ·have hl:lackW (nmsB b) y=false:=by
       have : ¬ (!decide (y ∈ nmsB b))=true:=hn
       unfold lackW
       simpa using this
      refine ⟨_,rfl,rfl,fun j hj y' hy' => ?_⟩
      by_cases ej:j=i'
      ·subst ej; rw [hy] at hy'; cases hy'; exact hl
      ·exact nh7 j (by omega) y' hy'
    ·intro σ H8 hh
     obtain ⟨w5,rfl,rfl,nh7⟩:=hh
     rw [List.length_map] at nh7
     refine ⟨_,_,rfl,s6.trans s7,fun j hj y hy => ?_⟩
     by_cases ej:j=i
     ·subst ej; rw [hq] at hy; cases hy; exact find_none nh7
     ·exact nh6 j (by omega) y hy
   ·intro σ H6 hh
    obtain ⟨v4,v5,rfl,s6,nh6⟩:=hh
    rw [List.length_map,List.length_map] at nh6
    exact kG _ (s05.trans s6)
theorem scFOv:FnScope ["rows","lies","place","row"] ["rows"] (defScope sFOv):=⟨rfl,rfl,rfl,by decide +kernel,rfl,by decide +kernel,by decide +kernel⟩
theorem ok_fov {f aN:Addr}{fd:FuncData}(F:Fun K "first_over" "first_over" sFOv f fd)(T:Txt mg)(mN:mg "NOUGHT" = some (.ref aN))(sN : ∀ H:Hp,SqT K H aN [.int 0,.int 1])(cL:Cal P w K mg base CX0 5 "less" ["one","other"] (spLess K))(cP:Cal P w K mg base CX0 5 "plus" ["one","other"] (spPlus K))(cW:Cal P w K mg base CX0 5 "whole" ["one"] (spWholeL K))(cB:Cal P w K mg base CX0 5 "put_by" ["row","lies"] (spPutBy K)):FnOk P w K mg base CX0 6 f fd ["rows"] spFOv:=by
 refine F.ok scFOv (fun vs H Q E h => ?_) (fun cdv A outer s H vs Q E hr h => ?_)
 ·obtain ⟨_,_,_,rfl,_⟩:=h
  rfl
 ·obtain ⟨q,us,rows,rfl,hq,lr,l6,rb,k1,k2⟩:=h
  refine ⟨_,(pss_cons (ps_set (i:=1) scFOv.nd rfl (Or.inl rfl) (pe_glob (v:=.ref aN) rfl mN rfl))
   (pss_cons (ps_for PassesOwn.never rfl (pi_enumT rfl T.enum' (pa_cons (pv 0) pa_nil)) (pg_tup rfl (pgs_cons (pg_name (i:=2) scFOv.nd rfl (Or.inl rfl)) (pgs_cons (pg_name (i:=3) scFOv.nd rfl (Or.inl rfl)) pgs_nil)))
    (pss_cons (ps_if (PW.pt (pw_and (pt_cmpR op_eq (pit 3 0) pe_str (nomark _)) (pw_and1 (pt_val (pe_cal cL hr rfl pass0 (pa_cons (pit 3 1) (pa_cons (pv 1) pa_nil)))))))
     (pss_one (ps_ret (pv 2)))
     pss_nil)
    (pss_one (ps_set (i:=1) scFOv.nd rfl (Or.inl rfl) (pe_cal cP hr rfl pass0 (pa_cons (pv 1) (pa_cons (pe_cal cW hr rfl pass0 (pa_cons (pe_cal cB hr rfl pass0 (pa_cons (pv 3) (pa_cons (pv 1) pa_nil))) pa_nil)) pa_nil)))))))
   (pss_one (ps_ret pe_non)))),?_⟩
  have ul:=lr.len
  refine ⟨_,rfl,q,rfl,⟨_,SqT.of hq⟩,?_⟩
  refine for_enumT (ys:=us) (fun i σ H'=>∃ (m:Addr) (v2 v3:Option V),σ=[some (.ref q),some (.ref m),v2,v3]/\Same H H'/\SqT K H' m [.int (lz (rows.take i)).1,.int (lz (rows.take i)).2]/\∀ j < i,∀ r,rows[j]?=some r->badF (lz (rows.take j)) r=false)
   ⟨aN,none,none,rfl,Same.refl _,sN _,fun j h=>absurd h (by omega)⟩ (fun i σ H' _ hh=>by obtain ⟨_,_,_,_,sm,_⟩:=hh; exact SqT.of (sm _ _ hq)) ?_ ?_
  ·intro i v T' σ H1 hv nT hh
   obtain ⟨m,v2,v3,rfl,s1,hm,nh⟩:=hh
   obtain ⟨r,hr',rv⟩:=lr.get hv
   have il:i < rows.length:=(List.getElem?_eq_some_iff.mp hr').1
   have rbr:=rb r (List.mem_of_getElem? hr')
   have sT:=Same.upd (o:=.tup [.int (i:Nat),v]) nT
   have s2:=s1.trans sT
   have hm2:=sT.tup hm
   refine ⟨T',_,rfl,SqT.of upd_same,rfl,_,_,rfl,_,_,rfl,rfl,?_⟩
   generalize upd H1 T' (.tup [.int (i:Nat),v])=H2 at sT s2 hm2 ⊢
   obtain ⟨la,lb1,lb2⟩:=lz_ok rb i
   have lb1':Bt 300 (lz (rows.take i)).1:=lb1.mono (by omega)
   have lb2':Bt 300 (lz (rows.take i)).2:=lb2.mono (by omega)
   have lsz:Sz (lz (rows.take i)):=⟨la,lb1'.mono (by decide),lb2'.mono (by decide)⟩
   have rv2:=rv.keep s2.tk
   refine seq_nx (fun σ' H'=>σ'=[some (.ref q),some (.ref m),some (.int (i:Nat)),some v]/\H2=H'/\badF (lz (rows.take i)) r=false) ?_ (fun N hN => ?_)
   ·intro σ' H' hh
    obtain ⟨rfl,rfl,nb⟩:=hh
    have rc:=rbr.c nb
    obtain ⟨q4,qa⟩:=rowQ_sz la lb1' lb2' rc
    refine ⟨_,rfl,_,rfl,_,rfl,v,m,_,r,rfl,rv2,hm2,la,lb1'.mono (by decide),lb2'.mono (by decide),rc,fun z vs' H3 s3 nz hz hp => ?_⟩
    have hsA : ∀ s ∈ (rowQ (lz (rows.take i)) r).map (·.2),BQ.Am s/\Bt 400 s.1/\Bt 400 s.2:=fun s hs=>by
     obtain ⟨p,hp',rfl⟩:=List.mem_map.mp hs
     exact qa p hp'
    have hsum:=fo_sz (by rw [List.length_map]; exact q4) hsA
    refine ⟨z,vs',rowQ (lz (rows.take i)) r,rfl,SqL.of hz,hp,fun p hp'=>sz400 (qa p hp').1 (qa p hp').2.1 (qa p hp').2.2,hsum,fun g H4 s4 hg => ?_⟩
    have hw:=hsum (rowQ (lz (rows.take i)) r).length
    rw [List.take_of_length_le (by rw [List.length_map]; exact Nat.le_refl _)] at hw
    refine ⟨m,g,_,_,_,_,rfl,tw_mk ((s3.trans s4).tup hm2) hg lsz hw,fun g2 H5 s5 hg2 => ?_⟩
    refine ⟨g2,_,_,rfl,((s2.trans s3).trans s4).trans s5,?_,fun j hj r' hr2 => ?_⟩
    ·rw [lz_take hr',<- add_put la rc (fun p hp'=>(qa p hp').1)]
     exact hg2
    ·by_cases e:j=i
     ·subst e; rw [hr'] at hr2; cases hr2; exact nb
     ·exact nh j (by omega) r' hr2
   ·cases rv2 with
    | @take p ma a x hp ha=>exact ⟨p,_,_,rfl,SqT.of hp,rfl,rfl,_,rfl,iteF (iteF (hN _ _ ⟨rfl,rfl,rfl⟩))⟩
    | @to p n x hp=>exact ⟨p,_,_,rfl,SqT.of hp,rfl,rfl,_,rfl,iteF (iteF (hN _ _ ⟨rfl,rfl,rfl⟩))⟩
    | @parts p ma pq a pus ps hp ha hpq hps=>exact ⟨p,_,_,rfl,SqT.of hp,rfl,rfl,_,rfl,iteF (iteF (hN _ _ ⟨rfl,rfl,rfl⟩))⟩
    | @fill p ma a x hp ha =>
     have oa:SmR a:=rbr
     refine ⟨p,_,_,rfl,SqT.of hp,rfl,rfl,_,rfl,iteT ⟨p,_,_,rfl,SqT.of hp,rfl,_,rfl,ma,m,a.1,a.2,_,_,rfl,tw_mk (SqT.of ha) hm2 (sm_sz oa) lsz,_,rfl,ite2 (fun hb => ?_) (fun hb=>hN _ _ ⟨rfl,rfl,?_⟩)⟩⟩
     ·refine ⟨_,rfl,k1 i H2 s2 (by omega) ⟨⟨_,hr',?_⟩,nh⟩⟩
      exact hb
     ·cases e:badF (lz (rows.take i)) (.fill a x) with
      | false=>rfl
      | true=>exact absurd e hb
  ·intro σ H1 hh
   obtain ⟨m,v2,v3,rfl,s1,_,nh⟩:=hh
   rw [ul] at nh
   exact k2 H1 s1 nh
theorem scROv:FnScope ["book","name","rows","place"] ["book"] (defScope sROv):=⟨rfl,rfl,rfl,by decide +kernel,rfl,by decide +kernel,by decide +kernel⟩
theorem ok_rov0 {f:Addr}{fd:FuncData}(F:Fun K "refuse_over" "refuse_over" sROv f fd)(cF:Cal P w K mg base CX0 6 "first_over" ["rows"] spFOv):FnOk P w K mg base CX0 7 f fd ["book"] spROv0:=by
 refine F.ok scROv (fun vs H Q E h => ?_) (fun cdv A outer s H vs Q E hr h => ?_)
 ·obtain ⟨_,_,rfl,_⟩:=h
  rfl
 ·obtain ⟨v,b,rfl,bv,r12,rw',bo,kG⟩:=h
  refine ⟨_,(pss_one (ps_for PassesOwn.never rfl (pi_tup (pit 0 2)) (pg_tup rfl (pgs_cons (pg_name (i:=1) scROv.nd rfl (Or.inl rfl)) (pgs_cons (pg_name (i:=2) scROv.nd rfl (Or.inl rfl)) pgs_nil)))
    (pss_cons (ps_set (i:=3) scROv.nd rfl (Or.inl rfl) (pe_cal cF hr rfl pass0 (pa_cons (pv 2) pa_nil)))
    (pss_one (ps_if (pt_cmpR op_notN (pv 3) pe_non (nomark _))
     pss_no
     pss_nil))))),?_⟩
  obtain ⟨z,a0,a1,a2,u1,u2,rfl,hz,h0,h1,l1,h2,l2⟩:=id bv
  refine ⟨z,_,_,rfl,SqT.of hz,rfl,a2,rfl,⟨_,SqT.of h2⟩,?_⟩
  refine for_tup (xs:=u2) (fun i σ H'=>∃ v1 v2 v3:Option V,σ=[some (.ref z),v1,v2,v3]/\Same H H') ⟨none,none,none,rfl,Same.refl _⟩ (fun i σ H' _ hh=>by obtain ⟨_,_,_,_,sm⟩:=hh; exact SqT.of (sm _ _ h2)) ?_ ?_
  ·intro i u σ H1 hu hh
   obtain ⟨v1,v2,v3,rfl,s1⟩:=hh
   obtain ⟨q,hq,zz,rq,us,rfl,hzz,hrq,lr⟩:=l2.get hu
   obtain ⟨q1,q6,qb⟩:=rw' q (List.mem_of_getElem? hq)
   have fq:=bo i (List.getElem?_eq_some_iff.mp hq).1 q hq
   refine ⟨zz,_,rfl,SqT.of (s1 _ _ hzz),rfl,_,_,rfl,_,_,rfl,rfl,?_⟩
   refine ⟨_,rfl,rq,us,q.2,rfl,s1 _ _ hrq,lr.imp fun _ _ x=>RowV.keep s1.tk x,q6,qb,fun n H2 s2 n6 fo => ?_,fun H2 s2 fo => ?_⟩
   ·cases fo.uniq fq
   ·exact ⟨_,rfl,rfl,_,rfl,iteF ⟨_,_,_,rfl,s1.trans s2⟩⟩
  ·intro σ H1 hh
   obtain ⟨v1,v2,v3,rfl,s1⟩:=hh
   exact kG _ s1
theorem scRMe:FnScope ["book","name","wares","one","other"] ["book"] (defScope sRMe):=⟨rfl,rfl,rfl,by decide +kernel,rfl,by decide +kernel,by decide +kernel⟩
theorem ok_rme {f:Addr}{fd fdI:FuncData}(F:Fun K "refuse_meet" "refuse_meet" sRMe f fd)(R:ErM K mg cP c0 c1 c2 c3 c4 c5 c6 c7 c8 f5)(FI:FnOk P w K mg base CX0 4 f5 fdI ["self","recipe","one","other","ways"] (spI5 c5))(bI:Binds K fdI ["self","recipe","one","other","ways"] [])(cR:Cal P w K mg base CX0 5 "recipe_names" ["book"] spRnm)(cW:Cal P w K mg base CX0 5 "wares_of" ["book","thing"] spWof)(cY:Cal P w K mg base CX0 5 "way_down" ["book","recipe","ware"] spWay):FnOk P w K mg base (CXg P w) 6 f fd ["book"] (spRMe c5):=by
 refine F.okF scRMe (fun vs H Q E h => ?_) (fun cdv A outer s H vs Q E hr h => ?_)
 ·obtain ⟨_,_,_,_,rfl,_⟩:=h
  rfl
 ·obtain ⟨v,b,U,rk,rfl,bv,un,nU,dis,r12,p20,nl,pl,pw,hrk,kG,kB⟩:=h
  refine ⟨_,(pss_one (ps_for PassesOwn.leaving rfl (pi_list (pe_cal cR hr rfl pass0 (pa_cons (pv 0) pa_nil))) (pg_name (i:=1) scRMe.nd rfl (Or.inl rfl))
    (pss_cons (ps_set (i:=2) scRMe.nd rfl (Or.inl rfl) (pe_cal cW hr rfl pass0 (pa_cons (pv 0) (pa_cons (pv 1) pa_nil))))
    (pss_one (ps_for PassesOwn.leaving rfl (pi_tup (pit 0 1)) (pg_tup rfl (pgs_cons (pg_name (i:=3) scRMe.nd rfl (Or.inl rfl)) (pgs_cons (pg_name (i:=4) scRMe.nd rfl (Or.inl rfl)) pgs_nil)))
     (pss_one (ps_if (PW.pt (pw_and (pt_cmpR op_in_seq (pv 3) (pv 2) rfl) (pw_and1 (pt_cmpR op_in_seq (pv 4) (pv 2) rfl))))
      (pss_one (ps_raiseI (k:=4) rfl xe_f rfl (hr.mono (by decide)) rfl R.m5 R.e5.i FI bI (pa_cons (pv 1) (pa_cons (pv 3) (pa_cons (pv 4) (pa_cons (pe_tup (pa_cons (pe_cal cY hr rfl pass0 (pa_cons (pv 0) (pa_cons (pv 1) (pa_cons (pv 3) pa_nil)))) (pa_cons (pe_cal cY hr rfl pass0 (pa_cons (pv 0) (pa_cons (pv 1) (pa_cons (pv 4) pa_nil)))) pa_nil))) pa_nil))))))
      pss_nil))))))),?_⟩
  obtain ⟨z,a0,a1,a2,u1,u2,rfl,hz,h0,h1,l1,h2,l2⟩:=id bv
  have bk:BkV H z u2 b.rs:=⟨_,_,a2,hz,h2,l2⟩
  refine ⟨_,rfl,z,u2,b.rs,rfl,bk,r12,fun L H1 s1 nL hL => ?_⟩
  refine ⟨L,rfl,⟨_,SqL.of hL⟩,?_⟩
  refine for_list (xs:=(b.rs.map (·.1)).map V.str) (fun i σ H'=>∃ v1 v2 v3 v4:Option V,σ=[some (.ref z),v1,v2,v3,v4]/\Same H1 H'/\∀ i' < i,∀ q,b.rs[i']?=some q->∀ p ∈ b.ps,¬ Mts b.rs q.1 p) ⟨none,none,none,none,rfl,Same.refl _,fun i' h=>absurd h (by omega)⟩ (fun i σ H' _ hh=>by obtain ⟨_,_,_,_,_,sm,_⟩:=hh; exact SqL.of (sm _ _ hL)) ?_ ?_
  ·intro i x0 σ H2 hx0 hh
   obtain ⟨v1,v2,v3,v4,rfl,s2,ni⟩:=hh
   rw [List.getElem?_map,List.getElem?_map] at hx0
   obtain ⟨x,hx,rfl⟩:=Option.map_eq_some_iff.mp hx0
   obtain ⟨q,hq,rfl⟩:=Option.map_eq_some_iff.mp hx
   have qm:=List.mem_of_getElem? hq
   have s02:=s1.trans s2
   have bwK : ∀ {H'},Same H H'->BwV H' z b.ws u2 b.rs:=fun {H'} s=>⟨a0,_,a2,s _ _ hz,s _ _ h0,s _ _ h2,l2.imp fun _ _ y=>RecV.tk s.tk y⟩
   refine ⟨_,rfl,_,rfl,z,b.ws,u2,b.rs,q.1,U,rfl,bwK s02,un,nU q.1 (List.mem_map_of_mem qm),fun l ys H3 s3 nl' hl wl _ => ?_⟩
   have s03:=s02.trans s3
   refine ⟨z,_,_,rfl,SqT.of (s03 _ _ hz),rfl,a1,rfl,⟨_,SqT.of (s03 _ _ h1)⟩,?_⟩
   refine for_tup (xs:=u1) (fun j σ H'=>∃ v3 v4:Option V,σ=[some (.ref z),some (.str q.1),some (.ref l),v3,v4]/\H3=H'/\∀ j' < j,∀ p,b.ps[j']?=some p->¬ Mts b.rs q.1 p) ⟨_,_,rfl,rfl,fun j' h=>absurd h (by omega)⟩ (fun j σ H' _ hh=>by obtain ⟨_,_,_,rfl,_⟩:=hh; exact SqT.of (s03 _ _ h1)) ?_ ?_
   ·intro j u σ H4 hu hh
    obtain ⟨v3',v4',rfl,rfl,nj⟩:=hh
    obtain ⟨p,hp,zz,rfl,hzz⟩:=l1.get hu
    have pm:=List.mem_of_getElem? hp
    obtain ⟨pw1,pw2⟩:=pw p pm
    have nx : ¬ Mts b.rs q.1 p->∃ v3 v4:Option V,[some (.ref z),some (.str q.1),some (.ref l),some (.str p.1),some (.str p.2)]=[some (.ref z),some (.str q.1),some (.ref l),v3,v4]/\H3=H3/\∀ j' < j+1,∀ p,b.ps[j']?=some p->¬ Mts b.rs q.1 p:=fun n=>⟨_,_,rfl,rfl,fun j' hj' p' hp'=>by
     by_cases e:j'=j
     ·subst e; rw [hp] at hp'; cases hp'; exact n
     ·exact nj j' (by omega) p' hp'⟩
    refine ⟨zz,_,rfl,SqT.of (s03 _ _ hzz),rfl,_,_,rfl,_,_,rfl,rfl,?_⟩
    refine ⟨_,rfl,_,rfl,l,_,rfl,.inl (SqL.of hl),rfl,flat_strs _,_,rfl,ite2 (fun c1 => ?_) (fun c1=>iteF (nx fun m => ?_))⟩
    rotate_left
    ·exact c1 (in_strs.mpr ((wl.mm p.1).mpr ⟨pw1,m.1⟩))
    refine ⟨_,rfl,_,rfl,l,_,rfl,.inl (SqL.of hl),rfl,flat_strs _,_,rfl,ite2 (fun c2 => ?_) (fun c2=>nx fun m => ?_)⟩
    rotate_left
    ·exact c2 (in_strs.mpr ((wl.mm p.2).mpr ⟨pw2,m.2⟩))
    have m1:=((wl.mm p.1).mp (in_strs.mp c1)).2
    have m2:=((wl.mm p.2).mp (in_strs.mp c2)).2
    have fm:FM b.rs b.ps (some (q.1,p.1,p.2)):=⟨i,q,j,p,hq,rfl,hp,rfl,rfl,⟨m1,m2⟩,ni,nj⟩
    have qw:=dis q qm
    refine ⟨_,rfl,_,rfl,_,rfl,_,rfl,_,rfl,_,rfl,z,b.ws,u2,b.rs,U,q.1,p.1,rk,rfl,bwK s03,un,pw1,(fun e=>qw (by rw [e]; exact pw1)),m1,hrk,fun w1 way1 H4 s4 nw1 hw1 wd1 => ?_⟩
    refine ⟨_,rfl,_,rfl,_,rfl,z,b.ws,u2,b.rs,U,q.1,p.2,rk,rfl,bwK (s03.trans s4),un,pw2,(fun e=>qw (by rw [e]; exact pw2)),m2,hrk,fun w2 way2 H5 s5 nw2 hw2 wd2 => ?_⟩
    refine ⟨(by show 2<=sizeLine; decide),fun t nt => ?_⟩
    have st:=Same.upd (o:=.tup [.ref w1,.ref w2]) nt
    have s35:=(s4.trans s5).trans st
    exact raise5 (nl q qm) (pl p pm).1 (pl p pm).2 ⟨w1,w2,upd_same,(s5.trans st) _ _ hw1,st _ _ hw2⟩ (by have:=wd1.ll; omega) (by have:=wd2.ll; omega) ((kB q.1 p.1 p.2 way1 way2 fm wd1 wd2).mono (s03.trans s35))
   ·intro σ H4 hh
    obtain ⟨v3',v4',rfl,rfl,nj⟩:=hh
    rw [l1.len] at nj
    refine ⟨_,_,_,_,rfl,s2.trans s3,fun i' hi' q' hq' p hp => ?_⟩
    by_cases e:i'=i
    ·subst e
     rw [hq] at hq'
     cases hq'
     obtain ⟨j,hj⟩:=List.getElem?_of_mem hp
     exact nj j (List.getElem?_eq_some_iff.mp hj).1 p hj
    ·exact ni i' (by omega) q' hq' p hp
  ·intro σ H2 hh
   obtain ⟨v1,v2,v3,v4,rfl,s2,ni⟩:=hh
   rw [List.length_map,List.length_map] at ni
   refine kG (fun q hq p hp => ?_) _ (s1.trans s2)
   obtain ⟨i,hi⟩:=List.getElem?_of_mem hq
   exact ni i (List.getElem?_eq_some_iff.mp hi).1 q hi p hp
theorem scLooked:FnScope ["book","order"] ["book"] (defScope sLooked):=⟨rfl,rfl,rfl,by decide +kernel,rfl,by decide +kernel,by decide +kernel⟩
theorem ok_looked {f:Addr}{fd:FuncData}(F:Fun K "looked" "looked" sLooked f fd)(T:Txt mg)(cA:Cal P w K mg base CX0 7 "refuse_twice" ["book"] spRTw)(cB:Cal P w K mg base CX0 7 "refuse_no_name" ["book"] spRNn)(cC:Cal P w K mg base CX0 7 "refuse_no_pair" ["book"] spRNp)(cO:Cal P w K mg base CX0 7 "order_of" ["book"] spOof)(cV:Cal P w K mg base CX0 7 "refuse_over" ["book"] spROv0)(cM:Cal P w K mg base (CXg P w) 7 "refuse_meet" ["book"] (spRMe c5)):FnOk P w K mg base (CXg P w) 8 f fd ["book"] (spLooked c5):=by
 refine F.okF scLooked (fun vs H Q E h => ?_) (fun cdv A outer s H vs Q E hr h => ?_)
 ·obtain ⟨_,_,_,_,_,rfl,_⟩:=h
  rfl
 ·obtain ⟨v,b,ws,rs,t,rfl,bv,bl,kG,kB⟩:=h
  refine ⟨_,(pss_cons (ps_expr (pe_cal cA hr rfl pass0 (pa_cons (pv 0) pa_nil)))
   (pss_cons (ps_expr (pe_cal cB hr rfl pass0 (pa_cons (pv 0) pa_nil)))
   (pss_cons (ps_expr (pe_cal cC hr rfl pass0 (pa_cons (pv 0) pa_nil)))
   (pss_cons (ps_set (i:=1) scLooked.nd rfl (Or.inl rfl) (pe_cal cO hr rfl pass0 (pa_cons (pv 0) pa_nil)))
   (pss_cons (ps_if (pt_cmpR op_lt (pe_callB call_len_seq rfl T.len PySem.boot_len (pa_cons (pv 1) pa_nil)) (pe_callB call_len_seq rfl T.len PySem.boot_len (pa_cons (pit 0 2) pa_nil)) (nomark _))
    pss_no
    pss_nil)
   (pss_cons (ps_expr (pe_cal cV hr rfl pass0 (pa_cons (pv 0) pa_nil)))
   (pss_cons (ps_expr (pe_cal cM hr rfl pass_f (pa_cons (pv 0) pa_nil)))
   (pss_one (ps_ret (pv 1)))))))))),?_⟩
  have enm:nmsB b=ws ++ rs:=by unfold nmsB; rw [bl.ew,bl.bt.nm]
  have tn:tw [] (nmsB b)=none:=by
   refine tw_end fun j hj x hx hm => ?_
   rw [enm] at hx hm
   rw [List.nil_append] at hm
   obtain ⟨m,hm'⟩:=List.getElem?_of_mem hm
   have ml:m < j:=by
    have:=(List.getElem?_eq_some_iff.mp hm').1
    rw [List.length_take] at this
    omega
   rw [List.getElem?_take_of_lt ml] at hm'
   have q:=List.pairwise_iff_getElem.mp bl.bt.nd
   have jl:=(List.getElem?_eq_some_iff.mp hx).1
   refine q m j (by omega) jl ml ?_
   rw [(List.getElem?_eq_some_iff.mp hm').2,(List.getElem?_eq_some_iff.mp hx).2]
  have pz:(pnames b.ps).find? (lackW b.ws)=none:=pn_none fun p hp=>⟨decide_eq_false fun z=>z (by rw [bl.ew]; exact (bl.pw p hp).1),decide_eq_false fun z=>z (by rw [bl.ew]; exact (bl.pw p hp).2.1)⟩
  have sz:b.ps.find? selfP=none:=find_none fun j hj p hp=>decide_eq_false (bl.pw p (List.mem_of_getElem? hp)).2.2
  refine ⟨_,rfl,v,b,rfl,bv,bl.o,tn,fun H1 s1 => ?_⟩
  refine ⟨_,rfl,v,b,rfl,bv.keepS s1,bl.o,tn,pz,bl.tn,fun H2 s2 => ?_⟩
  refine ⟨_,rfl,v,b,rfl,bv.keepS (s1.trans s2),bl.o,sz,fun H3 s3 => ?_⟩
  have s03:=(s1.trans s2).trans s3
  have bv3:=bv.keepS s03
  obtain ⟨z,a0,a1,a2,u1,u2,rfl,hz,h0,h1,l1,h2,l2⟩:=id bv3
  have names:=bl.bt.names
  have dis : ∀ p ∈ b.rs,p.1 ∉ b.ws:=fun p hp hw=>by
   have:p.1 ∈ rs:=by rw [<- bl.bt.nm]; exact List.mem_map.mpr ⟨p,hp,rfl⟩
   exact (List.nodup_append.mp bl.bt.nd).2.2 p.1 (by rw [<- bl.ew]; exact hw) p.1 this rfl
  refine ⟨_,rfl,z,b.ws,u2,b.rs,rfl,⟨a0,_,a2,hz,h0,h2,l2⟩,bl.o.r,names,bl.o.w,dis,fun xs l H4 s4 nl hl x12 ord ore => ?_⟩
  have full:=full_of (by rw [bl.ew]; exact bl.bt) ord ore
  have xl:xs.length=b.rs.length:=by
   have e1:=nd_sub full.nd full.sub
   have e2:=nd_sub (ws:=xs) names (fun y hy=>by obtain ⟨p,hp,rfl⟩:=List.mem_map.mp hy; exact full.all p hp)
   rw [List.length_map] at e1 e2
   omega
  have s04:=s03.trans s4
  have bv4:=bv.keepS s04
  refine ⟨_,rfl,l,_,rfl,.inl (SqL.of hl),z,_,_,rfl,SqT.of (s4 _ _ hz),rfl,a2,_,rfl,.inr (SqT.of (s4 _ _ h2)),_,_,rfl,rfl,_,rfl,ite2 (fun hc => ?_) (fun _ => ?_)⟩
  ·have:(((xs.map V.str).length:Nat):Int) < ((u2.length:Nat):Int):=of_decide_eq_true hc
   rw [List.length_map,l2.len] at this
   omega
  refine ⟨_,rfl,.ref z,b,rfl,bv4,bl.o.r.ln,bl.rw,bl.bo,fun H5 s5 => ?_⟩
  have s05:=s04.trans s5
  refine ⟨_,rfl,.ref z,b,nmsB b,_,rfl,bv4.keepS s5,bl.unv,(fun x hx=>List.mem_append_right _ hx),dis,bl.o.r.ln,bl.o.p,(fun p hp=>(bl.rw p hp).1),bl.o.np,(fun p hp=>by rw [bl.ew]; exact ⟨(bl.pw p hp).1,(bl.pw p hp).2.1⟩),rk_of full dis x12,fun fm H6 s6 => ?_,fun x a d w1 w2 fm d1 d2=>(kB x a d w1 w2 fm d1 d2).mono s05⟩
  exact ⟨_,rfl,kG fm l xs H6 (s05.trans s6) (sm_none' s03 nl) ((s5.trans s6) _ _ hl) full ore⟩
end
end K17
namespace K17
open PySem PySem.Spec PyProof.Rows L2 GM TM BQ TR RH
def notInV (xs:List Str)(v:V):Bool:=match v with | .str y=>decide (y ∉ xs) | _=>false
theorem ordE_ord {rc:List (Str × List Rw)}{ws xs:List Str}(h:OrdE rc ws xs):Ord rc ws xs:=fun i x hx t ht=>by
 obtain ⟨j,p,hp,rfl,np,_⟩:=h.fst i x hx
 by_cases z:t ∈ ws ++ xs.take i
 ·exact List.mem_append.mp z
 ·exact absurd (.inr ⟨t,ht,z⟩) np
theorem first_uniq {rc:List (Str × List Rw)}{ws xs:List Str}{x y:Str}(h:FirstR rc ws xs x)(k:FirstR rc ws xs y):x=y:=by
 obtain ⟨i,p,hp,rfl,np,bp⟩:=h
 obtain ⟨j,q,hq,rfl,nq,bq⟩:=k
 rcases Nat.lt_trichotomy i j with z | z | z
 ·exact absurd (bq i z p hp) np
 ·subst z
  rw [hp] at hq
  cases hq
  rfl
 ·exact absurd (bp j z q hq) nq
theorem ordE_pre {rc:List (Str × List Rw)}{ws xs ys:List Str}(h:OrdE rc ws xs)(k:OrdE rc ws ys) : ∀ n,n<=xs.length->n<=ys.length->xs.take n=ys.take n
 | 0,_,_=>rfl
 | n+1,h1,h2=>by
  have e:=ordE_pre h k n (by omega) (by omega)
  obtain ⟨x,hx⟩ : ∃ x,xs[n]?=some x:=⟨_,List.getElem?_eq_getElem (by omega)⟩
  obtain ⟨y,hy⟩ : ∃ y,ys[n]?=some y:=⟨_,List.getElem?_eq_getElem (by omega)⟩
  have f:=h.fst n x hx
  rw [e] at f
  rw [List.take_add_one,List.take_add_one,hx,hy,e,first_uniq f (k.fst n y hy)]
theorem ordE_le {rc:List (Str × List Rw)}{ws xs ys:List Str}(h:OrdE rc ws xs)(k:OrdE rc ws ys):xs.length<=ys.length:=by
 rcases Nat.lt_or_ge ys.length xs.length with lt | ge
 ·exfalso
  have e:=ordE_pre h k ys.length (by omega) (Nat.le_refl _)
  rw [List.take_length] at e
  rcases k.full with f | f
  ·have:=nd_sub h.nd h.sub
   rw [List.length_map] at this
   omega
  ·obtain ⟨x,hx⟩ : ∃ x,xs[ys.length]?=some x:=⟨_,List.getElem?_eq_getElem lt⟩
   obtain ⟨j,p,hp,_,np,_⟩:=h.fst _ x hx
   rw [e] at np
   exact np (f p (List.mem_of_getElem? hp))
 ·exact ge
theorem ordE_uniq {rc:List (Str × List Rw)}{ws xs ys:List Str}(h:OrdE rc ws xs)(k:OrdE rc ws ys):xs=ys:=by
 have l1:=ordE_le h k
 have l2:=ordE_le k h
 have e:=ordE_pre h k xs.length (Nat.le_refl _) (by omega)
 rw [List.take_length,List.take_of_length_le (by omega)] at e
 exact e
def spOrdL:Sp:=fun vs H Q _=>∃ (b:Addr) (ws:List Str) (us:List V) (rc:List (Str × List Rw)),vs=[.ref b]/\BwV H b ws us rc/\RcS rc/\(rc.map (·.1)).Nodup/\ws.length<=20/\(∀ (xs:List Str) l H',Same H H'->H l=none->H' l=some (.lst (xs.map V.str))->xs.length=rc.length->OrdE rc ws xs->Q (.ref l) H')/\(∀ (xs:List Str) H',Same H H'->xs.length < rc.length->OrdE rc ws xs->Q .non H')
section
variable {P:Program}{w:World}{K:PySem.W.Frag}{mg:Str->Option Value}{base:Heap}
theorem ndTT:(["_law_thing","_law_there"]:List Str).Nodup:=by decide +kernel
abbrev Nord:List Str:=["_law_book_here","_law_there","_law_found","_law_turn","_law_name","_law_rows","_law_lacks","_law_row_here"]
theorem scOrd:FnScope Nord ["_law_book_here"] (defScope sOrd):=⟨rfl,rfl,rfl,by decide +kernel,rfl,by decide +kernel,by decide +kernel⟩
theorem ok_ordl {f:Addr}{fd:FuncData}(F:Fun K "_law_order" "_law_order" sOrd f fd)(T:Txt mg)(cT:Cal P w K mg base CX0 1 "_law_things" ["_law_row_here"] spThings):FnOk P w K mg base CX0 2 f fd ["_law_book_here"] spOrdL:=by
 refine F.ok scOrd (fun vs H Q E h => ?_) (fun cdv A outer s H vs Q E hr h => ?_)
 ·obtain ⟨_,_,_,_,rfl,_⟩:=h
  rfl
 ·obtain ⟨b,ws,us,rc,rfl,bw,rcs,nmd,w20,k1,k2⟩:=h
  refine ⟨_,(pss_cons (ps_set (i:=1) scOrd.nd rfl (Or.inr rfl) (pe_callTy call_list_of rfl T.list' bt_list (pa_cons (pit 0 0) pa_nil)))
   (pss_cons (ps_set (i:=2) scOrd.nd rfl (Or.inl rfl) (pe_lst pa_nil))
   (pss_cons (ps_for PassesOwn.never rfl (pi_range1 rfl T.range (pa_cons (pe_callB call_len_seq rfl T.len PySem.boot_len (pa_cons (pit 0 2) pa_nil)) pa_nil)) (pg_name (i:=3) scOrd.nd rfl (Or.inl rfl))
    (pss_one (ps_for PassesOwn.never rfl (pi_tup (pit 0 2)) (pg_tup rfl (pgs_cons (pg_name (i:=4) scOrd.nd rfl (Or.inl rfl)) (pgs_cons (pg_name (i:=5) scOrd.nd rfl (Or.inl rfl)) pgs_nil)))
     (pss_cons (ps_set (i:=6) scOrd.nd rfl (Or.inl rfl) (pe_lst pa_nil))
     (pss_cons (ps_for PassesOwn.never rfl (pi_tup (pv 5)) (pg_name (i:=7) scOrd.nd rfl (Or.inl rfl))
      (pss_one (ps_expr (pe_bm PySem.F.plainAttrs_list PySem.F.slot_list_extend PySem.F.type_list_extend mt_extend (pv 6) (pa_cons (pe_compC (N':=["_law_thing","_law_there"]) (fun σ=>[none,some 1].map fun t=>t.bind fun j=>(σ[j]?).join) rfl rfl (by decide +kernel) (by decide +kernel)
       (hk_of (sc:=defScope sOrd) rfl (by decide +kernel)) (fun _ _ _=>blkN_by (sc:=defScope sOrd) (N:=Nord) [none,some 1] rfl rfl rfl rfl (by decide +kernel))
       (pi_list (pe_cal cT hr rfl pass0 (pa_cons (pv 7) pa_nil))) (fun _ _ _ _ _ _=>pg_name (i:=0) ndTT rfl (Or.inl rfl))
       (fun _ _ _ _ _ _=>pifs_one (pt_cmpR (op_notInK (K:=K) rfl) (pv 0) (pv 1) rfl))
       (fun _ _ _ _ _ _=>pv 0)) pa_nil)))))
     (pss_one (ps_if (PW.pt (pw_and (pt_cmpR op_notIn_seq (pv 4) (pv 1) rfl) (pw_and1 (pt_cmpR (op_eqE hr.units) (pv 6) (pe_lst pa_nil) (nomark _)))))
      (pss_cons (ps_expr (pe_bm PySem.F.plainAttrs_list PySem.F.slot_list_append PySem.F.type_list_append mt_append (pv 1) (pa_cons (pv 4) pa_nil)))
      (pss_cons (ps_expr (pe_bm PySem.F.plainAttrs_list PySem.F.slot_list_append PySem.F.type_list_append mt_append (pv 2) (pa_cons (pv 4) pa_nil)))
      (pss_one ps_break)))
      pss_nil)))))))
   (pss_cons (ps_if (pt_cmpR op_lt (pe_callB call_len_seq rfl T.len PySem.boot_len (pa_cons (pv 2) pa_nil)) (pe_callB call_len_seq rfl T.len PySem.boot_len (pa_cons (pit 0 2) pa_nil)) (nomark _))
    (pss_one (ps_ret pe_non))
    pss_nil)
   (pss_one (ps_ret (pv 2))))))),?_⟩
  obtain ⟨w',y,g,hb,hw,hg,hu⟩:=id bw
  refine ⟨b,_,_,rfl,SqT.of hb,rfl,w',_,rfl,.inr (SqT.of hw),fun Th nT => ?_⟩
  have sT:=Same.upd (o:=.lst (ws.map V.str)) nT
  refine ⟨(by show 0<=sizeLine; decide),fun Fd nF => ?_⟩
  have sF:=Same.upd (o:=.lst []) nF
  have s0:=sT.trans sF
  have nF0:H Fd=none:=sm_none' sT nF
  have TF:Th ≠ Fd:=fun e=>by rw [<- e,upd_same] at nF; cases nF
  refine ⟨b,_,_,rfl,SqT.of (s0 _ _ hb),rfl,g,_,rfl,.inr (SqT.of (s0 _ _ hg)),_,rfl,by have:=rcs.ln; have:=hu.len; omega,by have:=rcs.ln; have:=hu.len; omega,?_⟩
  rw [Int.toNat_natCast]
  have ul:=hu.len
  have rl:=rcs.ln
  refine for_range (fun i σ H'=>∃ (xs:List Str) (v3 v4 v5 v6 v7:Option V),σ=[some (.ref b),some (.ref Th),some (.ref Fd),v3,v4,v5,v6,v7]/\Same H H'/\H' Th=some (.lst ((ws ++ xs).map V.str))/\H' Fd=some (.lst (xs.map V.str))/\xs.length<=i/\xs.Nodup/\(∀ x ∈ xs,x ∈ rc.map (·.1))/\(xs.length=i\/∀ p ∈ rc,NRp rc ws xs p)/\∀ (i:Nat) x,xs[i]?=some x->FirstR rc ws (xs.take i) x)
   ⟨[],none,none,none,none,none,rfl,s0,by rw [List.append_nil]; exact sF _ _ upd_same,upd_same,Nat.le_refl _,List.nodup_nil,(fun x h=>nomatch h),.inl rfl,(fun i x h=>by simp at h)⟩ ?_ ?_
  ·rintro i σ H1 hi ⟨xs,v3,v4,v5,v6,v7,rfl,s1,hT1,hF1,xl,xnd,xsub,xful,xfst⟩
   refine ⟨b,_,_,rfl,SqT.of (s1 _ _ hb),rfl,g,rfl,⟨_,SqT.of (s1 _ _ hg)⟩,?_⟩
   refine for_tup (xs:=us) (fun j σ H'=>∃ v4 v5 v6 v7:Option V,σ=[some (.ref b),some (.ref Th),some (.ref Fd),some (.int (0+i)),v4,v5,v6,v7]/\Same H H'/\H' Th=some (.lst ((ws ++ xs).map V.str))/\H' Fd=some (.lst (xs.map V.str))/\∀ j' < j,∀ p,rc[j']?=some p->NRp rc ws xs p) ⟨_,_,_,_,rfl,s1,hT1,hF1,fun j' h=>by omega⟩ (fun j σ H' _ hh=>by obtain ⟨_,_,_,_,_,sm,_⟩:=hh; exact SqT.of (sm _ _ hg)) ?_ ?_
   ·rintro j v σ H2 hv ⟨v4',v5',v6',v7',rfl,s2,hT2,hF2,nr⟩
    obtain ⟨p,hp,z,q,vs',rfl,hz,hq,hrv⟩:=hu.get hv
    have pr:=rcs.rw p (List.mem_of_getElem? hp)
    have vl:=hrv.len
    have all10:=fun i=>thgs_len (rs:=p.2.take i) fun r hr=>pr.2 r (List.mem_of_mem_take hr)
    have e1:=below_of nmd hp
    refine ⟨z,_,rfl,SqT.of (s2 _ _ hz),rfl,_,_,rfl,_,_,rfl,rfl,?_⟩
    refine ⟨(by show 0<=sizeLine; decide),fun L nL => ?_⟩
    have sL:=Same.upd (o:=.lst []) nL
    have hL:upd H2 L (.lst []) L=some (.lst []):=upd_same
    have nL0:H L=none:=sm_none' s2 nL
    have LT:L ≠ Th:=fun e=>by rw [e,hT2] at nL; cases nL
    have LF:L ≠ Fd:=fun e=>by rw [e,hF2] at nL; cases nL
    have hT2':=sL _ _ hT2
    have hF2':=sL _ _ hF2
    have s2':=s2.trans sL
    generalize upd H2 L (.lst [])=H3 at sL hL hT2' hF2' s2' ⊢
    refine ⟨_,rfl,q,rfl,⟨_,SqT.of (s2' _ _ hq)⟩,?_⟩
    refine for_tup (xs:=vs') (fun m σ H'=>∃ v7:Option V,σ=[some (.ref b),some (.ref Th),some (.ref Fd),some (.int (0+i)),some (.str p.1),some (.ref q),some (.ref L),v7]/\Same H H'/\H' Th=some (.lst ((ws ++ xs).map V.str))/\H' Fd=some (.lst (xs.map V.str))/\H' L=some (.lst (((thgs (p.2.take m)).filter fun y=>decide (y ∉ ws ++ xs)).map V.str))) ⟨_,rfl,s2',hT2',hF2',hL⟩ (fun m σ H' _ hh=>by obtain ⟨_,_,sm,_⟩:=hh; exact SqT.of (sm _ _ hq)) ?_ ?_
    ·rintro m u σ H4 hu' ⟨v7'',rfl,s4,hT4,hF4,hL4⟩
     obtain ⟨r,hr',rv⟩:=hrv.get hu'
     refine ⟨_,rfl,.inl ⟨rfl,_,SqL.of hL4⟩,_,rfl,u,r,rfl,rv.keep s4.tk,pr.2 r (List.mem_of_getElem? hr'),fun l H5 s5 nl hl=>⟨l,rfl,⟨_,SqL.of hl⟩,fun D hD => ?_⟩⟩
     have t10:=pr.2 r (List.mem_of_getElem? hr')
     refine comp_filt (Ys.list (SqL.of hl)) (notInV (ws ++ xs)) (fun x y _=>y=x) (fun _ _ _ _ h _=>h) hD (by rw [List.length_map]; omega) (fun i' v H' R1 R2 hv' sm r1 r2 => ?_) (fun ys H6 s6 hD6 yl hy => ?_)
     ·rw [List.getElem?_map] at hv'
      obtain ⟨t,ht,rfl⟩:=Option.map_eq_some_iff.mp hv'
      refine ⟨(Keep.refl _).set rfl,_,rfl,_,rfl,Th,_,rfl,.inl (SqL.of ((s5.trans sm) _ _ hT4)),rfl,flat_strs _,_,rfl,ite2 (fun h1 => ?_) (fun h1 => ?_)⟩
      ·refine ⟨_,rfl,r1 (decide_eq_true fun hm => ?_) _ _ (Same.refl _) rfl⟩
       have h1':(!inV (V.str t) ((ws ++ xs).map V.str))=true:=h1
       rw [in_strs.mpr hm] at h1'
       cases h1'
      ·exact r2 (decide_eq_false fun hm=>hm (in_strs.mp (by simpa using h1))) _ (Same.refl _)
     have ey:ys=((thg r).filter fun y=>decide (y ∉ ws ++ xs)).map V.str:=by
      refine list_eq (by rw [yl,filt_str,List.length_map,List.length_map]; rfl) fun i x y hx hy' => ?_
      have hx':(List.filter (notInV (ws ++ xs)) ((thg r).map V.str))[i]?=some x:=by rw [filt_str]; exact hx
      rw [hy i x y hx' hy']
     subst ey
     have e:thgs (p.2.take (m+1))=thgs (p.2.take m) ++ thg r:=by
      unfold thgs
      rw [List.take_add_one,hr',List.flatMap_append]
      simp
     have l1:=all10 (m+1)
     have f1:=List.length_filter_le (fun y=>decide (y ∉ ws ++ xs)) (thgs (p.2.take m))
     have f2:=List.length_filter_le (fun y=>decide (y ∉ ws ++ xs)) (thg r)
     rw [e,List.length_append,List.length_take] at l1
     have s46:=s5.trans s6
     have hL6:=s46 _ _ hL4
     refine ⟨L,D,_,_,rfl,rfl,hL6,hD6,by rw [List.length_map,List.length_map]; exact Nat.le_of_lt (small1000 (by omega)),?_⟩
     refine ⟨_,rfl,sm_own' (s4.trans s46) nL0,by rw [upd_ne LT.symm]; exact s46 _ _ hT4,by rw [upd_ne LF.symm]; exact s46 _ _ hF4,?_⟩
     rw [upd_same,e,List.filter_append,List.map_append]
    rintro σ H4 ⟨v7'',rfl,s4,hT4,hF4,hL4⟩
    rw [vl,List.take_length,<- e1] at hL4
    have nx:NRp rc ws xs p->∀ H5,Same H H5->H5 Th=some (.lst ((ws ++ xs).map V.str))->H5 Fd=some (.lst (xs.map V.str))->∃ v4 v5 v6 v7:Option V,[some (.ref b),some (.ref Th),some (.ref Fd),some (.int (0+i)),some (.str p.1),some (.ref q),some (.ref L),v7'']=[some (.ref b),some (.ref Th),some (.ref Fd),some (.int (0+i)),v4,v5,v6,v7]/\Same H H5/\H5 Th=some (.lst ((ws ++ xs).map V.str))/\H5 Fd=some (.lst (xs.map V.str))/\∀ j' < j+1,∀ p,rc[j']?=some p->NRp rc ws xs p:=fun np H5 s5 a b'=>⟨_,_,_,_,rfl,s5,a,b',fun j' hj' p' hp'=>by
     rcases Nat.lt_succ_iff_lt_or_eq.mp hj' with z | z
     ·exact nr j' z p' hp'
     ·rw [z,hp] at hp'
      cases hp'
      exact np⟩
    refine ⟨_,rfl,_,rfl,Th,_,rfl,.inl (SqL.of hT4),rfl,flat_strs _,_,rfl,ite2 (fun h1 => ?_) (fun h1=>iteF (nx (.inl (in_strs.mp (by simpa using h1))) H4 s4 hT4 hF4))⟩
    refine ⟨_,rfl,(by show 0<=sizeLine; decide),fun o no => ?_⟩
    have so:=Same.upd (o:=.lst []) no
    have s05:=s4.trans so
    have hT5:=so _ _ hT4
    have hF5:=so _ _ hF4
    have hL5:=so _ _ hL4
    have ho5:upd H4 o (.lst []) o=some (.lst []):=upd_same
    generalize upd H4 o (.lst [])=H5 at s05 hT5 hF5 hL5 ho5 ⊢
    refine ⟨L,o,_,rfl,rfl,SqL.of hL5,SqL.of ho5,_,rfl,ite2 (fun h2 => ?_) (fun h2=>nx (.inr ?_) H5 s05 hT5 hF5)⟩
    rotate_left
    ·cases ef:(belowF rc p.1).filter fun y=>decide (y ∉ ws ++ xs) with
     | nil=>rw [ef] at h2; exact absurd rfl h2
     | cons t r =>
      have hm:t ∈ (belowF rc p.1).filter fun y=>decide (y ∉ ws ++ xs):=by rw [ef]; exact List.mem_cons_self ..
      obtain ⟨m1,m2⟩:=List.mem_filter.mp hm
      exact ⟨t,m1,of_decide_eq_true m2⟩
    have ye:(belowF rc p.1).filter (fun y=>decide (y ∉ ws ++ xs))=[]:=by simpa using h2
    have all : ∀ t ∈ belowF rc p.1,t ∈ ws ++ xs:=fun t ht=>by
     have:=List.filter_eq_nil_iff.mp ye t ht
     by_cases z:t ∈ ws ++ xs
     ·exact z
     ·exact absurd (decide_eq_true z) this
    have pn:p.1 ∉ ws ++ xs:=fun z=>by
     have h1':(!inV (V.str p.1) ((ws ++ xs).map V.str))=true:=h1
     rw [in_strs.mpr z] at h1'
     cases h1'
    have el:(ws ++ xs).map V.str ++ [V.str p.1]=(ws ++ (xs ++ [p.1])).map V.str:=by simp
    refine ⟨_,rfl,.inl ⟨rfl,_,SqL.of hT5⟩,_,rfl,Th,_,_,rfl,rfl,hT5,small1000 (by rw [List.length_map,List.length_append]; omega),?_⟩
    rw [el]
    have hF6:upd H5 Th (.lst ((ws ++ (xs ++ [p.1])).map V.str)) Fd=some (.lst (xs.map V.str)):=by rw [upd_ne TF.symm]; exact hF5
    refine ⟨_,rfl,.inl ⟨rfl,_,SqL.of hF6⟩,_,rfl,Fd,_,_,rfl,rfl,hF6,small1000 (by rw [List.length_map]; omega),?_⟩
    refine ⟨xs ++ [p.1],_,_,_,_,_,rfl,sm_own' (sm_own' s05 nT) nF0,by rw [upd_ne TF]; exact upd_same,?_,by rw [List.length_append]; show xs.length+1<=i+1; omega,nodup_snoc xnd (fun z=>pn (List.mem_append_right _ z)),(fun x hx => ?_),?_,first_snoc xfst ⟨j,p,hp,rfl,(fun z=>z.elim pn fun ⟨t,ht,q⟩=>q (all t ht)),fun j' hj' p' hp'=>nr j' hj' p' hp'⟩⟩
    ·rw [upd_same]
     simp
    ·rcases List.mem_append.mp hx with hx | hx
     ·exact xsub x hx
     ·rw [List.mem_singleton.mp hx]
      exact List.mem_map_of_mem (List.mem_of_getElem? hp)
    ·rcases xful with z | z
     ·left; rw [List.length_append,z]; rfl
     ·exfalso
      rcases z p (List.mem_of_getElem? hp) with q | ⟨t,ht,q⟩
      ·exact pn q
      ·exact q (all t ht)
   ·rintro σ H2 ⟨v4',v5',v6',v7',rfl,s2,hT2,hF2,nr⟩
    exact ⟨xs,_,_,_,_,_,rfl,s2,hT2,hF2,by omega,xnd,xsub,.inr fun p hp=>by
     obtain ⟨j',hj'⟩:=List.getElem?_of_mem hp
     exact nr j' (by rw [ul]; exact (List.getElem?_eq_some_iff.mp hj').1) p hj',xfst⟩
  ·rintro σ H1 ⟨xs,v3,v4,v5,v6,v7,rfl,s1,hT1,hF1,xl,xnd,xsub,xful,xfst⟩
   have ore:OrdE rc ws xs:=⟨xnd,xsub,xful.imp (fun z=>by rw [z,ul]) id,xfst⟩
   have le:=nd_sub xnd xsub
   rw [List.length_map] at le
   refine ⟨_,rfl,Fd,_,rfl,.inl (SqL.of hF1),b,_,_,rfl,SqT.of (s1 _ _ hb),rfl,g,_,rfl,.inr (SqT.of (s1 _ _ hg)),_,_,rfl,rfl,_,rfl,ite2 (fun hc => ?_) (fun hc => ?_)⟩
   ·have lt:(((xs.map V.str).length:Nat):Int) < ((us.length:Nat):Int):=of_decide_eq_true hc
    rw [List.length_map,ul] at lt
    exact k2 xs H1 s1 (by omega) ore
   ·have h1 : ¬ (((xs.map V.str).length:Nat):Int) < ((us.length:Nat):Int):=fun z=>hc (decide_eq_true z)
    rw [List.length_map,ul] at h1
    exact ⟨_,rfl,k1 xs Fd H1 s1 nF0 hF1 (by omega) ore⟩
end
end K17
namespace K17
open PySem PySem.Spec PyProof.Rows L2 GM TM BQ TR RH
theorem val_at : ∀ {kvs:List (Key × V)} {j:Nat} {kv:Key × V},(kvs.map (·.1)).Nodup->kvs[j]?=some kv->valV kvs kv.1=some kv.2
 | x :: r,0,kv,_,h=>by
  cases (show some x=some kv from h)
  exact valV_pos rfl
 | x :: r,j+1,kv,nd,h=>by
  rw [List.map_cons] at nd
  have nd':=List.nodup_cons.mp nd
  have h':r[j]?=some kv:=by simpa using h
  rw [valV_neg (fun e=>nd'.1 (e ▸ List.mem_map_of_mem (List.mem_of_getElem? h')))]
  exact val_at nd'.2 h'
theorem rows_kvs {H:Hp} : ∀ {us:List V} {rc:List (Str × List Rw)},L2R (RecV H) us rc->∃ kvs:List (Key × V),us.length=kvs.length/\kvs.map (·.1)=(rc.map (·.1)).map Sum.inr/\(∀ (i:Nat) u kv,us[i]?=some u->kvs[i]?=some kv->∃ z,u = .ref z/\H z=some (.tup [kV kv.1,kv.2])) /\
  ∀ (j:Nat) p,rc[j]?=some p->∃ q vs,kvs[j]?=some (Sum.inr p.1,.ref q)/\H q=some (.tup vs)/\L2R (RowV H) vs p.2
 | [],[],_=>⟨[],rfl,rfl,(fun i u kv h=>by simp at h),(fun j p h=>by simp at h)⟩
 | u :: us,p :: rc,h=>by
  obtain ⟨kvs,a1,a2,a3,a4⟩:=rows_kvs (us:=us) (rc:=rc) ⟨by have:=h.len; simpa using this,fun i u' p' hu hp=>h.at' (i+1) u' p' (by simpa using hu) (by simpa using hp)⟩
  obtain ⟨z,q,vs,rfl,hz,hq,hv⟩:=h.at' 0 u p rfl rfl
  refine ⟨(Sum.inr p.1,.ref q) :: kvs,by simp [a1],by simp [a2],fun i u' kv hu hkv => ?_,fun j p' hp' => ?_⟩
  ·cases i with
   | zero =>
    cases (show some (V.ref z)=some u' from hu)
    cases (show some ((Sum.inr p.1:Key),V.ref q)=some kv from hkv)
    exact ⟨z,rfl,hz⟩
   | succ i=>exact a3 i u' kv (by simpa using hu) (by simpa using hkv)
  ·cases j with
   | zero =>
    cases (show some p=some p' from hp')
    exact ⟨q,vs,rfl,hq,hv⟩
   | succ j =>
    obtain ⟨q',vs',b1,b2,b3⟩:=a4 j p' (by simpa using hp')
    exact ⟨q',vs',by simpa using b1,b2,b3⟩
 | [],_ :: _,h=>by have:=h.len; simp at this
 | _ :: _,[],h=>by have:=h.len; simp at this
structure RD (H:Hp)(D:Addr)(ws:List Str)(B:Str->List Str)(ks:List Str)(kvs:List (Key × V)):Prop where
 hd:H D=some (.dK kvs)
 ek:kvs.map (·.1)=ks.map Sum.inr
 at' : ∀ x ∈ ks,∃ (l:Addr) (xs:List Str),valV kvs (.inr x)=some (.ref l)/\H l=some (.lst (xs.map V.str))/\Wl ws B x xs/\xs.length<=40
theorem RD.keep {H H':Hp}{D:Addr}{ws ks:List Str}{B:Str->List Str}{kvs:List (Key × V)}(s:Same H H')(h:RD H D ws B ks kvs):RD H' D ws B ks kvs :=
 ⟨s _ _ h.hd,h.ek,fun x hx=>by obtain ⟨l,xs,a,b,c⟩:=h.at' x hx; exact ⟨l,xs,a,s _ _ b,c⟩⟩
theorem RD.len {H:Hp}{D:Addr}{ws ks:List Str}{B:Str->List Str}{kvs:List (Key × V)}(h:RD H D ws B ks kvs):kvs.length=ks.length:=by
 have:=congrArg List.length h.ek
 simpa using this
theorem val_no {kvs:List (Key × V)}{ks:List Str}{x:Str}(e:kvs.map (·.1)=ks.map Sum.inr)(n:x ∉ ks):valV kvs (.inr x)=none:=by
 unfold valV
 rw [Option.map_eq_none_iff,List.find?_eq_none]
 intro kv hkv z
 have:kv.1 ∈ ks.map (Sum.inr:Str->Key):=by rw [<- e]; exact List.mem_map_of_mem hkv
 obtain ⟨y,hy,ey⟩:=List.mem_map.mp this
 have h2:kv.1=Sum.inr x:=by simpa using z
 rw [<- ey] at h2
 cases h2
 exact n hy
theorem RD.put {H:Hp}{D l:Addr}{ws ks xs:List Str}{B:Str->List Str}{x:Str}{kvs:List (Key × V)}(h:RD H D ws B ks kvs)(n:x ∉ ks)(hl:H l=some (.lst (xs.map V.str)))(w:Wl ws B x xs)(xl:xs.length<=40) :
  RD (upd H D (.dK (putK kvs (.inr x) (.ref l)))) D ws B (ks ++ [x]) (putK kvs (.inr x) (.ref l)):=by
 have ne : ∀ {b:Addr} {zs:List V},H b=some (.lst zs)->b ≠ D:=fun {b zs} e z=>by rw [z,h.hd] at e; cases e
 have vn:=val_no h.ek n
 refine ⟨upd_same,?_,fun y hy => ?_⟩
 ·rw [putK_new _ vn,List.map_append,h.ek,List.map_append]
  rfl
 ·rw [valV_put]
  by_cases e:(Sum.inr y:Key) = .inr x
  ·cases e
   rw [if_pos rfl]
   exact ⟨l,xs,rfl,by rw [upd_ne (ne hl)]; exact hl,w,xl⟩
  ·rw [if_neg e]
   have hy':y ∈ ks:=by
    rcases List.mem_append.mp hy with h | h
    ·exact h
    ·exact absurd (congrArg _ (List.mem_singleton.mp h)) e
   obtain ⟨l2,xs2,a,b,c⟩:=h.at' y hy'
   exact ⟨l2,xs2,a,by rw [upd_ne (ne b)]; exact b,c⟩
def spReach:Sp:=fun vs H Q _=>∃ (v:V) (b:Bs) (ws rs:List Str) (t:Int),vs=[v]/\BookV H v b/\BkM ws rs t b/\∀ D ks kvs xs H',Same H H'->H D=none->RD H' D b.ws (belowF b.rs) ks kvs->ks=b.ws ++ xs->Full b.rs b.ws xs->Q (.ref D) H'
theorem take_snoc {α:Type}{xs:List α}{i:Nat}{x:α}(h:xs[i]?=some x):xs.take (i+1)=xs.take i ++ [x]:=by rw [List.take_add_one,h]; rfl
section
variable {P:Program}{w:World}{K:PySem.W.Frag}{mg:Str->Option Value}{base:Heap}
abbrev Nrea:List Str:=["_law_book_here","_law_reach_here","_law_name","_law_rows","_law_found","_law_row_here","_law_thing"]
theorem ndWF:(["_law_ware","_law_found"]:List Str).Nodup:=by decide +kernel
theorem scReach:FnScope Nrea ["_law_book_here"] (defScope sReach):=⟨rfl,rfl,rfl,by decide +kernel,rfl,by decide +kernel,by decide +kernel⟩
theorem ok_reach {f:Addr}{fd:FuncData}(F:Fun K "_law_reach" "_law_reach" sReach f fd)(T:Txt mg)(cO:Cal P w K mg base CX0 3 "_law_order" ["_law_book_here"] spOrdL)(cT:Cal P w K mg base CX0 3 "_law_things" ["_law_row_here"] spThings):FnOk P w K mg base CX0 4 f fd ["_law_book_here"] spReach:=by
 refine F.ok scReach (fun vs H Q E h => ?_) (fun cdv A outer s H vs Q E hr h => ?_)
 ·obtain ⟨_,_,_,_,_,rfl,_⟩:=h
  rfl
 ·obtain ⟨v,b,ws,rs,t,rfl,bv,bl,k⟩:=h
  refine ⟨_,(pss_cons (ps_set (i:=1) scReach.nd rfl (Or.inl rfl) pe_dnewK)
   (pss_cons (ps_for PassesOwn.never rfl (pi_tup (pit 0 0)) (pg_name (i:=2) scReach.nd rfl (Or.inl rfl))
    (pss_one (ps_dput (hu_of hr) (pv 1) (pv 2) (pe_lst (pa_cons (pv 2) pa_nil)) rfl)))
   (pss_cons (ps_for PassesOwn.never rfl (pi_list (pe_cal cO hr rfl pass0 (pa_cons (pv 0) pa_nil))) (pg_name (i:=2) scReach.nd rfl (Or.inl rfl))
    (pss_cons (ps_set (i:=3) scReach.nd rfl (Or.inl rfl) (pe_dget (hu_of hr) (pe_callTy (call_dictL rfl) rfl T.dict' bt_dict (pa_cons (pe_callTy call_list_of rfl T.list' bt_list (pa_cons (pit 0 2) pa_nil)) pa_nil)) (pv 2) (fun _ _=>rfl)))
    (pss_cons (ps_set (i:=4) scReach.nd rfl (Or.inr rfl) (pe_lst pa_nil))
    (pss_cons (ps_for PassesOwn.never rfl (pi_tup (pv 3)) (pg_name (i:=5) scReach.nd rfl (Or.inl rfl))
     (pss_one (ps_for PassesOwn.never rfl (pi_list (pe_cal cT hr rfl pass0 (pa_cons (pv 5) pa_nil))) (pg_name (i:=6) scReach.nd rfl (Or.inl rfl))
      (pss_one (ps_set (i:=4) scReach.nd rfl (Or.inr rfl) (pe_op op_cat (pv 4) (pe_compC (N':=["_law_ware","_law_found"]) (fun σ=>[none,some 4].map fun t=>t.bind fun j=>(σ[j]?).join) rfl rfl (by decide +kernel) (by decide +kernel)
       (hk_of (sc:=defScope sReach) rfl (by decide +kernel)) (fun _ _ _=>blkN_by (sc:=defScope sReach) (N:=Nrea) [none,some 4] rfl rfl rfl rfl (by decide +kernel))
       (pi_list (pe_dget (hu_of hr) (pv 1) (pv 6) (fun _ _=>rfl))) (fun _ _ _ _ _ _=>pg_name (i:=0) ndWF rfl (Or.inl rfl))
       (fun _ _ _ _ _ _=>pifs_one (pt_cmpR (op_notInK (K:=K) rfl) (pv 0) (pv 1) rfl))
       (fun _ _ _ _ _ _=>pv 0))))))))
    (pss_one (ps_dput (hu_of hr) (pv 1) (pv 2) (pe_callB call_sortS rfl T.sorted' boot_sorted (pa_cons (pv 4) pa_nil)) rfl))))))
   (pss_one (ps_ret (pv 1)))))),?_⟩
  obtain ⟨z,a0,a1,a2,u1,u2,rfl,hz,h0,h1,l1,h2,l2⟩:=id bv
  have w20:=bl.o.w
  have nmd:=bl.bt.names
  have rcs:=bl.o.r
  have rl:=rcs.ln
  have dis:=bl.dis
  have wnd:b.ws.Nodup:=by rw [bl.ew]; exact (List.nodup_append.mp bl.bt.nd).1
  refine fun D nD => ?_
  have sD:=Same.upd (o:=.dK []) nD
  refine ⟨z,_,_,rfl,SqT.of (sD _ _ hz),rfl,a0,rfl,⟨_,SqT.of (sD _ _ h0)⟩,?_⟩
  refine for_tupN (xs:=b.ws.map V.str) (fun i σ H'=>∃ (v2:Option V) (kvs:List (Key × V)),σ=[some (.ref z),some (.ref D),v2,none,none,none,none]/\Same H H'/\RD H' D b.ws (belowF b.rs) (b.ws.take i) kvs) ⟨none,[],rfl,sD,upd_same,rfl,(fun x hx=>by simp at hx)⟩ (fun i σ H' _ hh=>by obtain ⟨_,_,_,sm,_⟩:=hh; exact SqT.of (sm _ _ h0)) ?_ ?_
  ·intro i v σ H1 D' hN hv hh
   obtain ⟨v2,kvs,rfl,s1,r1⟩:=hh
   rw [List.getElem?_map] at hv
   obtain ⟨x,hx,rfl⟩:=Option.map_eq_some_iff.mp hv
   have xw:=List.mem_of_getElem? hx
   have wl:(b.ws.take i).length<=20:=by rw [List.length_take]; omega
   refine ⟨_,rfl,(by show 1<=sizeLine; decide),fun l nl => ?_⟩
   have sl:=Same.upd (o:=.lst [.str x]) nl
   have r2:=r1.keep sl
   have kl:=r2.len
   have xn:x ∉ b.ws.take i:=fun hm=>by
    obtain ⟨m,hm'⟩:=List.getElem?_of_mem hm
    have ml:m < i:=by
     have:=(List.getElem?_eq_some_iff.mp hm').1
     rw [List.length_take] at this
     omega
    rw [List.getElem?_take_of_lt ml] at hm'
    have q:=List.pairwise_iff_getElem.mp wnd
    have il:=(List.getElem?_eq_some_iff.mp hx).1
    exact q m i (by omega) il ml (by rw [(List.getElem?_eq_some_iff.mp hm').2,(List.getElem?_eq_some_iff.mp hx).2])
   have bx:belowF b.rs x=[]:=below_no fun z=>by
    obtain ⟨p,hp,e⟩:=List.mem_map.mp z
    exact dis p hp (by rw [e]; exact xw)
   refine ⟨_,rfl,_,rfl,D,_,rfl,DPut.k (k:=.inr x) r2.hd (small1000 (by omega)),?_⟩
   refine hN _ _ ?_
   rw [take_snoc hx]
   refine ⟨_,_,rfl,sm_own' (s1.trans sl) nD,r2.put xn (xs:=[x]) upd_same ⟨rfl,by simp,fun y => ?_⟩ (by show 1<=40; decide)⟩
   rw [List.mem_singleton]
   exact ⟨fun e=>by rw [e]; exact ⟨xw,.refl _⟩,fun h=>h.2.none bx⟩
  ·intro σ H1 hh
   obtain ⟨v2,kvs,rfl,s1,r1⟩:=hh
   rw [List.length_map,List.take_length] at r1
   refine ⟨_,rfl,z,b.ws,u2,b.rs,rfl,⟨a0,_,a2,s1 _ _ hz,s1 _ _ h0,s1 _ _ h2,l2.imp fun _ _ x=>RecV.tk s1.tk x⟩,rcs,nmd,w20,fun xs L H2 s2 nL hL xl ore => ?_,fun xs H2 s2 lt ore => ?_⟩
   rotate_left
   ·exfalso
    have full:=full_of (by rw [bl.ew]; exact bl.bt) (ordE_ord ore) ore
    have e2:=nd_sub (ws:=xs) nmd (fun y hy=>by obtain ⟨p,hp,rfl⟩:=List.mem_map.mp hy; exact full.all p hp)
    rw [List.length_map] at e2
    omega
   have full:=full_of (by rw [bl.ew]; exact bl.bt) (ordE_ord ore) ore
   have r2:=r1.keep s2
   have s02:=s1.trans s2
   have DL:L ≠ D:=fun e=>by rw [e,r1.hd] at nL; cases nL
   refine ⟨L,rfl,⟨_,SqL.of hL⟩,?_⟩
   refine for_listN (xs:=xs.map V.str) (fun i σ H'=>∃ (v2 v3 v4 v5 v6:Option V) (kvs:List (Key × V)),σ=[some (.ref z),some (.ref D),v2,v3,v4,v5,v6]/\Same H H'/\H' L=some (.lst (xs.map V.str))/\RD H' D b.ws (belowF b.rs) (b.ws ++ xs.take i) kvs) ⟨_,_,_,_,_,_,rfl,s02,hL,by simpa using r2⟩ (fun i σ H' _ hh=>by obtain ⟨_,_,_,_,_,_,_,_,h,_⟩:=hh; exact SqL.of h) ?_ ?_
   ·intro i v σ H3 D' hN hv hh
    obtain ⟨v2',v3',v4',v5',v6',kvs3,rfl,s3,hL3,r3⟩:=hh
    rw [List.getElem?_map] at hv
    obtain ⟨x,hx,rfl⟩:=Option.map_eq_some_iff.mp hv
    obtain ⟨p,hp,rfl⟩:=List.mem_map.mp (full.sub x (List.mem_of_getElem? hx))
    obtain ⟨j,hj⟩:=List.getElem?_of_mem hp
    have eb:=below_of nmd hj
    have l23:L2R (RecV H3) u2 b.rs:=l2.imp fun _ _ x=>RecV.tk s3.tk x
    obtain ⟨kR,e1,e2,e3,e4⟩:=rows_kvs l23
    have kRnd:(kR.map (·.1)).Nodup:=by
     rw [e2]
     exact List.pairwise_map.mpr (nmd.imp fun h z=>h (Sum.inr.inj z))
    obtain ⟨q,rv,kq,hq,hrv⟩:=e4 j p hj
    have vq:=val_at kRnd kq
    have h23:=s3 _ _ h2
    refine ⟨z,_,_,rfl,SqT.of (s3 _ _ hz),rfl,a2,_,rfl,.inr (SqT.of h23),fun l1' n1' => ?_⟩
    have s4:=Same.upd (o:=.lst u2) n1'
    have hl1:upd H3 l1' (.lst u2) l1'=some (.lst u2):=upd_same
    generalize upd H3 l1' (.lst u2)=H4 at s4 hl1 ⊢
    refine ⟨l1',u2,kR,rfl,hl1,e1,kRnd,fun i u kv hu' hkv => ?_,fun R nR => ?_⟩
    ·obtain ⟨z',e,hz'⟩:=e3 i u kv hu' hkv
     exact ⟨z',e,s4 _ _ hz'⟩
    have s5:=Same.upd (o:=.dK kR) nR
    have hR:upd H4 R (.dK kR) R=some (.dK kR):=upd_same
    generalize upd H4 R (.dK kR)=H5 at s5 hR ⊢
    have s35:=s4.trans s5
    refine ⟨_,rfl,R,_,rfl,vq ▸ DGet.k (k:=Sum.inr p.1) hR,?_⟩
    refine ⟨(by show 0<=sizeLine; decide),fun Fd nF => ?_⟩
    have s6:=Same.upd (o:=.lst []) nF
    have hF:upd H5 Fd (.lst []) Fd=some (.lst (([]:List Str).map V.str)):=upd_same
    generalize upd H5 Fd (.lst [])=H6 at s6 hF ⊢
    have s36:=s35.trans s6
    have pr:=rcs.rw p hp
    have vl:=hrv.len
    refine ⟨_,rfl,q,rfl,⟨_,SqT.of (s36 _ _ hq)⟩,?_⟩
    refine for_tupN (xs:=rv) (fun m σ H'=>∃ (v5 v6:Option V) (F1:Addr) (zs:List Str),σ=[some (.ref z),some (.ref D),some (.str p.1),some (.ref q),some (.ref F1),v5,v6]/\Same H3 H'/\H' F1=some (.lst (zs.map V.str))/\zs.Nodup/\∀ y,y ∈ zs ↔ y ∈ b.ws/\∃ t ∈ thgs (p.2.take m),Rch (belowF b.rs) t y) ⟨_,_,Fd,[],rfl,s36,hF,List.nodup_nil,fun y=>⟨(fun h=>nomatch h),(fun h=>by obtain ⟨_,t,ht,_⟩:=h; cases ht)⟩⟩ (fun m σ H' _ hh=>by obtain ⟨_,_,_,_,_,sm,_⟩:=hh; exact SqT.of (sm _ _ hq)) ?_ ?_
    ·intro m u σ H7 D2 hN2 hu' hh
     obtain ⟨v5,v6,F1,zs,rfl,s7,hF1,znd,zm⟩:=hh
     obtain ⟨r,hr',rv'⟩:=hrv.get hu'
     have t10:=pr.2 r (List.mem_of_getElem? hr')
     refine ⟨_,rfl,u,r,rfl,rv'.keep s7.tk,t10,fun l H8 s8 nl hl=>⟨l,rfl,⟨_,SqL.of hl⟩,?_⟩⟩
     have et:thgs (p.2.take (m+1))=thgs (p.2.take m) ++ thg r:=by
      unfold thgs
      rw [List.take_add_one,hr',List.flatMap_append]
      simp
     refine for_listN (xs:=(thg r).map V.str) (fun n σ H'=>∃ (v6:Option V) (F1:Addr) (zs:List Str),σ=[some (.ref z),some (.ref D),some (.str p.1),some (.ref q),some (.ref F1),some u,v6]/\Same H8 H'/\H' F1=some (.lst (zs.map V.str))/\zs.Nodup/\∀ y,y ∈ zs ↔ y ∈ b.ws/\∃ t ∈ thgs (p.2.take m) ++ (thg r).take n,Rch (belowF b.rs) t y) ⟨_,F1,zs,rfl,Same.refl _,s8 _ _ hF1,znd,by simpa using zm⟩ (fun m σ H' _ hh=>by obtain ⟨_,_,_,_,sm,_⟩:=hh; exact SqL.of (sm _ _ hl)) ?_ ?_
     ·intro n v σ H9 D3 hN3 hv' hh
      obtain ⟨v6',F1',zs',rfl,s9,hF9,znd',zm'⟩:=hh
      rw [List.getElem?_map] at hv'
      obtain ⟨t,ht,rfl⟩:=Option.map_eq_some_iff.mp hv'
      have tb:t ∈ belowF b.rs p.1:=by
       rw [eb]
       exact List.mem_flatMap.mpr ⟨r,List.mem_of_getElem? hr',List.mem_of_getElem? ht⟩
      have tk:t ∈ b.ws ++ xs.take i:=by
       rcases full.ord i p.1 hx t tb with h | h
       ·exact List.mem_append_left _ h
       ·exact List.mem_append_right _ h
      have s39:=(s7.trans s8).trans s9
      have r9:=r3.keep s39
      obtain ⟨l',ys,gv,hl',wl,yl⟩:=r9.at' t tk
      have zw:zs'.length<=b.ws.length:=nd_sub znd' fun y hy=>((zm' y).mp hy).1
      refine ⟨_,rfl,_,rfl,_,rfl,D,_,rfl,gv ▸ DGet.k (k:=.inr t) r9.hd,l',rfl,⟨_,SqL.of hl'⟩,fun C nC => ?_⟩
      refine comp_filt (Ys.list (SqL.of hl')) (fun v => !inV v (zs'.map V.str)) (fun x y _=>y=x) (fun _ _ _ _ h _=>h) nC (by rw [List.length_map]; omega) (fun i' v H' R1 R2 hv' sm q1 q2 => ?_) (fun os HA sA hC ol ho => ?_)
      ·rw [List.getElem?_map] at hv'
       obtain ⟨u',hu'',rfl⟩:=Option.map_eq_some_iff.mp hv'
       refine ⟨(Keep.refl _).set rfl,_,rfl,_,rfl,F1',_,rfl,.inl (SqL.of (sm _ _ hF9)),rfl,flat_strs _,_,rfl,ite2 (fun h1 => ?_) (fun h1 => ?_)⟩
       ·exact ⟨_,rfl,q1 h1 _ _ (Same.refl _) rfl⟩
       ·exact q2 (by simpa using h1) _ (Same.refl _)
      have eo:os=(ys.filter fun u => !inV (.str u) (zs'.map V.str)).map V.str:=by
       have e:(ys.map V.str).filter (fun v => !inV v (zs'.map V.str))=(ys.filter fun u => !inV (.str u) (zs'.map V.str)).map V.str:=by
        rw [List.filter_map]; rfl
       rw [e] at ol ho
       exact list_eq ol fun i x y hx hy=>(ho i x y hx hy)
      have nd2:(zs' ++ ys.filter fun u => !inV (.str u) (zs'.map V.str)).Nodup:=by
       refine List.nodup_append.mpr ⟨znd',wl.nd.filter _,fun a ha b hb e => ?_⟩
       have:=(List.mem_filter.mp hb).2
       rw [<- e,in_strs.mpr ha] at this
       cases this
      rw [eo] at hC
      have fl:=List.length_filter_le (fun u => !inV (.str u) (zs'.map V.str)) ys
      refine ⟨F1',C,_,_,rfl,rfl,sA _ _ hF9,hC,by rw [List.length_map,List.length_map]; exact Nat.le_of_lt (small1000 (by omega)),fun N nN => ?_⟩
      refine hN3 _ _ ⟨_,N,zs' ++ ys.filter fun u => !inV (.str u) (zs'.map V.str),rfl,(s9.trans sA).trans (Same.upd nN),by rw [upd_same,List.map_append],nd2,fun y => ?_⟩
      rw [take_snoc ht,List.mem_append,List.mem_filter,zm' y]
      constructor
      ·rintro (⟨a,t',ht',rt'⟩ | ⟨hy,_⟩)
       ·exact ⟨a,t',by rw [<- List.append_assoc]; exact List.mem_append_left _ ht',rt'⟩
       ·obtain ⟨a,rt⟩:=(wl.mm y).mp hy
        exact ⟨a,t,by simp,rt⟩
      ·rintro ⟨a,t',ht',rt'⟩
       rw [<- List.append_assoc] at ht'
       rcases List.mem_append.mp ht' with h | h
       ·exact .inl ⟨a,t',h,rt'⟩
       ·rw [List.mem_singleton.mp h] at rt'
        by_cases hz':y ∈ zs'
        ·exact .inl ((zm' y).mp hz')
        ·refine .inr ⟨(wl.mm y).mpr ⟨a,rt'⟩,?_⟩
         cases e:inV (.str y) (zs'.map V.str) with
         | false=>rfl
         | true=>exact absurd (in_strs.mp e) hz'
     ·intro σ H9 hh
      obtain ⟨v6',F1',zs',rfl,s9,hF9,znd',zm'⟩:=hh
      rw [List.length_map,List.take_length,<- et] at zm'
      exact hN2 _ _ ⟨_,_,F1',zs',rfl,(s7.trans s8).trans s9,hF9,znd',zm'⟩
    ·intro σ H7 hh
     obtain ⟨v5,v6,F1,zs,rfl,s7,hF1,znd,zm⟩:=hh
     rw [vl,List.take_length,<- eb] at zm
     have r7:=r3.keep s7
     have kl:=r7.len
     have zw:zs.length<=b.ws.length:=nd_sub znd fun y hy=>((zm y).mp hy).1
     refine ⟨_,rfl,F1,zs,rfl,SqL.of hF1,by omega,fun p' ss' pm so np => ?_⟩
     have s8:=Same.upd (o:=.lst (ss'.map V.str)) np
     have r8:=r7.keep s8
     have wl40:(b.ws ++ xs.take i).length<=40:=by rw [List.length_append,List.length_take]; omega
     refine ⟨_,rfl,_,rfl,D,_,rfl,DPut.k (k:=.inr p.1) r8.hd (small1000 (by omega)),?_⟩
     refine hN _ _ ?_
     rw [take_snoc hx,<- List.append_assoc]
     have pn:p.1 ∉ b.ws ++ xs.take i:=fun hm=>by
      rcases List.mem_append.mp hm with h | h
      ·exact dis p hp h
      ·obtain ⟨m,hm'⟩:=List.getElem?_of_mem h
       have ml:m < i:=by
        have:=(List.getElem?_eq_some_iff.mp hm').1
        rw [List.length_take] at this
        omega
       rw [List.getElem?_take_of_lt ml] at hm'
       have q:=List.pairwise_iff_getElem.mp full.nd
       have il:=(List.getElem?_eq_some_iff.mp hx).1
       exact q m i (by omega) il ml (by rw [(List.getElem?_eq_some_iff.mp hm').2,(List.getElem?_eq_some_iff.mp hx).2])
     refine ⟨_,_,_,_,_,_,rfl,sm_own' ((s3.trans s7).trans s8) nD,by rw [upd_ne DL]; exact (s7.trans s8) _ _ hL3,r8.put pn upd_same ⟨so,pm.nodup_iff.mpr znd,fun y => ?_⟩ (by rw [pm.length_eq]; omega)⟩
     rw [pm.mem_iff,zm y]
     refine and_congr_right fun yw=>⟨fun ⟨t,ht,rt⟩=>.step ht rt,fun rt=>rt.next fun e=>dis p hp (by rw [e]; exact yw)⟩
   ·intro σ H3 hh
    obtain ⟨v2',v3',v4',v5',v6',kvs3,rfl,s3,hL3,r3⟩:=hh
    rw [List.length_map,List.take_length] at r3
    exact ⟨_,rfl,k D _ _ xs H3 s3 nD r3 rfl full⟩
end
end K17
namespace K17
open PySem PySem.Spec PyProof.Rows L2 GM TM BQ TR RH
def spWayR:Sp:=fun vs H Q _=>∃ (v:V) (l:Addr) (b:Bs) (x y:Str) (way:List Str),vs=[v,.ref l,.str x,.str y]/\BookV H v b/\RcS b.rs/\(b.rs.map (·.1)).Nodup/\H l=some (.lst (way.map V.str))/\WayD b.rs x y way/\∀ H',Same H H'->Q (.bl true) H'
section
variable {P:Program}{w:World}{K:PySem.W.Frag}{mg:Str->Option Value}{base:Heap}
theorem scWayR:FnScope ["_law_book_here","_law_way","_law_recipe","_law_ware","_law_name","_law_rows_by","_law_k","_law_things_here","_law_row_here"] ["_law_book_here","_law_way","_law_recipe","_law_ware"] (defScope sWayR):=⟨rfl,rfl,rfl,by decide +kernel,rfl,by decide +kernel,by decide +kernel⟩
theorem ok_wayr {f:Addr}{fd:FuncData}(F:Fun K "_law_way_right" "_law_way_right" sWayR f fd)(T:Txt mg)(cT:Cal P w K mg base CX0 1 "_law_things" ["_law_row_here"] spThings):FnOk P w K mg base CX0 2 f fd ["_law_book_here","_law_way","_law_recipe","_law_ware"] spWayR:=by
 refine F.ok scWayR (fun vs H Q E h => ?_) (fun cdv A outer s H vs Q E hr h => ?_)
 ·obtain ⟨_,_,_,_,_,_,rfl,_⟩:=h
  rfl
 ·obtain ⟨v,l,b,x,y,way,rfl,bv,rcs,nmd,hl,wd,k⟩:=h
  refine ⟨_,(pss_cons (ps_if (PW.pt (pw_or (pt_not (pt_val (pe_callB call_isi rfl T.isi boot_isinstance (pa_cons (pv 1) (pa_cons (pe_bltn (v:=.ty "list") rfl T.list' bt_list rfl) pa_nil))))) (pw_or (pt_cmpR op_lt (pe_callB call_len_seq rfl T.len PySem.boot_len (pa_cons (pv 1) pa_nil)) pe_int (nomark _)) (pw_or (pt_cmpR op_ne (pe_ix ix_list (pv 1) pe_int (fun _ _=>rfl)) (pv 2) (nomark _)) (pw_or1 (pt_cmpR op_ne (pe_ix ix_list (pv 1) (pe_un un_neg pe_int) (fun _ _=>rfl)) (pv 3) (nomark _)))))))
    (pss_one (ps_ret pe_bl))
    pss_nil)
   (pss_cons (ps_for PassesOwn.never rfl (pi_list (pv 1)) (pg_name (i:=4) scWayR.nd rfl (Or.inl rfl))
    (pss_one (ps_if (pt_not (pt_val (pe_callB call_isi rfl T.isi boot_isinstance (pa_cons (pv 4) (pa_cons (pe_bltn (v:=.ty "str") rfl T.str' bt_str rfl) pa_nil)))))
    (pss_one (ps_ret pe_bl))
    pss_nil)))
   (pss_cons (ps_set (i:=5) scWayR.nd rfl (Or.inl rfl) (pe_callTy (call_dictL rfl) rfl T.dict' bt_dict (pa_cons (pe_callTy call_list_of rfl T.list' bt_list (pa_cons (pit 0 2) pa_nil)) pa_nil)))
   (pss_cons (ps_for PassesOwn.never rfl (pi_range2 rfl T.range (pa_cons pe_int (pa_cons (pe_callB call_len_seq rfl T.len PySem.boot_len (pa_cons (pv 1) pa_nil)) pa_nil))) (pg_name (i:=6) scWayR.nd rfl (Or.inl rfl))
    (pss_cons (ps_if (pt_cmp (pc_dnotin (hu_of hr) (pe_ix ix_list (pv 1) (pe_op op_sub (pv 6) pe_int) (fun _ _=>rfl)) (pv 5)))
    (pss_one (ps_ret pe_bl))
    pss_nil)
   (pss_cons (ps_set (i:=7) scWayR.nd rfl (Or.inl rfl) (pe_lst pa_nil))
   (pss_cons (ps_for PassesOwn.never rfl (pi_tup (pe_dget (hu_of hr) (pv 5) (pe_ix ix_list (pv 1) (pe_op op_sub (pv 6) pe_int) (fun _ _=>rfl)) (fun _ _=>rfl))) (pg_name (i:=8) scWayR.nd rfl (Or.inl rfl))
    (pss_one (ps_expr (pe_bm PySem.F.plainAttrs_list PySem.F.slot_list_extend PySem.F.type_list_extend mt_extend (pv 7) (pa_cons (pe_cal cT hr rfl pass0 (pa_cons (pv 8) pa_nil)) pa_nil)))))
   (pss_one (ps_if (pt_cmpR op_notIn_seq (pe_ix ix_list (pv 1) (pv 6) (fun _ _=>rfl)) (pv 7) rfl)
    (pss_one (ps_ret pe_bl))
    pss_nil))))))
   (pss_one (ps_ret pe_bl)))))),?_⟩
  obtain ⟨z,a0,a1,a2,u1,u2,rfl,hz,h0,h1,l1,h2,l2⟩:=id bv
  have rlen:(way.map V.str).length=way.length:=List.length_map ..
  have w2:=wd.l2
  have w21:=wd.ll
  obtain ⟨w',ew⟩:=wd.h1
  have hx0:atI (way.map V.str) 0=some (.str x):=atI_nat (j:=0) (by rw [List.getElem?_map,wd.h0]; rfl)
  have hlast:atI (way.map V.str) (-1)=some (.str y):=by
   rw [ew,List.map_append]
   exact atI_last _ _
  refine ⟨_,rfl,_,"list",true,rfl,.lst_list (SqL.of hl),_,rfl,iteF ⟨_,rfl,l,_,rfl,.inl (SqL.of hl),_,_,rfl,rfl,_,rfl,ite2 (fun hc => ?_) (fun hc => ?_)⟩⟩
  ·have:(((way.map V.str).length:Nat):Int) < 2:=of_decide_eq_true hc
   rw [rlen] at this
   omega
  refine ⟨_,rfl,l,_,0,.str x,rfl,rfl,SqL.of hl,hx0,_,rfl,rfl,_,rfl,ite2 (fun hc=>by simp at hc) (fun hc => ?_)⟩
  refine ⟨_,rfl,_,rfl,l,_,-1,.str y,rfl,rfl,SqL.of hl,hlast,_,rfl,rfl,_,rfl,ite2 (fun hc=>by simp at hc) (fun hc => ?_)⟩
  refine ⟨_,rfl,l,rfl,⟨_,SqL.of hl⟩,?_⟩
  refine for_listN (xs:=way.map V.str) (fun i σ H'=>∃ v4:Option V,σ=[some (.ref z),some (.ref l),some (.str x),some (.str y),v4,none,none,none,none]/\H=H') ⟨none,rfl,rfl⟩ (fun i σ H' _ hh=>by obtain ⟨_,_,rfl⟩:=hh; exact SqL.of hl) ?_ ?_
  ·intro i v σ H1 D' hN hv hh
   obtain ⟨v4,rfl,rfl⟩:=hh
   rw [List.getElem?_map] at hv
   obtain ⟨u,hu,rfl⟩:=Option.map_eq_some_iff.mp hv
   exact ⟨_,rfl,_,"str",true,rfl,.str_str,_,rfl,iteF (hN _ _ ⟨_,rfl,rfl⟩)⟩
  intro σ H1 hh
  obtain ⟨v4,rfl,rfl⟩:=hh
  refine ⟨z,_,_,rfl,SqT.of hz,rfl,a2,_,rfl,.inr (SqT.of h2),fun l1' n1' => ?_⟩
  have s2:=Same.upd (o:=.lst u2) n1'
  have hl1:upd H l1' (.lst u2) l1'=some (.lst u2):=upd_same
  generalize upd H l1' (.lst u2)=H2 at s2 hl1 ⊢
  obtain ⟨kR,e1,e2,e3,e4⟩:=rows_kvs l2
  have kRnd:(kR.map (·.1)).Nodup:=by
   rw [e2]
   exact List.pairwise_map.mpr (nmd.imp fun h z=>h (Sum.inr.inj z))
  refine ⟨l1',u2,kR,rfl,hl1,e1,kRnd,fun i u kv hu' hkv => ?_,fun R nR => ?_⟩
  ·obtain ⟨z',e,hz'⟩:=e3 i u kv hu' hkv
   exact ⟨z',e,s2 _ _ hz'⟩
  have sR:=Same.upd (o:=.dK kR) nR
  have hR:upd H2 R (.dK kR) R=some (.dK kR):=upd_same
  generalize upd H2 R (.dK kR)=H3 at sR hR ⊢
  have s03:=s2.trans sR
  refine ⟨_,rfl,l,_,rfl,.inl (SqL.of (s03 _ _ hl)),1,_,rfl,⟨by decide,by decide,by omega,by omega⟩,?_⟩
  refine for_rangeN (fun i σ H'=>∃ v6 v7 v8:Option V,σ=[some (.ref z),some (.ref l),some (.str x),some (.str y),v4,some (.ref R),v6,v7,v8]/\Same H3 H') ⟨none,none,none,rfl,Same.refl _⟩ ?_ ?_
  ·intro i σ H4 D' hN hi hh
   obtain ⟨v6,v7,v8,rfl,s4⟩:=hh
   have hi':i+1 < way.length:=by rw [rlen] at hi; omega
   obtain ⟨c,hc⟩ : ∃ c,way[i]?=some c:=⟨_,List.getElem?_eq_getElem (by omega)⟩
   obtain ⟨d,hd⟩ : ∃ d,way[i+1]?=some d:=⟨_,List.getElem?_eq_getElem hi'⟩
   have cd:=wd.ch i c d hc hd
   have cr:c ∈ b.rs.map (·.1):=by
    by_cases h:c ∈ b.rs.map (·.1)
    ·exact h
    ·rw [below_no h] at cd; cases cd
   obtain ⟨p,hp,rfl⟩:=List.mem_map.mp cr
   obtain ⟨j,hj⟩:=List.getElem?_of_mem hp
   rw [below_of nmd hj] at cd
   obtain ⟨q,rv,kq,hq,hrv⟩:=e4 j p hj
   have vq:=val_at kRnd kq
   have s04:=s03.trans s4
   have hl4:=s04 _ _ hl
   have ei:(1:Int)+(i:Int) - 1=(i:Int):=by omega
   have ei2:(1:Int)+(i:Int)=((i+1:Nat):Int):=by omega
   have aix:atI (way.map V.str) ((1:Int)+(i:Int) - 1)=some (.str p.1):=by rw [ei]; exact atI_nat (by rw [List.getElem?_map,hc]; rfl)
   have aix2:atI (way.map V.str) ((1:Int)+(i:Int))=some (.str d):=by rw [ei2]; exact atI_nat (by rw [List.getElem?_map,hd]; rfl)
   refine ⟨_,rfl,_,rfl,_,_,rfl,rfl,l,_,_,.str p.1,rfl,rfl,SqL.of hl4,aix,_,rfl,R,some (.ref q),rfl,vq ▸ DGet.k (k:=Sum.inr p.1) (s4 _ _ hR),_,rfl,iteF ?_⟩
   refine ⟨(by show 0<=sizeLine; decide),fun L nL => ?_⟩
   have sL:=Same.upd (o:=.lst []) nL
   have hL:upd H4 L (.lst []) L=some (.lst []):=upd_same
   have nL3:H3 L=none:=sm_none' s4 nL
   generalize upd H4 L (.lst [])=H6 at sL hL ⊢
   have s36:=s4.trans sL
   have s06:=s03.trans s36
   have pr:=rcs.rw p hp
   have vl:=hrv.len
   have all10:=fun i=>thgs_len (rs:=p.2.take i) fun r hr=>pr.2 r (List.mem_of_mem_take hr)
   refine ⟨_,rfl,_,rfl,_,rfl,_,_,rfl,rfl,l,_,_,.str p.1,rfl,rfl,SqL.of (s06 _ _ hl),aix,R,_,rfl,vq ▸ DGet.k (k:=Sum.inr p.1) (s36 _ _ hR),q,rfl,⟨_,SqT.of (s06 _ _ hq)⟩,?_⟩
   refine for_tupN (xs:=rv) (fun m σ H'=>∃ v8:Option V,σ=[some (.ref z),some (.ref l),some (.str x),some (.str y),v4,some (.ref R),some (.int ((1:Int)+(i:Int))),some (.ref L),v8]/\Same H3 H'/\H' L=some (.lst ((thgs (p.2.take m)).map V.str))) ⟨_,rfl,s36,hL⟩ (fun m σ H' _ hh=>by obtain ⟨_,_,sm,_⟩:=hh; exact SqT.of ((s03.trans sm) _ _ hq)) ?_ ?_
   ·intro m u σ H7 D2 hN2 hu' hh
    obtain ⟨v8',rfl,s7,hL7⟩:=hh
    obtain ⟨r,hr',rv'⟩:=hrv.get hu'
    refine ⟨_,rfl,.inl ⟨rfl,_,SqL.of hL7⟩,_,rfl,u,r,rfl,rv'.keep (s03.trans s7).tk,pr.2 r (List.mem_of_getElem? hr'),fun l' H8 s8 nl' hl' => ?_⟩
    have e:thgs (p.2.take (m+1))=thgs (p.2.take m) ++ thg r:=by
     unfold thgs
     rw [List.take_add_one,hr',List.flatMap_append]
     simp
    have l1:=all10 (m+1)
    rw [e,List.length_append,List.length_take] at l1
    refine ⟨L,l',_,_,rfl,rfl,s8 _ _ hL7,hl',by rw [List.length_map,List.length_map]; exact Nat.le_of_lt (small1000 (by omega)),?_⟩
    refine hN2 _ _ ⟨_,rfl,sm_own' (s7.trans s8) nL3,?_⟩
    rw [upd_same,e,List.map_append]
   intro σ H7 hh
   obtain ⟨v8',rfl,s7,hL7⟩:=hh
   rw [vl,List.take_length] at hL7
   have s07:=s03.trans s7
   refine ⟨_,rfl,_,rfl,l,_,_,.str d,rfl,rfl,SqL.of (s07 _ _ hl),aix2,_,rfl,L,_,rfl,.inl (SqL.of hL7),rfl,flat_strs _,_,rfl,ite2 (fun h1 => ?_) (fun _=>hN _ _ ⟨_,_,_,rfl,s7⟩)⟩
   have h1':(!inV (V.str d) ((thgs p.2).map V.str))=true:=h1
   rw [in_strs.mpr cd] at h1'
   cases h1'
  ·intro σ H4 hh
   obtain ⟨v6,v7,v8,rfl,s4⟩:=hh
   exact k H4 (s03.trans s4)
end
end K17
namespace K17
open PySem PySem.Spec PyProof.Rows L2 GM TM BQ TR RH
def spLookL (c:Addr):Sp:=fun vs H Q _=>∃ (v:V) (b:Bs) (ws rs:List Str) (t:Int),vs=[v]/\BookV H v b/\BkM ws rs t b /\
 (FM b.rs b.ps none->∀ z l (xs:List Str) H',Same H H'->H' z=some (.tup [.ref l,.non])->H l=none->H' l=some (.lst (xs.map V.str))->OrdE b.rs b.ws xs->Q (.ref z) H') /\
 (∀ x a d w1 w2,FM b.rs b.ps (some (x,a,d))->WayD b.rs x a w1->WayD b.rs x d w2->∀ z e dx D H',Same H H'->H' z=some (.tup [.non,.ref e])->H' e=some (excD e c (some dx))->H' dx=some (meetF dx x a d D)->TwoL H' D w1 w2->Q (.ref z) H')
section
variable {P:Program}{w:World}{K:PySem.W.Frag}{mg:Str->Option Value}{base:Heap}{cP c0 c1 c2 c3 c4 c5 c6 c7 c8 f5:Addr}
theorem scLookL:FnScope ["_law_book_here","_law_refused","_law_found","_law_e"] ["_law_book_here"] (defScope sLookL):=⟨rfl,rfl,rfl,by decide +kernel,rfl,by decide +kernel,by decide +kernel⟩
theorem ok_lookl {f:Addr}{fd:FuncData}(F:Fun K "_law_looked" "_law_looked" sLookL f fd)(R:ErM K mg cP c0 c1 c2 c3 c4 c5 c6 c7 c8 f5)(cK:Cal P w K mg base (CXg P w) 8 "looked" ["book"] (spLooked c5)):FnOk P w K mg base CX0 9 f fd ["_law_book_here"] (spLookL c5):=by
 refine F.ok scLookL (fun vs H Q E h => ?_) (fun cdv A outer s H vs Q E hr h => ?_)
 ·obtain ⟨_,_,_,_,_,rfl,_⟩:=h
  rfl
 ·obtain ⟨v,b,ws,rs,t,rfl,bv,bl,k1,k2⟩:=h
  refine ⟨_,(pss_cons (ps_set (i:=1) scLookL.nd rfl (Or.inl rfl) pe_non)
   (pss_cons (ps_set (i:=2) scLookL.nd rfl (Or.inl rfl) pe_non)
   (pss_cons (ps_tryS (i:=3) (j:=1) ⟨rfl,rfl,rfl⟩ rfl R.mP R.ct scLookL.nd rfl rfl rfl rfl (by decide) (fun pins E' σ Ec hp=>pss_one (ps_set (i:=2) scLookL.nd rfl (Or.inl rfl) (pe_calS cK hr rfl hp (pa_cons (pv 0) pa_nil)))))
   (pss_one (ps_ret (pe_tup (pa_cons (pv 2) (pa_cons (pv 1) pa_nil)))))))),?_⟩
  refine ⟨rfl,_,rfl,v,b,ws,rs,t,rfl,bv,bl,fun fm l xs H1 s1 nl hl _ ore => ?_,fun x a d w1 w2 fm d1 d2 dx D H1 s1 hdx hD=>⟨c5,rfl,R.e5.i.k,R.s5,fun e he => ?_⟩⟩
  ·exact ⟨_,rfl,_,rfl,(by show 2<=sizeLine; decide),fun z nz=>k1 fm z l xs _ (s1.trans (Same.upd nz)) upd_same nl (Same.upd nz _ _ hl) ore⟩
  ·have se:=Same.upd (o:=excD e c5 (some dx)) he
   exact ⟨_,rfl,_,rfl,(by show 2<=sizeLine; decide),fun z nz=>k2 x a d w1 w2 fm d1 d2 z e dx D _ ((s1.trans se).trans (Same.upd nz)) upd_same (Same.upd nz _ _ upd_same) (Same.upd nz _ _ (se _ _ hdx)) (hD.keep (se.trans (Same.upd nz)))⟩
end
end K17
namespace L2
open PySem PySem.Spec PyProof.Rows
theorem deq_strs {K:PySem.W.Frag}{H:Hp}{n:Nat}(ns ms:List Str) : ∀ (j:Nat) x y,(ns.map V.str)[j]?=some x->(ms.map V.str)[j]?=some y->DEq K H n x y (ns[j]? == ms[j]?):=by
 intro j x y h1 h2
 rw [List.getElem?_map] at h1 h2
 cases e1:ns[j]? with
 | none=>rw [e1] at h1; cases h1
 | some a =>
  cases e2:ms[j]? with
  | none=>rw [e2] at h2; cases h2
  | some b =>
   rw [e1] at h1
   rw [e2] at h2
   cases h1
   cases h2
   have:(some a == some b)=eqV (V.str a) (V.str b):=by
    show (a == b)=(a == b)
    rfl
   rw [this]
   exact DEq.flat rfl rfl
theorem all_strs : ∀ (ns ms:List Str),((List.range (min ns.length ms.length)).all (fun j=>ns[j]? == ms[j]?) && ns.length == ms.length)=decide (ns=ms):=by
 intro ns ms
 rw [Bool.eq_iff_iff]
 simp only [Bool.and_eq_true,List.all_eq_true,List.mem_range,beq_iff_eq,decide_eq_true_eq]
 constructor
 ·rintro ⟨h,hl⟩
  refine List.ext_getElem? fun i => ?_
  by_cases hi:i < ns.length
  ·exact h i (by omega)
  ·rw [List.getElem?_eq_none (by omega),List.getElem?_eq_none (by omega)]
 ·rintro rfl
  exact ⟨fun _ _=>rfl,rfl⟩
def rNeS (K:PySem.W.Frag):R2:=fun x y H Q=>∃ a b,∃ ns ms:List Str,x = .ref a/\y = .ref b/\SqT K H a (ns.map V.str)/\SqT K H b (ms.map V.str)/\Q (.bl (!decide (ns=ms))) H
theorem op_neS {X:Cx}(hu:X.A.units+64 < cLine):OpR X (compareOp .NotEq) (rNeS X.K):=by
 intro pins s σ H x y v u Q I rx ry h
 obtain ⟨a,b,ns,ms,rfl,rfl,hx,hy,q⟩:=h
 refine op_neT hu pins s σ H _ _ v u Q I rx ry ⟨a,b,_,_,fun j=>ns[j]? == ms[j]?,rfl,rfl,hx,hy,deq_strs ns ms,?_⟩
 rw [List.length_map,List.length_map,all_strs]
 exact q
theorem op_neSK {X:Cx}{K:PySem.W.Frag}(h:X.K=K)(hu:X.A.units+64 < cLine):OpR X (compareOp .NotEq) (rNeS K):=h ▸ op_neS hu
end L2
namespace PySem.SeqAt
open PySem MeetsSeq
end PySem.SeqAt
namespace HT
open PySem PySem.Spec PyProof.Rows
section
variable {prog:Program}{w:World}{A:Around}{E:Value->Shared->Prop}{s:Shared}
theorem getItem_tuple_whole {t sl:Addr}{items:Array Value}{vl vu:Value}{lo hi:Option Int}{Q:Value->Shared->Prop}(ht:IsTup s.heap t items)(hs:s.heap.IsSliceOf sl vl vu .none)(pl:IsPart vl lo)(pu:IsPart vu hi)
  (hw:sIx items.size 0 lo=0/\sIx items.size items.size hi=items.size) (h:Q (.ref t) s):wpAny (model prog w) A (getItem (.ref t) (.ref sl)) Q E s:=by
 obtain ⟨os,hos,hcs,hds⟩:=id hs
 have hTs:s.TypeIs (.ref sl) "slice" := ⟨os,hos,hcs⟩
 unfold getItem
 try with_reducible refine wpAny_holding ?_
 first | refine wpAny_bind (wpAny_pure ?_) | skip
 refine wpAny_bind (wpAny_sequenceKey ht.typeIs (by decide) ?_)
 refine wpAny_bind (wpAny_callSpecial?_slot (name:=Str.ofString "__getitem__") ht.typeIs PyProof.Rows.slot_tuple_getitem
  (wpAny_call_entry PyProof.Rows.slot_tuple_getitem ht.typeIs entry_tuple_getitem ?_ (args_tuple_getitem _ _)))
 show wpAny _ _ (Builtin.Tuple.tupleItemsOf (.ref t) >>= _) _ _ s
 refine wpAny_bind (tupleItemsOf_ ht ?_)
 refine wpAny_bind (wpAny_typeOf hTs ?_)
 rw [if_pos (by decide)]
 refine wpAny_bind (sliceApplied_gen hs pl pu ?_)
 rw [hw.1,hw.2]
 have hyes:(((0:Nat):Int) == 0 && (1:Int) == 1 && (items.size - 0) == items.size)=true:=by simp
 show wpAny _ _ (if (((0:Nat):Int) == 0 && (1:Int) == 1 && (items.size - 0) == items.size)=true then _ else _) _ _ s
 rw [if_pos hyes]
 refine wpAny_bind (m:=Builtin.Tuple.tupleIsExact (.ref t)) ?_
 unfold Builtin.Tuple.tupleIsExact
 refine wpAny_bind (wpAny_typeOf ht.typeIs (wpAny_pure ?_))
 rw [if_pos (by decide)]
 exact wpAny_bind (wpAny_rule (wpAny_pure ⟨_,rfl,wpAny_pure h⟩))
end
end HT
namespace L2
open PySem PySem.Spec PyProof.Rows
def rIndexF:V->List V->Hp->VK->Prop:=fun x vs H Q=>∃ l xs y,∃ i j:Nat,∃ z,x = .ref l/\vs=[y,.int (i:Int)]/\H l=some (.lst xs)/\flatV y=true/\xs.all flatV=true/\i<=j/\xs[j]?=some z/\eqV z y=true /\
 (∀ m z,i<=m->m < j->xs[m]?=some z->eqV z y=false)/\Q (.int (j:Int)) H
section
variable {X:Cx}
def rSlTA (K:PySem.W.Frag):V->Option Int->Option Int->Hp->VK->Prop:=fun x lo hi H Q=>∃ a xs,x = .ref a/\H a=some (.tup xs)/\∀ p H',Same H H'->H' p=some (.tup (cutV xs lo hi))->Q (.ref p) H'
theorem sl_tupA:SlR X (rSlTA X.K):=by
 intro pins s σ H x v vl vu lo hi sl Q I rx hs pl pu h
 obtain ⟨a,xs,rfl,hx,q⟩:=h
 by_cases hw:HT.sIx xs.length 0 lo=0/\HT.sIx xs.length xs.length hi=xs.length
 ·cases rx
  obtain ⟨its,r,ht,hz⟩:=I.tuple (SqT.of hx)
  have hlen:its.toArray.size=xs.length:=by rw [List.size_toArray]; exact r.length.symm
  refine ⟨"tuple",_,PyProof.Rows.slot_tuple_getitem.lookup,ht.typeIs,?_⟩
  refine HT.getItem_tuple_whole ht hs pl pu (by rw [hlen]; exact hw) ⟨.ref a,H,I,rfl,q a H (Same.refl _) ?_⟩
  unfold cutV
  rw [hw.1,hw.2,List.drop_zero,Nat.sub_zero,List.take_length]
  exact hx
 ·exact sl_tup pins s σ H _ v vl vu lo hi sl Q I rx hs pl pu ⟨a,xs,rfl,SqT.of hx,hw,fun p hp=>q p _ (Same.upd hp) upd_same⟩
end
end L2
namespace K17
open PySem PySem.Spec PyProof.Rows L2 GM TM BQ TR RH
def spMeetR (c:Addr):Sp:=fun vs H Q _=>∃ (v:V) (e z dx D:Addr) (b:Bs) (x a d:Str) (w1 w2:List Str),vs=[v,.ref e,.ref z]/\BookV H v b/\RcS b.rs/\(b.rs.map (·.1)).Nodup/\H e=some (excD e c (some dx))/\H dx=some (meetF dx x a d D)/\TwoL H D w1 w2/\WayD b.rs x a w1/\WayD b.rs x d w2/\H z=some (.tup [.str x,.str a,.str d])/\∀ H',Same H H'->Q (.bl true) H'
section
variable {P:Program}{w:World}{K:PySem.W.Frag}{mg:Str->Option Value}{base:Heap}{cP c0 c1 c2 c3 c4 c5 c6 c7 c8 f5:Addr}
theorem scMeetR:FnScope ["_law_book_here","_law_refused","_law_due","_law_way","_law_ware"] ["_law_book_here","_law_refused","_law_due"] (defScope sMeetR):=⟨rfl,rfl,rfl,by decide +kernel,rfl,by decide +kernel,by decide +kernel⟩
theorem ok_meetr {f:Addr}{fd:FuncData}(F:Fun K "_law_meets_right" "_law_meets_right" sMeetR f fd)(T:Txt mg)(R:ErM K mg cP c0 c1 c2 c3 c4 c5 c6 c7 c8 f5)(cK:Cal P w K mg base CX0 2 "_law_kind" ["_law_e"] (spKind 5 c5))(cW:Cal P w K mg base CX0 2 "_law_way_right" ["_law_book_here","_law_way","_law_recipe","_law_ware"] spWayR):FnOk P w K mg base CX0 3 f fd ["_law_book_here","_law_refused","_law_due"] (spMeetR c5):=by
 refine F.ok scMeetR (fun vs H Q E h => ?_) (fun cdv A outer s H vs Q E hr h => ?_)
 ·obtain ⟨_,_,_,_,_,_,_,_,_,_,_,rfl,_⟩:=h
  rfl
 ·obtain ⟨v,e,z,dx,D,b,x,a,d,w1,w2,rfl,bv,rcs,nmd,he,hdx,hD,d1,d2,hz,k⟩:=h
  refine ⟨_,(pss_cons (ps_if (PW.pt (pw_or (pt_cmpR op_isN (pv 1) pe_non (nomark _)) (pw_or1 (pt_cmpR op_ne (pe_cal cK hr rfl pass0 (pa_cons (pv 1) pa_nil)) pe_int (nomark _)))))
    (pss_one (ps_ret pe_bl))
    pss_nil)
   (pss_cons (ps_if (pt_cmpR (op_neS hr.units) (pe_tup (pa_cons (pe_exf (pv 1) rfl) (pa_cons (pe_exf (pv 1) rfl) (pa_cons (pe_exf (pv 1) rfl) pa_nil)))) (pv 2) (nomark _))
    (pss_one (ps_ret pe_bl))
    pss_nil)
   (pss_cons (ps_if (PW.pt (pw_or (pt_not (pt_val (pe_callB call_isi rfl T.isi boot_isinstance (pa_cons (pe_exf (pv 1) rfl) (pa_cons (pe_bltn (v:=.ty "tuple") rfl T.tup' bt_tuple rfl) pa_nil))))) (pw_or1 (pt_cmpR op_ne (pe_callB call_len_seq rfl T.len PySem.boot_len (pa_cons (pe_exf (pv 1) rfl) pa_nil)) pe_int (nomark _)))))
    (pss_one (ps_ret pe_bl))
    pss_nil)
   (pss_cons (ps_for PassesOwn.never rfl (pi_zip2 rfl T.zip' (pa_cons (pe_exf (pv 1) rfl) (pa_cons (pe_slice sl_tupA (pv 2) (po_some pe_int) po_none) pa_nil))) (pg_tup rfl (pgs_cons (pg_name (i:=3) scMeetR.nd rfl (Or.inl rfl)) (pgs_cons (pg_name (i:=4) scMeetR.nd rfl (Or.inl rfl)) pgs_nil)))
    (pss_one (ps_if (pt_not (pt_val (pe_cal cW hr rfl pass0 (pa_cons (pv 0) (pa_cons (pv 3) (pa_cons (pit 2 0) (pa_cons (pv 4) pa_nil)))))))
    (pss_one (ps_ret pe_bl))
    pss_nil)))
   (pss_one (ps_ret pe_bl)))))),?_⟩
  refine ⟨_,rfl,rfl,_,rfl,iteF ⟨_,rfl,e,some dx,rfl,he,fun H1 s1=>⟨rfl,_,rfl,iteF ?_⟩⟩⟩
  have he1:=s1 _ _ he
  have hx1:=s1 _ _ hdx
  obtain ⟨g1,g2,t0,t1,t2⟩:=hD
  have ht1:=s1 _ _ t0
  have hz1:=s1 _ _ hz
  refine ⟨_,rfl,e,c5,cP,f5,dx,_,.str x,rfl,he1,hx1,R.e5,rfl,_,rfl,e,c5,cP,f5,dx,_,.str a,rfl,he1,hx1,R.q51,rfl,_,rfl,e,c5,cP,f5,dx,_,.str d,rfl,he1,hx1,R.q52,rfl,(by show 3<=sizeLine; decide),fun n nn => ?_⟩
  have sn:=Same.upd (o:=.tup [.str x,.str a,.str d]) nn
  have hn:upd H1 n (.tup [.str x,.str a,.str d]) n=some (.tup ([x,a,d].map V.str)):=upd_same
  generalize upd H1 n (.tup [.str x,.str a,.str d])=H2 at sn hn ⊢
  have hz2:H2 z=some (.tup ([x,a,d].map V.str)):=sn _ _ hz1
  have he2:=sn _ _ he1
  have hx2:=sn _ _ hx1
  have ht2:=sn _ _ ht1
  refine ⟨_,rfl,n,z,[x,a,d],[x,a,d],rfl,rfl,SqT.of hn,SqT.of hz2,_,rfl,ite2 (fun hc=>by simp at hc) (fun _ => ?_)⟩
  refine ⟨_,rfl,e,c5,cP,f5,dx,_,.ref D,rfl,he2,hx2,R.q53,rfl,_,"tuple",true,rfl,.tup_tuple (SqT.of ht2),_,rfl,iteF ⟨_,rfl,e,c5,cP,f5,dx,_,.ref D,rfl,he2,hx2,R.q53,rfl,D,_,rfl,.inr (SqT.of ht2),rfl,_,rfl,iteF ?_⟩⟩
  refine ⟨_,rfl,e,c5,cP,f5,dx,_,.ref D,rfl,he2,hx2,R.q53,rfl,_,rfl,_,rfl,z,_,rfl,hz2,fun c H3 s3 hc => ?_⟩
  have hc':H3 c=some (.tup [.str a,.str d]):=hc
  have s03:=(s1.trans sn).trans s3
  have ht3:=s03 _ _ t0
  refine ⟨D,c,rfl,⟨_,SqT.of ht3⟩,⟨_,SqT.of hc'⟩,?_⟩
  refine for_zip2 (xs:=[.ref g1,.ref g2]) (ys:=[.str a,.str d]) (fun i σ H'=>∃ v3 v4:Option V,σ=[some v,some (.ref e),some (.ref z),v3,v4]/\Same H3 H') ⟨none,none,rfl,Same.refl _⟩ (fun i σ H' _ hh => ?_) rfl ?_ ?_
  ·obtain ⟨v3,v4,rfl,s4⟩:=hh
   exact ⟨SqT.of (s4 _ _ ht3),SqT.of (s4 _ _ hc')⟩
  ·intro i x' y' T' σ H4 hx' hy' nT hh
   obtain ⟨v3,v4,rfl,s4⟩:=hh
   have sT:=Same.upd (o:=.tup [x',y']) nT
   have s5:=(s03.trans s4).trans sT
   obtain ⟨g,y0,wy,rfl,rfl,hg,wd⟩ : ∃ (g:Addr) (y0:Str) (wy:List Str),x' = .ref g/\y' = .str y0/\H g=some (.lst (wy.map V.str))/\WayD b.rs x y0 wy:=by
    match i,hx',hy' with
    | 0,hx',hy' =>
     cases hx'
     cases hy'
     exact ⟨g1,a,w1,rfl,rfl,t1,d1⟩
    | 1,hx',hy' =>
     cases hx'
     cases hy'
     exact ⟨g2,d,w2,rfl,rfl,t2,d2⟩
    | n+2,hx',hy'=>simp at hx'
   refine ⟨T',_,rfl,SqT.of upd_same,rfl,_,_,rfl,_,_,rfl,rfl,?_⟩
   refine ⟨_,rfl,_,rfl,z,_,_,rfl,SqT.of (s5 _ _ hz),rfl,_,rfl,v,g,b,x,y0,wy,rfl,bv.keepS s5,rcs,nmd,s5 _ _ hg,wd,fun H6 s6=>⟨_,rfl,iteF ⟨_,_,rfl,(s4.trans sT).trans s6⟩⟩⟩
  ·intro σ H4 hh
   obtain ⟨v3,v4,rfl,s4⟩:=hh
   exact k H4 (s03.trans s4)
end
end K17
namespace K17
open PySem PySem.Spec PyProof.Rows L2 GM TM BQ TR RH
def spMeetL:Sp:=fun vs H Q _=>∃ (v:V) (D:Addr) (b:Bs) (ks:List Str) (kvs:List (Key × V)),vs=[v,.ref D]/\BookV H v b/\RD H D b.ws (belowF b.rs) ks kvs/\(∀ p ∈ b.rs,p.1 ∈ ks)/\(∀ p ∈ b.ps,p.1 ∈ b.ws/\p.2 ∈ b.ws)/\(FM b.rs b.ps none->Q .non H)/\(∀ z x a d,H z=none->FM b.rs b.ps (some (x,a,d))->Q (.ref z) (upd H z (.tup [.str x,.str a,.str d])))
section
variable {P:Program}{w:World}{K:PySem.W.Frag}{mg:Str->Option Value}{base:Heap}
theorem scMeetL:FnScope ["_law_book_here","_law_reach_here","_law_recipe","_law_rows","_law_one","_law_other"] ["_law_book_here","_law_reach_here"] (defScope sMeetL):=⟨rfl,rfl,rfl,by decide +kernel,rfl,by decide +kernel,by decide +kernel⟩
theorem ok_meetl {f:Addr}{fd:FuncData}(F:Fun K "_law_meet" "_law_meet" sMeetL f fd):FnOk P w K mg base CX0 1 f fd ["_law_book_here","_law_reach_here"] spMeetL:=by
 refine F.ok scMeetL (fun vs H Q E h => ?_) (fun cdv A outer s H vs Q E hr h => ?_)
 ·obtain ⟨_,_,_,_,_,rfl,_⟩:=h
  rfl
 ·obtain ⟨v,D,b,ks,kvs,rfl,bv,rd,nk,pw,k1,k2⟩:=h
  refine ⟨_,(pss_cons (ps_for PassesOwn.never rfl (pi_tup (pit 0 2)) (pg_tup rfl (pgs_cons (pg_name (i:=2) scMeetL.nd rfl (Or.inl rfl)) (pgs_cons (pg_name (i:=3) scMeetL.nd rfl (Or.inl rfl)) pgs_nil)))
    (pss_one (ps_for PassesOwn.never rfl (pi_tup (pit 0 1)) (pg_tup rfl (pgs_cons (pg_name (i:=4) scMeetL.nd rfl (Or.inl rfl)) (pgs_cons (pg_name (i:=5) scMeetL.nd rfl (Or.inl rfl)) pgs_nil)))
    (pss_one (ps_if (PW.pt (pw_and (pt_cmpR op_in_seq (pv 4) (pe_dget (hu_of hr) (pv 1) (pv 2) (fun _ _=>rfl)) rfl) (pw_and1 (pt_cmpR op_in_seq (pv 5) (pe_dget (hu_of hr) (pv 1) (pv 2) (fun _ _=>rfl)) rfl))))
    (pss_one (ps_ret (pe_tup (pa_cons (pv 2) (pa_cons (pv 4) (pa_cons (pv 5) pa_nil))))))
    pss_nil)))))
   (pss_one (ps_ret pe_non))),?_⟩
  obtain ⟨z,a0,a1,a2,u1,u2,rfl,hz,h0,h1,l1,h2,l2⟩:=id bv
  refine ⟨z,_,_,rfl,SqT.of hz,rfl,a2,rfl,⟨_,SqT.of h2⟩,?_⟩
  refine for_tup (xs:=u2) (fun i σ H'=>∃ v2 v3 v4 v5:Option V,σ=[some (.ref z),some (.ref D),v2,v3,v4,v5]/\H=H'/\∀ i' < i,∀ q,b.rs[i']?=some q->∀ p ∈ b.ps,¬ Mts b.rs q.1 p) ⟨none,none,none,none,rfl,rfl,fun i' h=>absurd h (by omega)⟩ (fun i σ H' _ hh=>by obtain ⟨_,_,_,_,_,rfl,_⟩:=hh; exact SqT.of h2) ?_ ?_
  ·intro i u σ H1 hu hh
   obtain ⟨v2,v3,v4,v5,rfl,rfl,ni⟩:=hh
   obtain ⟨q,hq,zz,rq,us,rfl,hzz,hrq,lr⟩:=l2.get hu
   have qm:=List.mem_of_getElem? hq
   obtain ⟨l,ys,gv,hl,wl,yl⟩:=rd.at' q.1 (nk q qm)
   refine ⟨zz,_,rfl,SqT.of hzz,rfl,_,_,rfl,_,_,rfl,rfl,?_⟩
   refine ⟨z,_,_,rfl,SqT.of hz,rfl,a1,rfl,⟨_,SqT.of h1⟩,?_⟩
   refine for_tup (xs:=u1) (fun j σ H'=>∃ v4 v5:Option V,σ=[some (.ref z),some (.ref D),some (.str q.1),some (.ref rq),v4,v5]/\H=H'/\∀ j' < j,∀ p,b.ps[j']?=some p->¬ Mts b.rs q.1 p) ⟨_,_,rfl,rfl,fun j' h=>absurd h (by omega)⟩ (fun j σ H' _ hh=>by obtain ⟨_,_,_,rfl,_⟩:=hh; exact SqT.of h1) ?_ ?_
   ·intro j u' σ H4 hu' hh
    obtain ⟨v4',v5',rfl,rfl,nj⟩:=hh
    obtain ⟨p,hp,zp,rfl,hzp⟩:=l1.get hu'
    have pm:=List.mem_of_getElem? hp
    obtain ⟨pw1,pw2⟩:=pw p pm
    have nx : ¬ Mts b.rs q.1 p->∃ v4 v5:Option V,[some (.ref z),some (.ref D),some (.str q.1),some (.ref rq),some (.str p.1),some (.str p.2)]=[some (.ref z),some (.ref D),some (.str q.1),some (.ref rq),v4,v5]/\H=H/\∀ j' < j+1,∀ p,b.ps[j']?=some p->¬ Mts b.rs q.1 p:=fun n=>⟨_,_,rfl,rfl,fun j' hj' p' hp'=>by
     by_cases e:j'=j
     ·subst e; rw [hp] at hp'; cases hp'; exact n
     ·exact nj j' (by omega) p' hp'⟩
    refine ⟨zp,_,rfl,SqT.of hzp,rfl,_,_,rfl,_,_,rfl,rfl,?_⟩
    refine ⟨_,rfl,_,rfl,_,rfl,D,_,rfl,gv ▸ DGet.k (k:=.inr q.1) rd.hd,l,_,rfl,.inl (SqL.of hl),rfl,flat_strs _,_,rfl,ite2 (fun c1 => ?_) (fun c1=>iteF (nx fun m => ?_))⟩
    rotate_left
    ·exact c1 (in_strs.mpr ((wl.mm p.1).mpr ⟨pw1,m.1⟩))
    refine ⟨_,rfl,_,rfl,_,rfl,D,_,rfl,gv ▸ DGet.k (k:=.inr q.1) rd.hd,l,_,rfl,.inl (SqL.of hl),rfl,flat_strs _,_,rfl,ite2 (fun c2 => ?_) (fun c2=>nx fun m => ?_)⟩
    rotate_left
    ·exact c2 (in_strs.mpr ((wl.mm p.2).mpr ⟨pw2,m.2⟩))
    have m1:=((wl.mm p.1).mp (in_strs.mp c1)).2
    have m2:=((wl.mm p.2).mp (in_strs.mp c2)).2
    have fm:FM b.rs b.ps (some (q.1,p.1,p.2)):=⟨i,q,j,p,hq,rfl,hp,rfl,rfl,⟨m1,m2⟩,ni,nj⟩
    exact ⟨_,rfl,_,rfl,_,rfl,(by show 3<=sizeLine; decide),fun t nt=>k2 t _ _ _ nt fm⟩
   ·intro σ H4 hh
    obtain ⟨v4',v5',rfl,rfl,nj⟩:=hh
    rw [l1.len] at nj
    refine ⟨_,_,_,_,rfl,rfl,fun i' hi' q' hq' p hp => ?_⟩
    by_cases e:i'=i
    ·subst e
     rw [hq] at hq'
     cases hq'
     obtain ⟨j,hj⟩:=List.getElem?_of_mem hp
     exact nj j (List.getElem?_eq_some_iff.mp hj).1 p hj
    ·exact ni i' (by omega) q' hq' p hp
  ·intro σ H2 hh
   obtain ⟨v2,v3,v4,v5,rfl,rfl,ni⟩:=hh
   rw [l2.len] at ni
   refine k1 fun q hq p hp => ?_
   obtain ⟨i,hi⟩:=List.getElem?_of_mem hq
   exact ni i (List.getElem?_eq_some_iff.mp hi).1 q hi p hp
end
end K17
namespace K17
open PySem PySem.Spec PyProof.Rows L2 GM TM BQ TR RH
theorem rol_b {l:BQ.Q}{r:Rw}(h:ROL l r):RowB r:=by
 cases r with
 | take a x=>exact h
 | parts a ps=>exact h
 | to n x=>exact ⟨h.1,h.2.1⟩
 | fill a x=>exact h.1
theorem thg_b {r:Rw}(h:RowB r):(thg r).length<=10:=by
 cases r with
 | take a x=>exact (by decide:1<=10)
 | fill a x=>exact (by decide:1<=10)
 | to n x=>exact (by decide:1<=10)
 | parts a ps =>
  show (ps.map (·.2)).length<=10
  rw [List.length_map]
  have:=h.2.2.1
  omega
theorem rsl_lz {rr:List Rw}{l:BQ.Q}(h:RsL rr l):lz rr=l/\FO rr none:=by
 induction h with
 | nil=>exact ⟨rfl,fun i hi=>absurd hi (Nat.not_lt_zero _)⟩
 | @snoc rs l r h ok ih =>
  obtain ⟨e,f⟩:=ih
  refine ⟨by rw [lz_snoc,e],fun i hi q hq => ?_⟩
  rw [List.length_append] at hi
  have hi':i < rs.length+1:=hi
  by_cases z:i < rs.length
  ·rw [List.getElem?_append_left z] at hq
   rw [List.take_append_of_le_length (by omega)]
   exact f i z q hq
  ·have ei:i=rs.length:=by omega
   subst ei
   rw [List.getElem?_append_right (Nat.le_refl _),Nat.sub_self] at hq
   obtain rfl:r=q:=by simpa using hq
   rw [List.take_append_of_le_length (Nat.le_refl _),List.take_length,e]
   cases r with
   | take a x=>rfl
   | parts a ps=>rfl
   | to n x=>rfl
   | fill a x =>
    have:=ok.2
    exact decide_eq_false (by omega)
theorem thn_no {nms:List Str} : ∀ {rc:List (Str × List Rw)},(∀ p ∈ rc,∀ y ∈ thgs p.2,y ∈ nms)->thn nms rc=none
 | [],_=>rfl
 | p :: r,h=>by
  have f:(thgs p.2).find? (lackW nms)=none:=List.find?_eq_none.mpr fun y hy=>by
   have:=h p (List.mem_cons_self ..) y hy
   unfold lackW
   simp [this]
  show (match (thgs p.2).find? (lackW nms) with | some x=>some (x,p.1) | none=>thn nms r)=none
  rw [f]
  exact thn_no fun q hq=>h q (List.mem_cons_of_mem _ hq)
theorem bkm_of {ws rs:List Str}{t:Int}{ps:List (Str × Str)}{rc:List (Str × List Rw)}(b:BkS ws rs t ps rc):BkM ws rs t ⟨0,0,ws,ps,rc⟩:=by
 have rl:rc.length=rs.length:=by rw [<- b.rw.nm,List.length_map]
 have r12:=b.r12
 have p6:=b.p6
 have wr : ∀ x ∈ ws ++ rs,x.length<=100:=fun x hx=>by have:=(b.wr x hx).l8; omega
 have rows : ∀ q ∈ rc,q.2.length<=6/\(∀ r ∈ q.2,RowB r)/\FO q.2 none:=fun q hq=>by
  obtain ⟨k,hk⟩:=List.getElem?_of_mem hq
  obtain ⟨_,l,ok⟩:=b.rw.rw k q hk
  exact ⟨ok.ln,fun r hr=>by obtain ⟨_,o⟩:=ok.ok.rows r hr; exact rol_b o,(rsl_lz ok.ok).2⟩
 have tg : ∀ (k:Nat) q,rc[k]?=some q->∀ y ∈ thgs q.2,Tg ws rs t k y:=fun k q hq y hy=>by
  obtain ⟨_,l,ok⟩:=b.rw.rw k q hq
  obtain ⟨r,hr,hy'⟩:=List.mem_flatMap.mp hy
  exact ok.tg r hr y hy'
 have inn : ∀ q ∈ rc,∀ y ∈ thgs q.2,y ∈ ws ++ rs:=fun q hq y hy=>by
  obtain ⟨k,hk⟩:=List.getElem?_of_mem hq
  rcases tg k q hk y hy with h' | ⟨_,h',_⟩
  ·exact List.mem_append_left _ h'
  ·exact List.mem_append_right _ (List.mem_of_getElem? h')
 have eB:nmsB ⟨0,0,ws,ps,rc⟩=ws ++ rs:=by
  show ws ++ rc.map (·.1)=_
  rw [b.rw.nm]
 refine ⟨⟨by have:=b.w12; show ws.length<=20; omega,by show ps.length<=20; omega,⟨by show rc.length<=12; omega,fun p hp=>⟨(rows p hp).1,fun r hr=>thg_b ((rows p hp).2.1 r hr)⟩⟩,fun x hx=>wr x (by rw [<- eB]; exact hx),fun q hq=>⟨wr _ (List.mem_append_left _ (b.pw q hq).1),wr _ (List.mem_append_left _ (b.pw q hq).2.1)⟩,fun q hq y hy=>wr y (inn q hq y hy)⟩,rfl,⟨b.rw.nm,b.nd,b.r12,tg⟩,fun p hp=>⟨wr p.1 (List.mem_append_right _ ?_),(rows p hp).1,(rows p hp).2.1⟩,fun j hj q hq=>(rows q (List.mem_of_getElem? hq)).2.2,?_,b.pw⟩
 ·rw [<- b.rw.nm]
  exact List.mem_map_of_mem hp
 ·rw [eB]
  exact thn_no inn
theorem BkM.cut {ws rs:List Str}{t:Int}{b:Bs}(h:BkM ws rs t b)(q:Str × Str->Bool):BkM ws rs t ⟨0,0,b.ws,b.ps.filter q,b.rs⟩ :=
 ⟨⟨h.o.w,Nat.le_trans (List.length_filter_le q b.ps) h.o.p,h.o.r,h.o.nw,fun p hp=>h.o.np p (List.mem_filter.mp hp).1,h.o.nt⟩,h.ew,h.bt,h.rw,h.bo,h.tn,fun p hp=>h.pw p (List.mem_filter.mp hp).1⟩
theorem l2_filter {R:V->Str × Str->Prop}{f:V->Bool}{q:Str × Str->Bool} : ∀ {us:List V} {ps:List (Str × Str)},L2R R us ps->(∀ u p,R u p->f u=q p)->L2R R (us.filter f) (ps.filter q)
 | [],[],h,_=>h
 | [],_ :: _,h,_=>by have:=h.len; simp at this
 | _ :: _,[],h,_=>by have:=h.len; simp at this
 | u :: us,p :: ps,h,k=>by
  have h0:R u p:=h.at' 0 u p rfl rfl
  have ih:=l2_filter (f:=f) (q:=q) (us:=us) (ps:=ps) ⟨by have:=h.len; simpa using this,fun i u' p' hu hp=>h.at' (i+1) u' p' (by simpa using hu) (by simpa using hp)⟩ k
  have e:=k u p h0
  rw [List.filter_cons,List.filter_cons,e]
  split
  ·refine ⟨by have:=ih.len; simp [this],fun i u' p' hu hp => ?_⟩
   cases i with
   | zero =>
    cases (show some u=some u' from hu)
    cases (show some p=some p' from hp)
    exact h0
   | succ i=>exact ih.at' i u' p' (by simpa using hu) (by simpa using hp)
  ·exact ih
def notP (H:Hp)(a d:Str)(v:V):Bool:=match v with | .ref z=>(match H z with | some (.tup [.str x,.str y]) => !decide ([x,y]=[a,d]) | _=>false) | _=>false
theorem notP_of {H:Hp}{a d:Str}{v:V}{p:Str × Str}(h:PairV H v p):notP H a d v = !decide ([p.1,p.2]=[a,d]):=by
 obtain ⟨z,rfl,hz⟩:=h
 unfold notP
 dsimp only
 rw [hz]
theorem sl_tupAK {X:Cx}{K:PySem.W.Frag}(h:X.K=K):SlR X (rSlTA K):=h ▸ sl_tupA
def spLaw (K:PySem.W.Frag):Sp:=fun vs H Q _=>∃ (a:Addr) (ns:List Int),vs=[.ref a]/\SqL K H a (ns.map V.int)/\ns.length<=63/\∀ H',Q (.bl true) H'
section
variable {P:Program}{w:World}{K:PySem.W.Frag}{mg:Str->Option Value}{base:Heap}{cP c0 c1 c2 c3 c4 c5 c6 c7 c8 f5:Addr}
abbrev Nlaw:List Str:=["_law_script","_law_book_here","_law_reach_here","_law_turn","_law_due","_law_found","_law_refused","_law_pairs","_law_name"]
theorem ndPD:(["_law_pair","_law_due"]:List Str).Nodup:=by decide +kernel
theorem scLaw:FnScope Nlaw ["_law_script"] (defScope sLaw):=⟨rfl,rfl,rfl,by decide +kernel,rfl,by decide +kernel,by decide +kernel⟩
theorem ok_law {f:Addr}{fd:FuncData}(F:Fun K "law" "law" sLaw f fd)(T:Txt mg)(R:ErM K mg cP c0 c1 c2 c3 c4 c5 c6 c7 c8 f5)(cB:Cal P w K mg base CX0 9 "_law_book" ["_law_script"] (spLbook K))(cE:Cal P w K mg base CX0 9 "_law_reach" ["_law_book_here"] spReach)(cM:Cal P w K mg base CX0 9 "_law_meet" ["_law_book_here","_law_reach_here"] spMeetL)(cK:Cal P w K mg base CX0 9 "_law_looked" ["_law_book_here"] (spLookL c5))(cO:Cal P w K mg base CX0 9 "_law_order" ["_law_book_here"] spOrdL)(cG:Cal P w K mg base CX0 9 "_law_meets_right" ["_law_book_here","_law_refused","_law_due"] (spMeetR c5))(cW:Cal P w K mg base CX0 9 "wares_of" ["book","thing"] spWof):FnOk P w K mg base CX0 10 f fd ["_law_script"] (spLaw K):=by
 refine F.ok scLaw (fun vs H Q E h => ?_) (fun cdv A outer s H vs Q E hr h => ?_)
 ·obtain ⟨_,_,rfl,_⟩:=h
  rfl
 ·obtain ⟨sc,ns,rfl,hS,hlen,k⟩:=h
  refine ⟨_,(pss_cons (ps_set (i:=1) scLaw.nd rfl (Or.inl rfl) (pe_cal cB hr rfl pass0 (pa_cons (pv 0) pa_nil)))
   (pss_cons (ps_set (i:=2) scLaw.nd rfl (Or.inl rfl) (pe_cal cE hr rfl pass0 (pa_cons (pv 1) pa_nil)))
   (pss_cons (ps_for PassesOwn.never rfl (pi_range1 rfl T.range (pa_cons pe_int pa_nil)) (pg_name (i:=3) scLaw.nd rfl (Or.inl rfl))
    (pss_cons (ps_set (i:=4) scLaw.nd rfl (Or.inr rfl) (pe_cal cM hr rfl pass0 (pa_cons (pv 1) (pa_cons (pv 2) pa_nil))))
    (pss_cons (ps_asg (pe_cal cK hr rfl pass0 (pa_cons (pv 1) pa_nil)) (pg_tup rfl (pgs_cons (pg_name (i:=5) scLaw.nd rfl (Or.inl rfl)) (pgs_cons (pg_name (i:=6) scLaw.nd rfl (Or.inl rfl)) pgs_nil))))
    (pss_cons (ps_if (pt_cmpR op_isN (pv 4) pe_non (nomark _))
     (pss_cons (ps_if (PW.pt (pw_or (pt_cmpR op_notN (pv 6) pe_non (nomark _)) (pw_or1 (pt_cmpR (op_neLs hr.units) (pv 5) (pe_cal cO hr rfl pass0 (pa_cons (pv 1) pa_nil)) (nomark _)))))
      (pss_one (ps_ret pe_bl))
      pss_nil)
     (pss_one ps_break))
     pss_nil)
    (pss_cons (ps_if (pt_not (pt_val (pe_cal cG hr rfl pass0 (pa_cons (pv 1) (pa_cons (pv 6) (pa_cons (pv 4) pa_nil))))))
     (pss_one (ps_ret pe_bl))
     pss_nil)
    (pss_cons (ps_compC (iy:=7) (N':=["_law_pair","_law_due"]) (fun σ=>[none,some 4].map fun t=>t.bind fun j=>(σ[j]?).join) rfl rfl (by decide +kernel) (by decide +kernel)
      (hk_of (sc:=defScope sLaw) rfl (by decide +kernel)) (fun _ _ _=>blkN_by (sc:=defScope sLaw) (N:=Nlaw) [none,some 4] rfl rfl rfl rfl (by decide +kernel))
      (pi_tup (pit 1 1)) (fun _ _ _ _ _ _=>pg_name (i:=0) ndPD rfl (Or.inl rfl))
      (fun _ _ _ _ _ _=>pifs_one (pt_cmpR (op_neSK (K:=K) rfl hr.units) (pv 0) (pe_slice (sl_tupAK (K:=K) rfl) (pv 1) (po_some pe_int) po_none) (nomark _)))
      (fun _ _ _ _ _ _=>pv 0) scLaw.nd rfl (Or.inl rfl) (Or.inr rfl) rfl)
    (pss_one (ps_set (i:=1) scLaw.nd rfl (Or.inl rfl) (pe_tup (pa_cons (pit 1 0) (pa_cons (pe_callTy call_tuple_of rfl T.tup' bt_tuple (pa_cons (pv 7) pa_nil)) (pa_cons (pit 1 2) pa_nil))))))))))))
   (pss_cons (ps_for PassesOwn.never rfl (pi_dict (pv 2)) (pg_name (i:=8) scLaw.nd rfl (Or.inl rfl))
    (pss_cons (ps_set (i:=5) scLaw.nd rfl (Or.inl rfl) (pe_cal cW hr rfl pass0 (pa_cons (pv 1) (pa_cons (pv 8) pa_nil))))
    (pss_cons (ps_if (PW.pt (pw_or (pt_not (pt_val (pe_callB call_isi rfl T.isi boot_isinstance (pa_cons (pv 5) (pa_cons (pe_bltn (v:=.ty "list") rfl T.list' bt_list rfl) pa_nil))))) (pw_or1 (pt_cmpR (op_neLs hr.units) (pv 5) (pe_dget (hu_of hr) (pv 2) (pv 8) (fun _ _=>rfl)) (nomark _)))))
     (pss_one (ps_ret pe_bl))
     pss_nil)
    (pss_cons (ps_expr (pe_bm PySem.F.plainAttrs_list PySem.F.slot_list_append PySem.F.type_list_append mt_append (pv 5) (pa_cons pe_str pa_nil)))
    (pss_one (ps_if (pt_cmpR (op_neLs hr.units) (pe_cal cW hr rfl pass0 (pa_cons (pv 1) (pa_cons (pv 8) pa_nil))) (pe_dget (hu_of hr) (pv 2) (pv 8) (fun _ _=>rfl)) (nomark _))
     (pss_one (ps_ret pe_bl))
     pss_nil))))))
   (pss_one (ps_ret pe_bl)))))),?_⟩
  have sfs : ∀ (xs:List Str),∀ v ∈ xs.map V.str,Sf v:=fun xs v hv=>by
   obtain ⟨x,_,rfl⟩:=List.mem_map.mp hv
   exact .inl rfl
  refine ⟨_,rfl,sc,ns,rfl,hS,fun v ws rs t ps rc H1 s1 bv bk => ?_⟩
  have bl:=bkm_of bk
  refine ⟨_,rfl,v,_,ws,rs,t,rfl,bv,bl,fun D ks kvs xs H2 s2 nD rd eks full => ?_⟩
  have rd2:RD H2 D ws (belowF rc) ks kvs:=rd
  have full2:Full rc ws xs:=full
  have ek2:ks=ws ++ xs:=eks
  have nk : ∀ p ∈ rc,p.1 ∈ ks:=fun p hp=>by rw [ek2]; exact List.mem_append_right _ (full2.all p hp)
  have xl:xs.length=rc.length:=by
   have e1:=nd_sub full2.nd full2.sub
   have e2:=nd_sub (ws:=xs) bl.bt.names (fun y hy=>by obtain ⟨p,hp,rfl⟩:=List.mem_map.mp hy; exact full2.all p hp)
   rw [List.length_map] at e1 e2
   have e2':rc.length<=xs.length:=e2
   omega
  dsimp only [gName]
  refine seq_nx (fun σ' H'=>∃ (vb:V) (b:Bs) (v3 v4 v5 v6 v7:Option V),σ'=[some (.ref sc),some vb,some (.ref D),v3,v4,v5,v6,v7,none]/\Same H2 H'/\BookV H' vb b/\b.ws=ws/\b.rs=rc/\BkM ws rs t b) ?_ (fun N hN => ?_)
  ·intro σ' H' hh
   obtain ⟨vb,b,v3,v4,v5,v6,v7,rfl,s3,bv3,e1,e2,bl3⟩:=hh
   have rd3:=rd2.keep s3
   refine ⟨_,rfl,D,kvs,rfl,rd3.hd,fun ob => ?_⟩
   obtain ⟨z,a0,a1,a2,u1,u2,rfl,hz,h0,h1,l1,h2,l2⟩:=id bv3
   have dne : ∀ {p:Addr} {o:HO},H' p=some o->(∀ kv,o ≠ .dK kv)->p ≠ D:=fun {p o} e n z=>by rw [z,rd3.hd] at e; cases e; exact n _ rfl
   have keepF : ∀ {p:Addr} {o:HO},H' p=some o->(∀ kv,o ≠ .dK kv)->upd H' D (.frz ob (.dK kvs)) p=some o:=fun {p o} e n=>by rw [upd_ne (dne e n)]; exact e
   have tkF:Tk H' (upd H' D (.frz ob (.dK kvs))):=fun p xs e=>keepF e (fun _ z=>nomatch z)
   have bw:BwV (upd H' D (.frz ob (.dK kvs))) z b.ws u2 b.rs:=⟨a0,_,a2,tkF _ _ hz,tkF _ _ h0,tkF _ _ h2,l2.imp fun _ _ x=>RecV.tk tkF x⟩
   have hD:upd H' D (.frz ob (.dK kvs)) D=some (.frz ob (.dK kvs)):=upd_same
   have lst : ∀ x ∈ ks,∃ (l:Addr) (xs:List Str),valV kvs (.inr x)=some (.ref l)/\upd H' D (.frz ob (.dK kvs)) l=some (.lst (xs.map V.str))/\Wl ws (belowF rc) x xs/\xs.length<=40:=fun x hx=>by
    obtain ⟨l,ys,g1,g2,g3⟩:=rd3.at' x hx
    exact ⟨l,ys,g1,keepF g2 (fun _ z=>nomatch z),g3⟩
   generalize upd H' D (.frz ob (.dK kvs))=H4 at tkF bw hD lst ⊢
   refine for_dictN (fun i σ H5=>∃ v5 v8:Option V,σ=[some (.ref sc),some (.ref z),some (.ref D),v3,v4,v5,v6,v7,v8]/\Same H4 H5) ⟨_,_,rfl,Same.refl _⟩ (fun i σ H5 _ hh=>by obtain ⟨_,_,_,sm⟩:=hh; exact sm _ _ hD) ?_ ?_
   ·intro i kv σ H5 D' hN hkv hh
    obtain ⟨v5',v8,rfl,s5⟩:=hh
    have hk:(ks.map (Sum.inr:Str->Key))[i]?=some kv.1:=by rw [<- rd3.ek,List.getElem?_map,hkv]; rfl
    rw [List.getElem?_map] at hk
    obtain ⟨x,hx,ex⟩:=Option.map_eq_some_iff.mp hk
    have xk:=List.mem_of_getElem? hx
    have ekv:kV kv.1 = .str x:=by rw [<- ex]; rfl
    rw [ekv]
    have xU:x ∈ nmsB b:=by
     rw [bl3.enm]
     rw [ek2] at xk
     rcases List.mem_append.mp xk with h | h
     ·exact List.mem_append_left _ h
     ·refine List.mem_append_right _ ?_
      have:=full2.sub x h
      rw [<- bk.rw.nm]
      exact this
    obtain ⟨g,ys,gv,hg,wg,yl⟩:=lst x xk
    have dg : ∀ {Hx},Same H4 Hx->DGet Hx D (.str x) (some (.ref g)):=fun {Hx} sx=>.inl ⟨kvs,.inr x,.inr ⟨ob,sx _ _ hD⟩,rfl,gv.symm⟩
    refine ⟨_,rfl,_,rfl,z,b.ws,u2,b.rs,x,nmsB b,rfl,bw.keep s5.tk,bl3.unv,xU,fun l zs H6 s6 nl hl wl _ => ?_⟩
    have s46:=s5.trans s6
    rw [e1,e2] at wl
    have ez:zs=ys:=wl.uniq wg
    subst ez
    refine ⟨_,rfl,_,"list",true,rfl,.lst_list (SqL.of hl),_,rfl,iteF ⟨_,rfl,_,rfl,_,rfl,D,_,rfl,dg s46,l,g,_,rfl,rfl,SqL.of hl,SqL.of (s46 _ _ hg),sfs _,_,rfl,iteF ?_⟩⟩
    refine ⟨_,rfl,.inl ⟨rfl,_,SqL.of hl⟩,l,_,_,rfl,rfl,hl,small1000 (by rw [List.length_map]; omega),?_⟩
    have nl4:H4 l=none:=sm_none' s5 nl
    have s7:Same H4 (upd H6 l (.lst (zs.map V.str ++ [.str "a"]))):=sm_own' s46 nl4
    generalize upd H6 l (.lst (zs.map V.str ++ [.str "a"]))=H7 at s7 ⊢
    refine ⟨_,rfl,_,rfl,z,b.ws,u2,b.rs,x,nmsB b,rfl,bw.keep s7.tk,bl3.unv,xU,fun l' zs' H8 s8 nl' hl' wl' _ => ?_⟩
    have s48:=s7.trans s8
    rw [e1,e2] at wl'
    have ez':zs'=zs:=wl'.uniq wg
    subst ez'
    exact ⟨_,rfl,_,rfl,D,_,rfl,dg s48,l',g,_,rfl,rfl,SqL.of hl',SqL.of (s48 _ _ hg),sfs _,_,rfl,iteF (hN _ _ ⟨_,_,rfl,s48⟩)⟩
   ·intro σ H5 hh
    exact k _
  ·refine ⟨7,rfl,by decide,by decide,?_⟩
   refine for_range (fun i σ H'=>∃ (vb:V) (b:Bs) (v3 v4 v5 v6 v7:Option V),σ=[some (.ref sc),some vb,some (.ref D),v3,v4,v5,v6,v7,none]/\Same H2 H'/\BookV H' vb b/\b.ws=ws/\b.rs=rc/\BkM ws rs t b) ⟨v,⟨0,0,ws,ps,rc⟩,none,none,none,none,none,rfl,Same.refl _,bv.keepS s2,rfl,rfl,bl⟩ ?_ ?_
   ·intro i σ H3 hi hh
    obtain ⟨vb,b,v3,v4,v5,v6,v7,rfl,s3,bv3,e1,e2,bl3⟩:=hh
    have rd3:=rd2.keep s3
    have pwb : ∀ p ∈ b.ps,p.1 ∈ b.ws/\p.2 ∈ b.ws:=fun p hp=>by rw [e1]; exact ⟨(bl3.pw p hp).1,(bl3.pw p hp).2.1⟩
    refine ⟨_,rfl,_,rfl,vb,D,b,ks,kvs,rfl,bv3,by rw [e1,e2]; exact rd3,by rw [e2]; exact nk,pwb,fun fm => ?_,fun z x a d nz fm => ?_⟩
    ·refine ⟨_,rfl,vb,b,ws,rs,t,rfl,bv3,bl3,fun _ zz l ys H4 s4 hzz nl hl ore => ?_,fun x a d w1 w2 fm'=>nomatch fm.uniq fm'⟩
     refine ⟨zz,_,rfl,SqT.of hzz,rfl,_,_,rfl,_,_,rfl,rfl,?_⟩
     obtain ⟨z,a0,a1,a2,u1,u2,rfl,hz,h0,h1,l1,h2,l2⟩:=id (bv3.keepS s4)
     refine ⟨_,rfl,rfl,_,rfl,iteT ⟨_,rfl,rfl,_,rfl,iteF ⟨_,rfl,_,rfl,z,b.ws,u2,b.rs,rfl,⟨a0,_,a2,hz,h0,h2,l2⟩,bl3.o.r,bl3.bt.names,bl3.o.w,fun ys' l' H5 s5 nl' hl' yl' ore' => ?_,fun ys' H5 s5 lt ore' => ?_⟩⟩⟩
     ·have ey:ys'=ys:=ordE_uniq ore' ore
      subst ey
      exact ⟨l,l',_,rfl,rfl,SqL.of (s5 _ _ hl),SqL.of hl',sfs _,_,rfl,iteF (hN _ _ ⟨_,b,_,_,_,_,_,rfl,(s3.trans s4).trans s5,bv3.keepS (s4.trans s5),e1,e2,bl3⟩)⟩
     ·exfalso
      have full:=full_of (by rw [bl3.ew]; exact bl3.bt) (ordE_ord ore') ore'
      have q2:=nd_sub (ws:=ys') bl3.bt.names (fun y hy=>by obtain ⟨p,hp,rfl⟩:=List.mem_map.mp hy; exact full.all p hp)
      rw [List.length_map] at q2
      omega
    ·have sz:=Same.upd (o:=.tup [.str x,.str a,.str d]) nz
     have hz4:upd H3 z (.tup [.str x,.str a,.str d]) z=some (.tup [.str x,.str a,.str d]):=upd_same
     generalize upd H3 z (.tup [.str x,.str a,.str d])=H4 at sz hz4 ⊢
     refine ⟨_,rfl,vb,b,ws,rs,t,rfl,bv3.keepS sz,bl3,(fun fm'=>nomatch fm.uniq fm'),fun x' a' d' w1 w2 fm' d1 d2 zz e dx DD H5 s5 hzz he hdx hDD => ?_⟩
     cases fm.uniq fm'
     refine ⟨zz,_,rfl,SqT.of hzz,rfl,_,_,rfl,_,_,rfl,rfl,?_⟩
     have s35:=sz.trans s5
     refine ⟨_,rfl,rfl,_,rfl,iteF ⟨_,rfl,_,rfl,_,rfl,vb,e,z,dx,DD,b,x,a,d,w1,w2,rfl,bv3.keepS s35,bl3.o.r,bl3.bt.names,he,hdx,hDD,d1,d2,s5 _ _ hz4,fun H6 s6=>⟨_,rfl,iteF ?_⟩⟩⟩
     have s36:=s35.trans s6
     have hz6:=(s5.trans s6) _ _ hz4
     have bv6:=bv3.keepS s36
     obtain ⟨zb,a0,a1,a2,u1,u2,rfl,hzb,h0,h1,l1,h2,l2⟩:=id bv6
     refine ⟨zb,_,_,rfl,SqT.of hzb,rfl,a1,rfl,⟨_,SqT.of h1⟩,fun C nC => ?_⟩
     have ul:=l1.len
     have pl:=bl3.o.p
     refine comp_filt (Ys.tup (SqT.of h1)) (notP H6 a d) (fun u v _=>v=u) (fun _ _ _ _ h _=>h) nC (by omega) (fun i' u H' R1 R2 hu sm r1 r2 => ?_) (fun os H7 s7 hC ol ho => ?_)
     ·obtain ⟨p,hp,pvv⟩:=l1.get hu
      have ep:=notP_of (a:=a) (d:=d) pvv
      obtain ⟨zp,rfl,hzp⟩:=pvv
      refine ⟨(Keep.refl _).set rfl,_,rfl,_,rfl,_,rfl,z,_,rfl,sm _ _ hz6,fun c Hc sc' hc => ?_⟩
      have hc':Hc c=some (.tup ([a,d].map V.str)):=hc
      have hp':Hc zp=some (.tup ([p.1,p.2].map V.str)):=(sm.trans sc') _ _ hzp
      refine ⟨zp,c,[p.1,p.2],[a,d],rfl,rfl,SqT.of hp',SqT.of hc',_,rfl,ite2 (fun hq => ?_) (fun hq => ?_)⟩
      ·exact ⟨_,rfl,r1 (by rw [ep]; exact hq) _ _ sc' rfl⟩
      ·exact r2 (by rw [ep]; simpa using hq) _ sc'
     have eo:os=u1.filter (notP H6 a d):=list_eq ol fun i x y hx hy=>(ho i x y hx hy)
     subst eo
     have s37:=s36.trans s7
     refine ⟨zb,_,_,rfl,SqT.of (s7 _ _ hzb),rfl,_,rfl,C,_,rfl,.inl ⟨SqL.of hC,fun tp ntp => ?_⟩⟩
     have st:=Same.upd (o:=.tup (u1.filter (notP H6 a d))) ntp
     have htp:upd H7 tp (.tup (u1.filter (notP H6 a d))) tp=some (.tup (u1.filter (notP H6 a d))):=upd_same
     generalize upd H7 tp (.tup (u1.filter (notP H6 a d)))=H8 at st htp ⊢
     have s68:=s7.trans st
     refine ⟨zb,_,_,rfl,SqT.of (s68 _ _ hzb),rfl,(by show 3<=sizeLine; decide),fun nb nnb => ?_⟩
     have snb:=Same.upd (o:=.tup [.ref a0,.ref tp,.ref a2]) nnb
     have s69:=s68.trans snb
     refine ⟨_,⟨0,0,b.ws,b.ps.filter fun p => !decide ([p.1,p.2]=[a,d]),b.rs⟩,_,_,_,_,_,rfl,(s3.trans s36).trans s69,⟨nb,a0,tp,a2,_,u2,rfl,upd_same,s69 _ _ h0,snb _ _ htp,(l2_filter l1 fun u p h=>notP_of h).imp fun _ _ x=>x.keep s69,s69 _ _ h2,l2.imp fun _ _ x=>RecV.tk s69.tk x⟩,e1,e2,bl3.cut _⟩
   ·intro σ H3 hh
    exact hN _ _ hh
end
end K17
namespace K17
open PySem PySem.Spec PyProof.Rows L2 GM TM BQ TR RH
structure Dn (K:PySem.W.Frag)(x:Str)(st:Stmt)(ps:List Str):Prop where
 ex : ∃ (f:Addr) (fd:FuncData),PySem.W.nsIn K mainGlobals x=some (some (.ref f))/\Fun K x x st f fd/\Binds K fd ps []
theorem Dn.mk' {K:PySem.W.Frag}{x:Str}{st:Stmt}{ps:List Str}{f:Addr}{oc:Value}{od an:Option Addr}{osl:Array (Option Value)}{kV doc pm cdv ct:Value}(a:PySem.W.nsIn K mainGlobals x=some (some (.ref f)))
  (l:K.lookup f=some ⟨oc,od,.func (PySem.W.fnOf x x (defArgs st) (defBody st) (defScope st) .none kV doc pm an cdv ct),osl⟩) (c:PySem.W.codeIn K cdv x=true) (k:PySem.W.keepIn K (.ref f)=true)
  (hb : ∀ (kV doc pm:Value) (an:Option Addr) (cdv ct:Value) (us:List Value),us.length=ps.length->bindArgs (PySem.W.fnOf x x (defArgs st) (defBody st) (defScope st) .none kV doc pm an cdv ct) ⟨us,[]⟩=pure (ps.zip us)):Dn K x st ps :=
 ⟨f,_,a,fun_mk (st:=st) l c k,(fun_mk (st:=st) l c k).binds hb⟩
theorem Dn.cal {P:Program}{w:World}{K:PySem.W.Frag}{mg:Str->Option Value}{base h:Heap}{CX:CXT}{k:Nat}{x:Str}{st:Stmt}{ps:List Str}{sp:Sp}(D:Dn K x st ps)(X:K.In h)(G:h.Ns mainGlobals mg)
  (ok : ∀ {f:Addr} {fd:FuncData},Fun K x x st f fd->FnOk P w K mg base CX k f fd ps sp):Cal P w K mg base CX k x ps sp:=by
 obtain ⟨f,fd,a,F,b⟩:=D.ex
 exact ⟨f,fd,PySem.W.mg_of X G a,F.kp,b,ok F⟩
structure NouK (K:PySem.W.Frag)(aN:Addr):Prop where
 m:PySem.W.nsIn K mainGlobals "NOUGHT" = some (some (.ref aN))
 s : ∀ H:Hp,SqT K H aN [.int 0,.int 1]
theorem NouK.mk' {K:PySem.W.Frag}{aN:Addr}{od:Option Addr}{t0 t1:Tok}{n:Nat}{sl:Array (Option Value)}(a:PySem.W.nsIn K mainGlobals "NOUGHT" = some (some (.ref aN)))
  (l:K.lookup aN=some ⟨.type "tuple",od,.seq #[.int 0 t0,.int 1 t1] n,sl⟩) : ∃ aN:Addr,NouK K aN :=
 ⟨aN,a,fun _=>.inr ⟨_,_,_,l,rfl,rfl,(by show 2<=sizeLine; decide),.cons ⟨_,rfl⟩ (.cons ⟨_,rfl⟩ .nil)⟩⟩
structure ErMK (K:PySem.W.Frag)(cP c0 c1 c2 c3 c4 c5 c6 c7 c8 f5:Addr):Prop where
 e5:ExF K c5 cP f5 "recipe"
 q51:ExF K c5 cP f5 "one"
 q52:ExF K c5 cP f5 "other"
 q53:ExF K c5 cP f5 "ways"
 ct:CtK K cP
 bi:BaseI K cP
 s5:PySem.W.subIn K (.ref c5) (.ref cP)=some true
 p5:PySem.W.kitOne K (.ref c5) (.ref cP)=some true
 v5:PySem.W.kitOne K (.ref c5) (.type "ValueError")=some true
 mP:PySem.W.nsIn K mainGlobals "PhialError" = some (some (.ref cP))
 m0:PySem.W.nsIn K mainGlobals "Twice" = some (some (.ref c0))
 m1:PySem.W.nsIn K mainGlobals "NoName" = some (some (.ref c1))
 m2:PySem.W.nsIn K mainGlobals "NoPair" = some (some (.ref c2))
 m3:PySem.W.nsIn K mainGlobals "Ring" = some (some (.ref c3))
 m4:PySem.W.nsIn K mainGlobals "Over" = some (some (.ref c4))
 m5:PySem.W.nsIn K mainGlobals "Meet" = some (some (.ref c5))
 m6:PySem.W.nsIn K mainGlobals "NoText" = some (some (.ref c6))
 m7:PySem.W.nsIn K mainGlobals "NoAmount" = some (some (.ref c7))
 m8:PySem.W.nsIn K mainGlobals "TooLarge" = some (some (.ref c8))
 i50:PySem.W.kitOne K (.ref c5) (.ref c0)=some false
 i51:PySem.W.kitOne K (.ref c5) (.ref c1)=some false
 i52:PySem.W.kitOne K (.ref c5) (.ref c2)=some false
 i53:PySem.W.kitOne K (.ref c5) (.ref c3)=some false
 i54:PySem.W.kitOne K (.ref c5) (.ref c4)=some false
 i55:PySem.W.kitOne K (.ref c5) (.ref c5)=some true
 i56:PySem.W.kitOne K (.ref c5) (.ref c6)=some false
 i57:PySem.W.kitOne K (.ref c5) (.ref c7)=some false
 i58:PySem.W.kitOne K (.ref c5) (.ref c8)=some false
 fn5 : ∃ fd:FuncData,Fun K "__init__" "Meet.__init__" sI5 f5 fd/\Binds K fd ["self","recipe","one","other","ways"] []
theorem ErMK.er {K:PySem.W.Frag}{mg:Str->Option Value}{h:Heap}{cP c0 c1 c2 c3 c4 c5 c6 c7 c8 f5:Addr}(E:ErMK K cP c0 c1 c2 c3 c4 c5 c6 c7 c8 f5)(X:K.In h)(G:h.Ns mainGlobals mg):ErM K mg cP c0 c1 c2 c3 c4 c5 c6 c7 c8 f5 :=
 { e5:=E.e5,q51:=E.q51,q52:=E.q52,q53:=E.q53,ct:=E.ct,bi:=E.bi,s5:=E.s5,p5:=E.p5,v5:=E.v5,mP:=PySem.W.mg_of X G E.mP,m0:=PySem.W.mg_of X G E.m0,m1:=PySem.W.mg_of X G E.m1,m2:=PySem.W.mg_of X G E.m2,m3:=PySem.W.mg_of X G E.m3,m4:=PySem.W.mg_of X G E.m4,m5:=PySem.W.mg_of X G E.m5,m6:=PySem.W.mg_of X G E.m6,m7:=PySem.W.mg_of X G E.m7,m8:=PySem.W.mg_of X G E.m8,i50:=E.i50,i51:=E.i51,i52:=E.i52,i53:=E.i53,i54:=E.i54,i55:=E.i55,i56:=E.i56,i57:=E.i57,i58:=E.i58 }
theorem fn_mk5 {K:PySem.W.Frag}{f:Addr}{oc:Value}{od an:Option Addr}{osl:Array (Option Value)}{kV doc pm cdv ct:Value}
  (l:K.lookup f=some ⟨oc,od,.func (PySem.W.fnOf "__init__" "Meet.__init__" (defArgs sI5) (defBody sI5) (defScope sI5) .none kV doc pm an cdv ct),osl⟩) (c:PySem.W.codeIn K cdv "Meet.__init__" = true) (k:PySem.W.keepIn K (.ref f)=true) :
  ∃ fd:FuncData,Fun K "__init__" "Meet.__init__" sI5 f fd/\Binds K fd ["self","recipe","one","other","ways"] [] :=
 ⟨_,fun_mk (st:=sI5) l c k,(fun_mk (st:=sI5) l c k).binds fun _ _ _ _ _ _ us hl=>match us,hl with | [_,_,_,_,_],_=>rfl⟩
theorem err_mk {K:PySem.W.Frag}{cP c0 c1 c2 c3 c4 c5 c6 c7 c8 f5:Addr}{od:Option Addr}{cd:ClassData}{sl:Array (Option Value)}
  (mP:PySem.W.nsIn K mainGlobals "PhialError" = some (some (.ref cP)))
  (m0:PySem.W.nsIn K mainGlobals "Twice" = some (some (.ref c0)))
  (m1:PySem.W.nsIn K mainGlobals "NoName" = some (some (.ref c1)))
  (m2:PySem.W.nsIn K mainGlobals "NoPair" = some (some (.ref c2)))
  (m3:PySem.W.nsIn K mainGlobals "Ring" = some (some (.ref c3)))
  (m4:PySem.W.nsIn K mainGlobals "Over" = some (some (.ref c4)))
  (m5:PySem.W.nsIn K mainGlobals "Meet" = some (some (.ref c5)))
  (m6:PySem.W.nsIn K mainGlobals "NoText" = some (some (.ref c6)))
  (m7:PySem.W.nsIn K mainGlobals "NoAmount" = some (some (.ref c7)))
  (m8:PySem.W.nsIn K mainGlobals "TooLarge" = some (some (.ref c8)))
  (_lk:K.lookup c5=some ⟨.type "type",od,.cls cd,sl⟩) (_ni:PySem.W.nsIn K cd.ns "__init__" = some (some (.ref f5)))
  (e5:ExF K c5 cP f5 "recipe")
  (nq1:PySem.W.findIn K (.ref c5) "one" = some none)
  (nq2:PySem.W.findIn K (.ref c5) "other" = some none)
  (nq3:PySem.W.findIn K (.ref c5) "ways" = some none)
  (ct:CtK K cP)
  (bi:BaseI K cP)
  (s5:PySem.W.subIn K (.ref c5) (.ref cP)=some true)
  (p5:PySem.W.kitOne K (.ref c5) (.ref cP)=some true)
  (v5:PySem.W.kitOne K (.ref c5) (.type "ValueError")=some true)
  (i50:PySem.W.kitOne K (.ref c5) (.ref c0)=some false)
  (i51:PySem.W.kitOne K (.ref c5) (.ref c1)=some false)
  (i52:PySem.W.kitOne K (.ref c5) (.ref c2)=some false)
  (i53:PySem.W.kitOne K (.ref c5) (.ref c3)=some false)
  (i54:PySem.W.kitOne K (.ref c5) (.ref c4)=some false)
  (i55:PySem.W.kitOne K (.ref c5) (.ref c5)=some true)
  (i56:PySem.W.kitOne K (.ref c5) (.ref c6)=some false)
  (i57:PySem.W.kitOne K (.ref c5) (.ref c7)=some false)
  (i58:PySem.W.kitOne K (.ref c5) (.ref c8)=some false)
  (fn5 : ∃ fd:FuncData,Fun K "__init__" "Meet.__init__" sI5 f5 fd/\Binds K fd ["self","recipe","one","other","ways"] [])
  : ∃ cP c0 c1 c2 c3 c4 c5 c6 c7 c8 f5:Addr,ErMK K cP c0 c1 c2 c3 c4 c5 c6 c7 c8 f5 :=
 ⟨_,_,_,_,_,_,_,_,_,_,_,{ e5:=e5,q51:=⟨e5.i,e5.sa,nq1⟩,q52:=⟨e5.i,e5.sa,nq2⟩,q53:=⟨e5.i,e5.sa,nq3⟩,ct:=ct,bi:=bi,s5:=s5,p5:=p5,v5:=v5,mP:=mP,m0:=m0,m1:=m1,m2:=m2,m3:=m3,m4:=m4,m5:=m5,m6:=m6,m7:=m7,m8:=m8,i50:=i50,i51:=i51,i52:=i52,i53:=i53,i54:=i54,i55:=i55,i56:=i56,i57:=i57,i58:=i58,fn5:=fn5 }⟩
structure AllD (K:PySem.W.Frag):Prop where
 dOwn:Dn K "own_copy" sOwn ["thing"]
 dGcd:Dn K "common_divisor" sGcd ["one","other"]
 dLow:Dn K "lowest_terms" sLow ["top","bottom"]
 dPlus:Dn K "plus" sPlus ["one","other"]
 dMinus:Dn K "minus" sMinus ["one","other"]
 dTimes:Dn K "times" sTimes ["one","other"]
 dOver:Dn K "over" sOver ["one","other"]
 dLess:Dn K "less" sLess ["one","other"]
 dWholeL:Dn K "whole" sWholeL ["one"]
 dRowsOf:Dn K "rows_of" sRowsOf ["book","name"]
 dThin:Dn K "things_in" sThin ["row"]
 dThof:Dn K "things_of" sThof ["book","name"]
 dShares:Dn K "shares" sShares ["all_of_it","pairs"]
 dPutBy:Dn K "put_by" sPutBy ["row","lies"]
 dLooked:Dn K "looked" sLooked ["book"]
 dRnm:Dn K "recipe_names" sRnm ["book"]
 dRTw:Dn K "refuse_twice" sRTw ["book"]
 dRNn:Dn K "refuse_no_name" sRNn ["book"]
 dRNp:Dn K "refuse_no_pair" sRNp ["book"]
 dOof:Dn K "order_of" sOof ["book"]
 dReady:Dn K "first_ready" sReady ["book","order"]
 dROv:Dn K "refuse_over" sROv ["book"]
 dFOv:Dn K "first_over" sFOv ["rows"]
 dRMe:Dn K "refuse_meet" sRMe ["book"]
 dWof:Dn K "wares_of" sWof ["book","thing"]
 dWay:Dn K "way_down" sWay ["book","recipe","ware"]
 dCell:Dn K "_law_cell_at" sCell ["_law_script","_law_k"]
 dLeft:Dn K "_law_left" sLeft ["_law_script","_law_k"]
 dNext:Dn K "_law_next" sNext ["_law_left_here","_law_many"]
 dDiv:Dn K "_law_divisor" sDiv ["_law_one","_law_other"]
 dLlow:Dn K "_law_low" sLlow ["_law_top","_law_bottom"]
 dNames:Dn K "_law_names" sNames ["_law_left_here","_law_many"]
 dLam:Dn K "_law_amount" sLam ["_law_left_here"]
 dLparts:Dn K "_law_parts" sLparts ["_law_left_here","_law_allowed"]
 dFilled:Dn K "_law_filled" sFilled ["_law_left_here","_law_thing","_law_lies"]
 dLrow:Dn K "_law_row" sLrow ["_law_left_here","_law_allowed","_law_lies"]
 dBehind:Dn K "_law_behind" sBehind ["_law_lies","_law_row_here"]
 dLower:Dn K "_law_lower" sLower ["_law_recipes_here","_law_j","_law_turn"]
 dLrecs:Dn K "_law_recipes" sLrecs ["_law_script","_law_wares","_law_recipes_here","_law_turn","_law_places"]
 dLapart:Dn K "_law_apart" sLapart ["_law_script","_law_wares","_law_many"]
 dBegun:Dn K "_law_begun" sBegun ["_law_script"]
 dLbook:Dn K "_law_book" sLbook ["_law_script"]
 dThings:Dn K "_law_things" sThings ["_law_row_here"]
 dOrd:Dn K "_law_order" sOrd ["_law_book_here"]
 dReach:Dn K "_law_reach" sReach ["_law_book_here"]
 dMeetL:Dn K "_law_meet" sMeetL ["_law_book_here","_law_reach_here"]
 dWayR:Dn K "_law_way_right" sWayR ["_law_book_here","_law_way","_law_recipe","_law_ware"]
 dLookL:Dn K "_law_looked" sLookL ["_law_book_here"]
 dKind:Dn K "_law_kind" sKind ["_law_e"]
 dMeetR:Dn K "_law_meets_right" sMeetR ["_law_book_here","_law_refused","_law_due"]
 z0:PySem.W.nsIn K mainGlobals "isinstance" = some none
 z1:PySem.W.nsIn K mainGlobals "int" = some none
 z2:PySem.W.nsIn K mainGlobals "bool" = some none
 z3:PySem.W.nsIn K mainGlobals "str" = some none
 z4:PySem.W.nsIn K mainGlobals "list" = some none
 z5:PySem.W.nsIn K mainGlobals "tuple" = some none
 z6:PySem.W.nsIn K mainGlobals "len" = some none
 z7:PySem.W.nsIn K mainGlobals "any" = some none
 z8:PySem.W.nsIn K mainGlobals "all" = some none
 z9:PySem.W.nsIn K mainGlobals "range" = some none
 z10:PySem.W.nsIn K mainGlobals "min" = some none
 z11:PySem.W.nsIn K mainGlobals "abs" = some none
 z12:PySem.W.nsIn K mainGlobals "enumerate" = some none
 z13:PySem.W.nsIn K mainGlobals "zip" = some none
 z14:PySem.W.nsIn K mainGlobals "ValueError" = some none
 z15:PySem.W.nsIn K mainGlobals "max" = some none
 z16:PySem.W.nsIn K mainGlobals "dict" = some none
 z17:PySem.W.nsIn K mainGlobals "sum" = some none
 z18:PySem.W.nsIn K mainGlobals "sorted" = some none
 nou : ∃ aN:Addr,NouK K aN
 err : ∃ cP c0 c1 c2 c3 c4 c5 c6 c7 c8 f5:Addr,ErMK K cP c0 c1 c2 c3 c4 c5 c6 c7 c8 f5
theorem AllD.txt {K:PySem.W.Frag}{mg:Str->Option Value}{h:Heap}(A:AllD K)(X:K.In h)(G:h.Ns mainGlobals mg):Txt mg:=⟨PySem.W.mg_none_of X G A.z0,PySem.W.mg_none_of X G A.z1,PySem.W.mg_none_of X G A.z2,PySem.W.mg_none_of X G A.z3,PySem.W.mg_none_of X G A.z4,PySem.W.mg_none_of X G A.z5,PySem.W.mg_none_of X G A.z6,PySem.W.mg_none_of X G A.z7,PySem.W.mg_none_of X G A.z8,PySem.W.mg_none_of X G A.z9,PySem.W.mg_none_of X G A.z10,PySem.W.mg_none_of X G A.z11,PySem.W.mg_none_of X G A.z12,PySem.W.mg_none_of X G A.z13,PySem.W.mg_none_of X G A.z14,PySem.W.mg_none_of X G A.z15,PySem.W.mg_none_of X G A.z16,PySem.W.mg_none_of X G A.z17,PySem.W.mg_none_of X G A.z18⟩
theorem law_ok {P:Program}{w:World}{K:PySem.W.Frag}{mg:Str->Option Value}{base h:Heap}{f:Addr}{fd:FuncData}(X:K.In h)(G:h.Ns mainGlobals mg)(A:AllD K)(F:Fun K "law" "law" sLaw f fd):FnOk P w K mg base CX0 10 f fd ["_law_script"] (spLaw K):=by
 have T:Txt mg:=A.txt X G
 obtain ⟨aN,NK⟩:=A.nou
 have mN:=PySem.W.mg_of X G NK.m
 obtain ⟨cP,c0,c1,c2,c3,c4,c5,c6,c7,c8,f5,EK⟩:=A.err
 have R:=EK.er X G
 obtain ⟨fdI,FI,bI⟩:=EK.fn5
 have cOw0:Cal P w K mg base CX0 1 "own_copy" ["thing"] spOwn0:=A.dOwn.cal X G fun F=>ok_own0 F T
 have cOw1:Cal P w K mg base CX0 2 "own_copy" ["thing"] spOwn1:=A.dOwn.cal X G fun F=>ok_own1 F T cOw0
 have cOw:Cal P w K mg base CX0 3 "own_copy" ["thing"] spOwn2:=A.dOwn.cal X G fun F=>ok_own2 F T cOw1
 have kI:FnOk P w K mg base CX0 4 f5 fdI ["self","recipe","one","other","ways"] (spI5 c5):=ok_i5 FI R cOw
 have cG:Cal P w K mg base CX0 1 "common_divisor" ["one","other"] spGcd:=A.dGcd.cal X G ok_gcd
 have cLow:Cal P w K mg base CX0 2 "lowest_terms" ["top","bottom"] spLow:=A.dLow.cal X G fun F=>ok_low F cG
 have cPl:Cal P w K mg base CX0 3 "plus" ["one","other"] (spPlus K):=A.dPlus.cal X G fun F=>ok_plus F mN NK.s cLow
 have cTm:Cal P w K mg base CX0 3 "times" ["one","other"] (spTimes K):=A.dTimes.cal X G fun F=>ok_times F cLow
 have cOv:Cal P w K mg base CX0 3 "over" ["one","other"] (spOver K):=A.dOver.cal X G fun F=>ok_over F mN NK.s cLow
 have cLs:Cal P w K mg base CX0 1 "less" ["one","other"] (spLess K):=A.dLess.cal X G ok_less
 have cMi:Cal P w K mg base CX0 3 "minus" ["one","other"] (spMinus K):=A.dMinus.cal X G fun F=>ok_minus F (cLs.mono (by decide)) cLow
 have cWl:Cal P w K mg base CX0 4 "whole" ["one"] (spWholeL K):=A.dWholeL.cal X G fun F=>ok_wholel F mN NK.s cPl
 have cSh:Cal P w K mg base CX0 4 "shares" ["all_of_it","pairs"] (spShares K):=A.dShares.cal X G fun F=>ok_shares F T cOv cTm
 have cPb:Cal P w K mg base CX0 5 "put_by" ["row","lies"] (spPutBy K):=A.dPutBy.cal X G fun F=>ok_putby F mN NK.s cSh (cTm.mono (by decide)) (cMi.mono (by decide))
 have cFo:Cal P w K mg base CX0 6 "first_over" ["rows"] spFOv:=A.dFOv.cal X G fun F=>ok_fov F T mN NK.s (cLs.mono (by decide)) (cPl.mono (by decide)) (cWl.mono (by decide)) cPb
 have cRo:Cal P w K mg base CX0 1 "rows_of" ["book","name"] spRowsOf:=A.dRowsOf.cal X G ok_rowsof
 have cRq:Cal P w K mg base CX0 1 "rows_of" ["book","name"] spRowsNo:=A.dRowsOf.cal X G ok_rowsno
 have cTi:Cal P w K mg base CX0 1 "things_in" ["row"] spThings:=A.dThin.cal X G ok_thin
 have cTo:Cal P w K mg base CX0 2 "things_of" ["book","name"] spThof:=A.dThof.cal X G fun F=>ok_thof F cRo cTi
 have cTa:Cal P w K mg base CX0 2 "things_of" ["book","name"] spThofA:=A.dThof.cal X G fun F=>fn_or (ok_thof F cRo cTi) (ok_thofno F cRq cTi)
 have cRn:Cal P w K mg base CX0 1 "recipe_names" ["book"] spRnm:=A.dRnm.cal X G ok_rnm
 have cRd:Cal P w K mg base CX0 3 "first_ready" ["book","order"] spReady:=A.dReady.cal X G fun F=>ok_ready F T (cRn.mono (by decide)) cTo
 have cOo:Cal P w K mg base CX0 4 "order_of" ["book"] spOof:=A.dOof.cal X G fun F=>ok_oof F cRd
 have cTw:Cal P w K mg base CX0 3 "refuse_twice" ["book"] spRTw:=A.dRTw.cal X G fun F=>ok_rtw F T (cRn.mono (by decide))
 have cNn:Cal P w K mg base CX0 3 "refuse_no_name" ["book"] spRNn:=A.dRNn.cal X G fun F=>ok_rnn F T (cRn.mono (by decide)) cTo
 have cNp:Cal P w K mg base CX0 3 "refuse_no_pair" ["book"] spRNp:=A.dRNp.cal X G fun F=>ok_rnp F
 have cRv:Cal P w K mg base CX0 7 "refuse_over" ["book"] spROv0:=A.dROv.cal X G fun F=>ok_rov0 F cFo
 have cWf:Cal P w K mg base CX0 3 "wares_of" ["book","thing"] spWof:=A.dWof.cal X G fun F=>ok_wof F T cTa
 have cWy:Cal P w K mg base CX0 4 "way_down" ["book","recipe","ware"] spWay:=A.dWay.cal X G fun F=>ok_way F (cTo.mono (by decide)) cWf
 have cMe:Cal P w K mg base (CXg P w) 6 "refuse_meet" ["book"] (spRMe c5):=A.dRMe.cal X G fun F=>ok_rme F R kI bI (cRn.mono (by decide)) (cWf.mono (by decide)) (cWy.mono (by decide))
 have cLk:Cal P w K mg base (CXg P w) 8 "looked" ["book"] (spLooked c5):=A.dLooked.cal X G fun F=>ok_looked F T (cTw.mono (by decide)) (cNn.mono (by decide)) (cNp.mono (by decide)) (cOo.mono (by decide)) cRv (cMe.mono (by decide))
 have cC:Cal P w K mg base CX0 1 "_law_cell_at" ["_law_script","_law_k"] (spCell K):=A.dCell.cal X G fun F=>ok_cell F T
 have cL:Cal P w K mg base CX0 2 "_law_left" ["_law_script","_law_k"] (spLeft K):=A.dLeft.cal X G fun F=>ok_left F T cC
 have cN:Cal P w K mg base CX0 1 "_law_next" ["_law_left_here","_law_many"] spNext:=A.dNext.cal X G fun F=>ok_next F T
 have cNm:Cal P w K mg base CX0 2 "_law_names" ["_law_left_here","_law_many"] spNames:=A.dNames.cal X G fun F=>ok_names F T cN
 have cDv:Cal P w K mg base CX0 1 "_law_divisor" ["_law_one","_law_other"] spGcd:=A.dDiv.cal X G ok_div
 have cLl:Cal P w K mg base CX0 2 "_law_low" ["_law_top","_law_bottom"] spLow:=A.dLlow.cal X G fun F=>ok_llow F cDv
 have cAm:Cal P w K mg base CX0 3 "_law_amount" ["_law_left_here"] spLam:=A.dLam.cal X G fun F=>ok_lam F (cN.mono (by decide)) cLl
 have cLp:Cal P w K mg base CX0 4 "_law_parts" ["_law_left_here","_law_allowed"] spLparts:=A.dLparts.cal X G fun F=>ok_lparts F T (cN.mono (by decide)) cAm
 have cFi:Cal P w K mg base CX0 4 "_law_filled" ["_law_left_here","_law_thing","_law_lies"] spFilled:=A.dFilled.cal X G fun F=>ok_filled F (cN.mono (by decide)) cAm (cLl.mono (by decide))
 have cLr:Cal P w K mg base CX0 5 "_law_row" ["_law_left_here","_law_allowed","_law_lies"] spLrow:=A.dLrow.cal X G fun F=>ok_lrow F T (cN.mono (by decide)) (cAm.mono (by decide)) cLp cFi
 have cBh:Cal P w K mg base CX0 3 "_law_behind" ["_law_lies","_law_row_here"] spBehind:=A.dBehind.cal X G fun F=>ok_behind F cLl
 have cLo:Cal P w K mg base CX0 1 "_law_lower" ["_law_recipes_here","_law_j","_law_turn"] spLower:=A.dLower.cal X G fun F=>ok_lower F T
 have cRs:Cal P w K mg base CX0 6 "_law_recipes" ["_law_script","_law_wares","_law_recipes_here","_law_turn","_law_places"] (spLrecs K):=A.dLrecs.cal X G fun F=>ok_lrecs F T (cL.mono (by decide)) (cN.mono (by decide)) (cLo.mono (by decide)) cLr (cBh.mono (by decide))
 have cAa:Cal P w K mg base CX0 6 "_law_apart" ["_law_script","_law_wares","_law_many"] (spLapart K):=A.dLapart.cal X G fun F=>ok_lapart F T (cL.mono (by decide)) (cN.mono (by decide))
 have cBe:Cal P w K mg base CX0 6 "_law_begun" ["_law_script"] (spBegun K):=A.dBegun.cal X G fun F=>ok_begun F (cL.mono (by decide)) (cN.mono (by decide)) (cNm.mono (by decide))
 have cLb:Cal P w K mg base CX0 7 "_law_book" ["_law_script"] (spLbook K):=A.dLbook.cal X G fun F=>ok_lbook F T cBe cRs cAa
 have cTh:Cal P w K mg base CX0 1 "_law_things" ["_law_row_here"] spThings:=A.dThings.cal X G fun F=>ok_things F
 have cOl:Cal P w K mg base CX0 2 "_law_order" ["_law_book_here"] spOrdL:=A.dOrd.cal X G fun F=>ok_ordl F T cTh
 have cRe:Cal P w K mg base CX0 4 "_law_reach" ["_law_book_here"] spReach:=A.dReach.cal X G fun F=>ok_reach F T (cOl.mono (by decide)) (cTh.mono (by decide))
 have cMl:Cal P w K mg base CX0 1 "_law_meet" ["_law_book_here","_law_reach_here"] spMeetL:=A.dMeetL.cal X G fun F=>ok_meetl F
 have cWr:Cal P w K mg base CX0 2 "_law_way_right" ["_law_book_here","_law_way","_law_recipe","_law_ware"] spWayR:=A.dWayR.cal X G fun F=>ok_wayr F T cTh
 have cKl:Cal P w K mg base CX0 9 "_law_looked" ["_law_book_here"] (spLookL c5):=A.dLookL.cal X G fun F=>ok_lookl F R cLk
 have cKd:Cal P w K mg base CX0 1 "_law_kind" ["_law_e"] (spKind 5 c5):=A.dKind.cal X G fun F=>ok_kind5 F T R
 have cMr:Cal P w K mg base CX0 3 "_law_meets_right" ["_law_book_here","_law_refused","_law_due"] (spMeetR c5):=A.dMeetR.cal X G fun F=>ok_meetr F T R (cKd.mono (by decide)) cWr
 exact ok_law F T R (cLb.mono (by decide)) (cRe.mono (by decide)) (cMl.mono (by decide)) cKl (cOl.mono (by decide)) (cMr.mono (by decide)) (cWf.mono (by decide))
theorem all_mk {l:PySem.W.OpenLaw}{w:World}{K:PySem.W.Frag}{h:Heap}{mg:Str->Option Value}{fa f4:Addr}(X:K.In h)(G:h.Ns mainGlobals mg)(hfa:mg "law" = some (.ref fa))(A:AllD K)
  {od4 an4:Option Addr} {sl4:Array (Option Value)} {oc4 kV4 dc4 pm4 cd4 ct4:Value}
  (a4:PySem.W.nsIn K mainGlobals "law" = some (some (.ref f4))) (l4:K.lookup f4=some ⟨oc4,od4,.func (PySem.W.fnOf "law" "law" (defArgs sLaw) (defBody sLaw) (defScope sLaw) .none kV4 dc4 pm4 an4 cd4 ct4),sl4⟩) (c4:PySem.W.codeIn K cd4 "law" = true) (k4:PySem.W.keepIn K (.ref f4)=true) :
  ∃ fd:FuncData,(∀ (s:Shared) (v:Value),BindsTo s fd ⟨[v],[]⟩ [("_law_script",v)])/\∀ base:Heap,K.In base->base.Ns mainGlobals mg->FnOk l.prog w K mg base CX0 10 fa fd ["_law_script"] (spLaw K):=by
 have e:=hfa.symm.trans (PySem.W.mg_of X G a4)
 cases e
 exact ⟨PySem.W.fnOf "law" "law" (defArgs sLaw) (defBody sLaw) (defScope sLaw) .none kV4 dc4 pm4 an4 cd4 ct4,fun s v=>.of_eq rfl,fun base _ _=>law_ok X G A (fun_mk (st:=sLaw) l4 c4 k4)⟩
theorem walk {l:PySem.W.OpenLaw}{q:Program}{loose:List Str}{XP:(Str->Option Value)->Heap->Prop}{YP:World->Heap->Prop}{d:DefRec}{K:Params->PySem.W.Frag}(hn:l.most=some 63)(hdf:d.params.defaults=[])
  (hY : ∀ (w:World) (h:Heap),YP w h->(K w.params).In h)
  (F : ∀ (w:World) (mg:Str->Option Value) (fa:Addr) (h:Heap),(K w.params).In h->h.Ns mainGlobals mg->mg d.name=some (.ref fa) ->
   ∃ fd:FuncData,(∀ (s:Shared) (u:Value),BindsTo s fd ⟨[u],[]⟩ [("_law_script",u)])/\∀ base:Heap,(K w.params).In base->base.Ns mainGlobals mg->FnOk l.prog w (K w.params) mg base CX0 10 fa fd ["_law_script"] (spLaw (K w.params))) :
  PySem.W.WalkO q loose XP YP l.row.toRowW d [] (fun f vs=>PySem.call f vs) :=
 L2.walk_of (n:=63) (k:=10) (x := "_law_script") (CX:=fun _=>CX0) (sp:=fun w=>spLaw (K w.params)) hn (by decide) hdf ⟨rfl,by decide,by decide⟩ hY F (fun _ _ a ns hl _ hS=>⟨a,ns,rfl,hS,hl,fun _=>rfl⟩) fun _ _ _ _ _ z=>z
end K17
def PySem.W.Fast.tw295528542566166337:Unit:=()
def PySem.W.Fast.tw10845497759627266695:Unit:=()
def PySem.W.Fast.tw14272615603141147937:Unit:=()
def PySem.W.Fast.tw1179363820267043342:Unit:=()
def PySem.W.Fast.tw17412969088993432226:Unit:=()
def PySem.W.Fast.tw13034289427842850604:Unit:=()
def PySem.W.Fast.tw12950726447225370354:Unit:=()
def PySem.W.Fast.tw8604763710300734090:Unit:=()
def PySem.W.Fast.tw899464772182295690:Unit:=()
def PySem.W.Fast.tw12242288677994038248:Unit:=()
def PySem.W.Fast.tw1639460812671586604:Unit:=()
def PySem.W.Fast.tw1916789045804450407:Unit:=()
def PySem.W.Fast.tw12514495418635560212:Unit:=()
def PySem.W.Fast.tw4784141936061166829:Unit:=()
def PySem.W.Fast.tw1534350730732101921:Unit:=()
def PySem.W.Fast.tw7516499661899237828:Unit:=()
def PySem.W.Fast.tw2535157996475410106:Unit:=()
def PySem.W.Fast.tw10623006333400720856:Unit:=()
def PySem.W.Fast.tw12987788888753271249:Unit:=()
def PySem.W.Fast.tw9472949212623052081:Unit:=()
def PySem.W.Fast.tw7070475529219954874:Unit:=()
def PySem.W.Fast.tw10368035095000937281:Unit:=()
def PySem.W.Fast.tw12431945469261899583:Unit:=()
def PySem.W.Fast.tw17648936901299599204:Unit:=()
def PySem.W.Fast.tw1090377094344634824:Unit:=()
def PySem.W.Fast.tw9893627310724106536:Unit:=()
def PySem.W.Fast.tw15707891159083234983:Unit:=()
def PySem.W.Fast.tw8037659222874445343:Unit:=()
def PySem.W.Fast.tw2749772587406703221:Unit:=()
def PySem.W.Fast.tw6329962911569783431:Unit:=()
def PySem.W.Fast.tw15660836527455875455:Unit:=()
def PySem.W.Fast.tw8753914802926561727:Unit:=()
def PySem.W.Fast.tw1539571733992680427:Unit:=()
def PySem.W.Fast.tw13174267394886677058:Unit:=()
def PySem.W.Fast.tw14420093599465546582:Unit:=()
def PySem.W.Fast.tw11598170879028194529:Unit:=()
def PySem.W.Fast.tw2414299220640312830:Unit:=()
def PySem.W.Fast.tw754227674500116633:Unit:=()
def PySem.W.Fast.tw14702275199224477384:Unit:=()
def PySem.W.Fast.tw16191183310823783093:Unit:=()
def PySem.W.Fast.tw3123552380356927290:Unit:=()
def PySem.W.Fast.tw3686384207153164243:Unit:=()
def PySem.W.Fast.tw1107935949521713778:Unit:=()
def PySem.W.Fast.tw16843779893104139936:Unit:=()
def PySem.W.Fast.tw18351702153193276834:Unit:=()
def PySem.W.Fast.tw12513264908620614312:Unit:=()
def PySem.W.Fast.tw5761035694147552539:Unit:=()
def PySem.W.Fast.tw10735965821295217908:Unit:=()
def PySem.W.Fast.tw131218090421268035:Unit:=()
def PySem.W.Fast.tw14526797241713464261:Unit:=()
def PySem.W.Fast.tw2213513224169859053:Unit:=()
def PySem.W.Fast.tw14620912549489017203:Unit:=()
def PySem.W.Fast.tw13756858040086283339:Unit:=()
def PySem.W.Fast.tw2382018329928570837:Unit:=()
def PySem.W.Fast.tw11323992447020087636:Unit:=()
def PySem.W.Fast.tw721405966241056485:Unit:=()
def PySem.W.Fast.tw2540072948078763243:Unit:=()
def PySem.W.Fast.tw7328495010682445986:Unit:=()
def PySem.W.Fast.tw2875256582253086379:Unit:=()
def PySem.W.Fast.tw481751212001865616:Unit:=()
def PySem.W.Fast.tw3539366386517221274:Unit:=()
def PySem.W.Fast.tw9790523180004876466:Unit:=()
def PySem.W.Fast.tw7432141907084070663:Unit:=()
def PySem.W.Fast.tw6267859432870727709:Unit:=()
def PySem.W.Fast.tw16955849482795475300:Unit:=()
def PySem.W.Fast.tw11232655655210091603:Unit:=()
def PySem.W.Fast.tw15919013279099634576:Unit:=()
def PySem.W.Fast.tw1900129808925333755:Unit:=()
def PySem.W.Fast.tw8077579546104341702:Unit:=()
def PySem.W.Fast.tw7978705552817008902:Unit:=()
def PySem.W.Fast.tw7359050200655822567:Unit:=()
def PySem.W.Fast.tw14620152841863650999:Unit:=()
def PySem.W.Fast.tw3223398805211040288:Unit:=()
def PySem.W.Fast.tw11397237186807534765:Unit:=()
def PySem.W.Fast.tw11215912021653942245:Unit:=()
def PySem.W.Fast.tw14594581514757033116:Unit:=()
def PySem.W.Fast.tw5956511894089127234:Unit:=()
def PySem.W.Fast.tw13504529772980789919:Unit:=()
def PySem.W.Fast.tw9646500879268871243:Unit:=()
def PySem.W.Fast.tw7903977606033441621:Unit:=()
def PySem.W.Fast.tw11883792573157300745:Unit:=()
def PySem.W.Fast.tw13232759116414080397:Unit:=()
def PySem.W.Fast.tw11904379633013737839:Unit:=()
def PySem.W.Fast.tw15820360189198003178:Unit:=()
def PySem.W.Fast.tw8869695615890217281:Unit:=()
def PySem.W.Fast.tw9646842649301402363:Unit:=()
def PySem.W.Fast.tw7096313365844785554:Unit:=()
def PySem.W.Fast.tw10610512173524693062:Unit:=()
def PySem.W.Fast.tw1643266737560567381:Unit:=()
def PySem.W.Fast.tw15899929277054320185:Unit:=()
def PySem.W.Fast.tw17337311583132279125:Unit:=()
def PySem.W.Fast.tw16458678917949097854:Unit:=()
def PySem.W.Fast.tw15190250510168457247:Unit:=()
def PySem.W.Fast.tw12269860914042288379:Unit:=()
def PySem.W.Fast.tw12754858045157259863:Unit:=()
def PySem.W.Fast.tw7761530095378152170:Unit:=()
def PySem.W.Fast.tw768642835278794512:Unit:=()
def PySem.W.Fast.tw2549346169321589083:Unit:=()
def PySem.W.Fast.tw9520784112357585719:Unit:=()
def PySem.W.Fast.tw16942202804371262683:Unit:=()
def PySem.W.Fast.tw860005807890462111:Unit:=()
def PySem.W.Fast.tw16808191146699469037:Unit:=()
def PySem.W.Fast.tw13570330151970217875:Unit:=()
def PySem.W.Fast.tw2851544344486465172:Unit:=()
def PySem.W.Fast.tw15436773048339531996:Unit:=()
def PySem.W.Fast.tw7173004387932192385:Unit:=()
def PySem.W.Fast.tw11230154259038095337:Unit:=()
def PySem.W.Fast.tw3860573067765759199:Unit:=()
def PySem.W.Fast.tw14218820850072395929:Unit:=()
def PySem.W.Fast.tw2881557233252082385:Unit:=()
def PySem.W.Fast.tw14192917320492541518:Unit:=()
def PySem.W.Fast.tw8101699993979031594:Unit:=()
def PySem.W.Fast.tw14337512934596917792:Unit:=()
def PySem.W.Fast.tw4899237227876070618:Unit:=()
def PySem.W.Fast.tw4404709219170942487:Unit:=()
def PySem.W.Fast.tw14180969434045542571:Unit:=()
def PySem.W.Fast.tw10641548223166975828:Unit:=()
def PySem.W.Fast.tw5687007445659896422:Unit:=()
def PySem.W.Fast.tw17234834325536323343:Unit:=()
def PySem.W.Fast.tw16617692905573907703:Unit:=()
open PySem PySem.W PyProof.Rows
set_option maxRecDepth 100000 in
set_option maxHeartbeats 0 in
theorem PySem.Challenge.cw_phialhouse_k17_wares_and_meetings_holds : PySem.Challenge.rw_phialhouse_k17_wares_and_meetings.Holds := by
 w_on; o_law; k_head; (case hw=>w_witness2)
 k_fill
 refine K17.walk (l:=PySem.Challenge.rw_phialhouse_k17_wares_and_meetings) rfl rfl (fun w h Y=>PySem.W.kIn_of Y) ?F
 case F =>
  intro w mg fa h KX G hmg
  have dOwn:K17.Dn (L2.KOf KX) "own_copy" K17.sOwn ["thing"]:=by
   dsimp only [L2.KOf]
   refine' K17.Dn.mk' ?a ?l ?c ?k ?b
   (case a=>k_is); (case l=>k_is); (case c=>k_is); (case k=>k_is)
   (case b=>exact fun _ _ _ _ _ _ us hl=>match us,hl with | [_],_=>rfl)
  have dGcd:K17.Dn (L2.KOf KX) "common_divisor" K17.sGcd ["one","other"]:=by
   dsimp only [L2.KOf]
   refine' K17.Dn.mk' ?a ?l ?c ?k ?b
   (case a=>k_is); (case l=>k_is); (case c=>k_is); (case k=>k_is)
   (case b=>exact fun _ _ _ _ _ _ us hl=>match us,hl with | [_,_],_=>rfl)
  have dLow:K17.Dn (L2.KOf KX) "lowest_terms" K17.sLow ["top","bottom"]:=by
   dsimp only [L2.KOf]
   refine' K17.Dn.mk' ?a ?l ?c ?k ?b
   (case a=>k_is); (case l=>k_is); (case c=>k_is); (case k=>k_is)
   (case b=>exact fun _ _ _ _ _ _ us hl=>match us,hl with | [_,_],_=>rfl)
  have dPlus:K17.Dn (L2.KOf KX) "plus" K17.sPlus ["one","other"]:=by
   dsimp only [L2.KOf]
   refine' K17.Dn.mk' ?a ?l ?c ?k ?b
   (case a=>k_is); (case l=>k_is); (case c=>k_is); (case k=>k_is)
   (case b=>exact fun _ _ _ _ _ _ us hl=>match us,hl with | [_,_],_=>rfl)
  have dMinus:K17.Dn (L2.KOf KX) "minus" K17.sMinus ["one","other"]:=by
   dsimp only [L2.KOf]
   refine' K17.Dn.mk' ?a ?l ?c ?k ?b
   (case a=>k_is); (case l=>k_is); (case c=>k_is); (case k=>k_is)
   (case b=>exact fun _ _ _ _ _ _ us hl=>match us,hl with | [_,_],_=>rfl)
  have dTimes:K17.Dn (L2.KOf KX) "times" K17.sTimes ["one","other"]:=by
   dsimp only [L2.KOf]
   refine' K17.Dn.mk' ?a ?l ?c ?k ?b
   (case a=>k_is); (case l=>k_is); (case c=>k_is); (case k=>k_is)
   (case b=>exact fun _ _ _ _ _ _ us hl=>match us,hl with | [_,_],_=>rfl)
  have dOver:K17.Dn (L2.KOf KX) "over" K17.sOver ["one","other"]:=by
   dsimp only [L2.KOf]
   refine' K17.Dn.mk' ?a ?l ?c ?k ?b
   (case a=>k_is); (case l=>k_is); (case c=>k_is); (case k=>k_is)
   (case b=>exact fun _ _ _ _ _ _ us hl=>match us,hl with | [_,_],_=>rfl)
  have dLess:K17.Dn (L2.KOf KX) "less" K17.sLess ["one","other"]:=by
   dsimp only [L2.KOf]
   refine' K17.Dn.mk' ?a ?l ?c ?k ?b
   (case a=>k_is); (case l=>k_is); (case c=>k_is); (case k=>k_is)
   (case b=>exact fun _ _ _ _ _ _ us hl=>match us,hl with | [_,_],_=>rfl)
  have dWholeL:K17.Dn (L2.KOf KX) "whole" K17.sWholeL ["one"]:=by
   dsimp only [L2.KOf]
   refine' K17.Dn.mk' ?a ?l ?c ?k ?b
   (case a=>k_is); (case l=>k_is); (case c=>k_is); (case k=>k_is)
   (case b=>exact fun _ _ _ _ _ _ us hl=>match us,hl with | [_],_=>rfl)
  have dRowsOf:K17.Dn (L2.KOf KX) "rows_of" K17.sRowsOf ["book","name"]:=by
   dsimp only [L2.KOf]
   refine' K17.Dn.mk' ?a ?l ?c ?k ?b
   (case a=>k_is); (case l=>k_is); (case c=>k_is); (case k=>k_is)
   (case b=>exact fun _ _ _ _ _ _ us hl=>match us,hl with | [_,_],_=>rfl)
  have dThin:K17.Dn (L2.KOf KX) "things_in" K17.sThin ["row"]:=by
   dsimp only [L2.KOf]
   refine' K17.Dn.mk' ?a ?l ?c ?k ?b
   (case a=>k_is); (case l=>k_is); (case c=>k_is); (case k=>k_is)
   (case b=>exact fun _ _ _ _ _ _ us hl=>match us,hl with | [_],_=>rfl)
  have dThof:K17.Dn (L2.KOf KX) "things_of" K17.sThof ["book","name"]:=by
   dsimp only [L2.KOf]
   refine' K17.Dn.mk' ?a ?l ?c ?k ?b
   (case a=>k_is); (case l=>k_is); (case c=>k_is); (case k=>k_is)
   (case b=>exact fun _ _ _ _ _ _ us hl=>match us,hl with | [_,_],_=>rfl)
  have dShares:K17.Dn (L2.KOf KX) "shares" K17.sShares ["all_of_it","pairs"]:=by
   dsimp only [L2.KOf]
   refine' K17.Dn.mk' ?a ?l ?c ?k ?b
   (case a=>k_is); (case l=>k_is); (case c=>k_is); (case k=>k_is)
   (case b=>exact fun _ _ _ _ _ _ us hl=>match us,hl with | [_,_],_=>rfl)
  have dPutBy:K17.Dn (L2.KOf KX) "put_by" K17.sPutBy ["row","lies"]:=by
   dsimp only [L2.KOf]
   refine' K17.Dn.mk' ?a ?l ?c ?k ?b
   (case a=>k_is); (case l=>k_is); (case c=>k_is); (case k=>k_is)
   (case b=>exact fun _ _ _ _ _ _ us hl=>match us,hl with | [_,_],_=>rfl)
  have dLooked:K17.Dn (L2.KOf KX) "looked" K17.sLooked ["book"]:=by
   dsimp only [L2.KOf]
   refine' K17.Dn.mk' ?a ?l ?c ?k ?b
   (case a=>k_is); (case l=>k_is); (case c=>k_is); (case k=>k_is)
   (case b=>exact fun _ _ _ _ _ _ us hl=>match us,hl with | [_],_=>rfl)
  have dRnm:K17.Dn (L2.KOf KX) "recipe_names" K17.sRnm ["book"]:=by
   dsimp only [L2.KOf]
   refine' K17.Dn.mk' ?a ?l ?c ?k ?b
   (case a=>k_is); (case l=>k_is); (case c=>k_is); (case k=>k_is)
   (case b=>exact fun _ _ _ _ _ _ us hl=>match us,hl with | [_],_=>rfl)
  have dRTw:K17.Dn (L2.KOf KX) "refuse_twice" K17.sRTw ["book"]:=by
   dsimp only [L2.KOf]
   refine' K17.Dn.mk' ?a ?l ?c ?k ?b
   (case a=>k_is); (case l=>k_is); (case c=>k_is); (case k=>k_is)
   (case b=>exact fun _ _ _ _ _ _ us hl=>match us,hl with | [_],_=>rfl)
  have dRNn:K17.Dn (L2.KOf KX) "refuse_no_name" K17.sRNn ["book"]:=by
   dsimp only [L2.KOf]
   refine' K17.Dn.mk' ?a ?l ?c ?k ?b
   (case a=>k_is); (case l=>k_is); (case c=>k_is); (case k=>k_is)
   (case b=>exact fun _ _ _ _ _ _ us hl=>match us,hl with | [_],_=>rfl)
  have dRNp:K17.Dn (L2.KOf KX) "refuse_no_pair" K17.sRNp ["book"]:=by
   dsimp only [L2.KOf]
   refine' K17.Dn.mk' ?a ?l ?c ?k ?b
   (case a=>k_is); (case l=>k_is); (case c=>k_is); (case k=>k_is)
   (case b=>exact fun _ _ _ _ _ _ us hl=>match us,hl with | [_],_=>rfl)
  have dOof:K17.Dn (L2.KOf KX) "order_of" K17.sOof ["book"]:=by
   dsimp only [L2.KOf]
   refine' K17.Dn.mk' ?a ?l ?c ?k ?b
   (case a=>k_is); (case l=>k_is); (case c=>k_is); (case k=>k_is)
   (case b=>exact fun _ _ _ _ _ _ us hl=>match us,hl with | [_],_=>rfl)
  have dReady:K17.Dn (L2.KOf KX) "first_ready" K17.sReady ["book","order"]:=by
   dsimp only [L2.KOf]
   refine' K17.Dn.mk' ?a ?l ?c ?k ?b
   (case a=>k_is); (case l=>k_is); (case c=>k_is); (case k=>k_is)
   (case b=>exact fun _ _ _ _ _ _ us hl=>match us,hl with | [_,_],_=>rfl)
  have dROv:K17.Dn (L2.KOf KX) "refuse_over" K17.sROv ["book"]:=by
   dsimp only [L2.KOf]
   refine' K17.Dn.mk' ?a ?l ?c ?k ?b
   (case a=>k_is); (case l=>k_is); (case c=>k_is); (case k=>k_is)
   (case b=>exact fun _ _ _ _ _ _ us hl=>match us,hl with | [_],_=>rfl)
  have dFOv:K17.Dn (L2.KOf KX) "first_over" K17.sFOv ["rows"]:=by
   dsimp only [L2.KOf]
   refine' K17.Dn.mk' ?a ?l ?c ?k ?b
   (case a=>k_is); (case l=>k_is); (case c=>k_is); (case k=>k_is)
   (case b=>exact fun _ _ _ _ _ _ us hl=>match us,hl with | [_],_=>rfl)
  have dRMe:K17.Dn (L2.KOf KX) "refuse_meet" K17.sRMe ["book"]:=by
   dsimp only [L2.KOf]
   refine' K17.Dn.mk' ?a ?l ?c ?k ?b
   (case a=>k_is); (case l=>k_is); (case c=>k_is); (case k=>k_is)
   (case b=>exact fun _ _ _ _ _ _ us hl=>match us,hl with | [_],_=>rfl)
  have dWof:K17.Dn (L2.KOf KX) "wares_of" K17.sWof ["book","thing"]:=by
   dsimp only [L2.KOf]
   refine' K17.Dn.mk' ?a ?l ?c ?k ?b
   (case a=>k_is); (case l=>k_is); (case c=>k_is); (case k=>k_is)
   (case b=>exact fun _ _ _ _ _ _ us hl=>match us,hl with | [_,_],_=>rfl)
  have dWay:K17.Dn (L2.KOf KX) "way_down" K17.sWay ["book","recipe","ware"]:=by
   dsimp only [L2.KOf]
   refine' K17.Dn.mk' ?a ?l ?c ?k ?b
   (case a=>k_is); (case l=>k_is); (case c=>k_is); (case k=>k_is)
   (case b=>exact fun _ _ _ _ _ _ us hl=>match us,hl with | [_,_,_],_=>rfl)
  have dCell:K17.Dn (L2.KOf KX) "_law_cell_at" K17.sCell ["_law_script","_law_k"]:=by
   dsimp only [L2.KOf]
   refine' K17.Dn.mk' ?a ?l ?c ?k ?b
   (case a=>k_is); (case l=>k_is); (case c=>k_is); (case k=>k_is)
   (case b=>exact fun _ _ _ _ _ _ us hl=>match us,hl with | [_,_],_=>rfl)
  have dLeft:K17.Dn (L2.KOf KX) "_law_left" K17.sLeft ["_law_script","_law_k"]:=by
   dsimp only [L2.KOf]
   refine' K17.Dn.mk' ?a ?l ?c ?k ?b
   (case a=>k_is); (case l=>k_is); (case c=>k_is); (case k=>k_is)
   (case b=>exact fun _ _ _ _ _ _ us hl=>match us,hl with | [_,_],_=>rfl)
  have dNext:K17.Dn (L2.KOf KX) "_law_next" K17.sNext ["_law_left_here","_law_many"]:=by
   dsimp only [L2.KOf]
   refine' K17.Dn.mk' ?a ?l ?c ?k ?b
   (case a=>k_is); (case l=>k_is); (case c=>k_is); (case k=>k_is)
   (case b=>exact fun _ _ _ _ _ _ us hl=>match us,hl with | [_,_],_=>rfl)
  have dDiv:K17.Dn (L2.KOf KX) "_law_divisor" K17.sDiv ["_law_one","_law_other"]:=by
   dsimp only [L2.KOf]
   refine' K17.Dn.mk' ?a ?l ?c ?k ?b
   (case a=>k_is); (case l=>k_is); (case c=>k_is); (case k=>k_is)
   (case b=>exact fun _ _ _ _ _ _ us hl=>match us,hl with | [_,_],_=>rfl)
  have dLlow:K17.Dn (L2.KOf KX) "_law_low" K17.sLlow ["_law_top","_law_bottom"]:=by
   dsimp only [L2.KOf]
   refine' K17.Dn.mk' ?a ?l ?c ?k ?b
   (case a=>k_is); (case l=>k_is); (case c=>k_is); (case k=>k_is)
   (case b=>exact fun _ _ _ _ _ _ us hl=>match us,hl with | [_,_],_=>rfl)
  have dNames:K17.Dn (L2.KOf KX) "_law_names" K17.sNames ["_law_left_here","_law_many"]:=by
   dsimp only [L2.KOf]
   refine' K17.Dn.mk' ?a ?l ?c ?k ?b
   (case a=>k_is); (case l=>k_is); (case c=>k_is); (case k=>k_is)
   (case b=>exact fun _ _ _ _ _ _ us hl=>match us,hl with | [_,_],_=>rfl)
  have dLam:K17.Dn (L2.KOf KX) "_law_amount" K17.sLam ["_law_left_here"]:=by
   dsimp only [L2.KOf]
   refine' K17.Dn.mk' ?a ?l ?c ?k ?b
   (case a=>k_is); (case l=>k_is); (case c=>k_is); (case k=>k_is)
   (case b=>exact fun _ _ _ _ _ _ us hl=>match us,hl with | [_],_=>rfl)
  have dLparts:K17.Dn (L2.KOf KX) "_law_parts" K17.sLparts ["_law_left_here","_law_allowed"]:=by
   dsimp only [L2.KOf]
   refine' K17.Dn.mk' ?a ?l ?c ?k ?b
   (case a=>k_is); (case l=>k_is); (case c=>k_is); (case k=>k_is)
   (case b=>exact fun _ _ _ _ _ _ us hl=>match us,hl with | [_,_],_=>rfl)
  have dFilled:K17.Dn (L2.KOf KX) "_law_filled" K17.sFilled ["_law_left_here","_law_thing","_law_lies"]:=by
   dsimp only [L2.KOf]
   refine' K17.Dn.mk' ?a ?l ?c ?k ?b
   (case a=>k_is); (case l=>k_is); (case c=>k_is); (case k=>k_is)
   (case b=>exact fun _ _ _ _ _ _ us hl=>match us,hl with | [_,_,_],_=>rfl)
  have dLrow:K17.Dn (L2.KOf KX) "_law_row" K17.sLrow ["_law_left_here","_law_allowed","_law_lies"]:=by
   dsimp only [L2.KOf]
   refine' K17.Dn.mk' ?a ?l ?c ?k ?b
   (case a=>k_is); (case l=>k_is); (case c=>k_is); (case k=>k_is)
   (case b=>exact fun _ _ _ _ _ _ us hl=>match us,hl with | [_,_,_],_=>rfl)
  have dBehind:K17.Dn (L2.KOf KX) "_law_behind" K17.sBehind ["_law_lies","_law_row_here"]:=by
   dsimp only [L2.KOf]
   refine' K17.Dn.mk' ?a ?l ?c ?k ?b
   (case a=>k_is); (case l=>k_is); (case c=>k_is); (case k=>k_is)
   (case b=>exact fun _ _ _ _ _ _ us hl=>match us,hl with | [_,_],_=>rfl)
  have dLower:K17.Dn (L2.KOf KX) "_law_lower" K17.sLower ["_law_recipes_here","_law_j","_law_turn"]:=by
   dsimp only [L2.KOf]
   refine' K17.Dn.mk' ?a ?l ?c ?k ?b
   (case a=>k_is); (case l=>k_is); (case c=>k_is); (case k=>k_is)
   (case b=>exact fun _ _ _ _ _ _ us hl=>match us,hl with | [_,_,_],_=>rfl)
  have dLrecs:K17.Dn (L2.KOf KX) "_law_recipes" K17.sLrecs ["_law_script","_law_wares","_law_recipes_here","_law_turn","_law_places"]:=by
   dsimp only [L2.KOf]
   refine' K17.Dn.mk' ?a ?l ?c ?k ?b
   (case a=>k_is); (case l=>k_is); (case c=>k_is); (case k=>k_is)
   (case b=>exact fun _ _ _ _ _ _ us hl=>match us,hl with | [_,_,_,_,_],_=>rfl)
  have dLapart:K17.Dn (L2.KOf KX) "_law_apart" K17.sLapart ["_law_script","_law_wares","_law_many"]:=by
   dsimp only [L2.KOf]
   refine' K17.Dn.mk' ?a ?l ?c ?k ?b
   (case a=>k_is); (case l=>k_is); (case c=>k_is); (case k=>k_is)
   (case b=>exact fun _ _ _ _ _ _ us hl=>match us,hl with | [_,_,_],_=>rfl)
  have dBegun:K17.Dn (L2.KOf KX) "_law_begun" K17.sBegun ["_law_script"]:=by
   dsimp only [L2.KOf]
   refine' K17.Dn.mk' ?a ?l ?c ?k ?b
   (case a=>k_is); (case l=>k_is); (case c=>k_is); (case k=>k_is)
   (case b=>exact fun _ _ _ _ _ _ us hl=>match us,hl with | [_],_=>rfl)
  have dLbook:K17.Dn (L2.KOf KX) "_law_book" K17.sLbook ["_law_script"]:=by
   dsimp only [L2.KOf]
   refine' K17.Dn.mk' ?a ?l ?c ?k ?b
   (case a=>k_is); (case l=>k_is); (case c=>k_is); (case k=>k_is)
   (case b=>exact fun _ _ _ _ _ _ us hl=>match us,hl with | [_],_=>rfl)
  have dThings:K17.Dn (L2.KOf KX) "_law_things" K17.sThings ["_law_row_here"]:=by
   dsimp only [L2.KOf]
   refine' K17.Dn.mk' ?a ?l ?c ?k ?b
   (case a=>k_is); (case l=>k_is); (case c=>k_is); (case k=>k_is)
   (case b=>exact fun _ _ _ _ _ _ us hl=>match us,hl with | [_],_=>rfl)
  have dOrd:K17.Dn (L2.KOf KX) "_law_order" K17.sOrd ["_law_book_here"]:=by
   dsimp only [L2.KOf]
   refine' K17.Dn.mk' ?a ?l ?c ?k ?b
   (case a=>k_is); (case l=>k_is); (case c=>k_is); (case k=>k_is)
   (case b=>exact fun _ _ _ _ _ _ us hl=>match us,hl with | [_],_=>rfl)
  have dReach:K17.Dn (L2.KOf KX) "_law_reach" K17.sReach ["_law_book_here"]:=by
   dsimp only [L2.KOf]
   refine' K17.Dn.mk' ?a ?l ?c ?k ?b
   (case a=>k_is); (case l=>k_is); (case c=>k_is); (case k=>k_is)
   (case b=>exact fun _ _ _ _ _ _ us hl=>match us,hl with | [_],_=>rfl)
  have dMeetL:K17.Dn (L2.KOf KX) "_law_meet" K17.sMeetL ["_law_book_here","_law_reach_here"]:=by
   dsimp only [L2.KOf]
   refine' K17.Dn.mk' ?a ?l ?c ?k ?b
   (case a=>k_is); (case l=>k_is); (case c=>k_is); (case k=>k_is)
   (case b=>exact fun _ _ _ _ _ _ us hl=>match us,hl with | [_,_],_=>rfl)
  have dWayR:K17.Dn (L2.KOf KX) "_law_way_right" K17.sWayR ["_law_book_here","_law_way","_law_recipe","_law_ware"]:=by
   dsimp only [L2.KOf]
   refine' K17.Dn.mk' ?a ?l ?c ?k ?b
   (case a=>k_is); (case l=>k_is); (case c=>k_is); (case k=>k_is)
   (case b=>exact fun _ _ _ _ _ _ us hl=>match us,hl with | [_,_,_,_],_=>rfl)
  have dLookL:K17.Dn (L2.KOf KX) "_law_looked" K17.sLookL ["_law_book_here"]:=by
   dsimp only [L2.KOf]
   refine' K17.Dn.mk' ?a ?l ?c ?k ?b
   (case a=>k_is); (case l=>k_is); (case c=>k_is); (case k=>k_is)
   (case b=>exact fun _ _ _ _ _ _ us hl=>match us,hl with | [_],_=>rfl)
  have dKind:K17.Dn (L2.KOf KX) "_law_kind" K17.sKind ["_law_e"]:=by
   dsimp only [L2.KOf]
   refine' K17.Dn.mk' ?a ?l ?c ?k ?b
   (case a=>k_is); (case l=>k_is); (case c=>k_is); (case k=>k_is)
   (case b=>exact fun _ _ _ _ _ _ us hl=>match us,hl with | [_],_=>rfl)
  have dMeetR:K17.Dn (L2.KOf KX) "_law_meets_right" K17.sMeetR ["_law_book_here","_law_refused","_law_due"]:=by
   dsimp only [L2.KOf]
   refine' K17.Dn.mk' ?a ?l ?c ?k ?b
   (case a=>k_is); (case l=>k_is); (case c=>k_is); (case k=>k_is)
   (case b=>exact fun _ _ _ _ _ _ us hl=>match us,hl with | [_,_,_],_=>rfl)
  have z0:PySem.W.nsIn (L2.KOf KX) mainGlobals "isinstance" = some none:=by
   dsimp only [L2.KOf]
   k_is
  have z1:PySem.W.nsIn (L2.KOf KX) mainGlobals "int" = some none:=by
   dsimp only [L2.KOf]
   k_is
  have z2:PySem.W.nsIn (L2.KOf KX) mainGlobals "bool" = some none:=by
   dsimp only [L2.KOf]
   k_is
  have z3:PySem.W.nsIn (L2.KOf KX) mainGlobals "str" = some none:=by
   dsimp only [L2.KOf]
   k_is
  have z4:PySem.W.nsIn (L2.KOf KX) mainGlobals "list" = some none:=by
   dsimp only [L2.KOf]
   k_is
  have z5:PySem.W.nsIn (L2.KOf KX) mainGlobals "tuple" = some none:=by
   dsimp only [L2.KOf]
   k_is
  have z6:PySem.W.nsIn (L2.KOf KX) mainGlobals "len" = some none:=by
   dsimp only [L2.KOf]
   k_is
  have z7:PySem.W.nsIn (L2.KOf KX) mainGlobals "any" = some none:=by
   dsimp only [L2.KOf]
   k_is
  have z8:PySem.W.nsIn (L2.KOf KX) mainGlobals "all" = some none:=by
   dsimp only [L2.KOf]
   k_is
  have z9:PySem.W.nsIn (L2.KOf KX) mainGlobals "range" = some none:=by
   dsimp only [L2.KOf]
   k_is
  have z10:PySem.W.nsIn (L2.KOf KX) mainGlobals "min" = some none:=by
   dsimp only [L2.KOf]
   k_is
  have z11:PySem.W.nsIn (L2.KOf KX) mainGlobals "abs" = some none:=by
   dsimp only [L2.KOf]
   k_is
  have z12:PySem.W.nsIn (L2.KOf KX) mainGlobals "enumerate" = some none:=by
   dsimp only [L2.KOf]
   k_is
  have z13:PySem.W.nsIn (L2.KOf KX) mainGlobals "zip" = some none:=by
   dsimp only [L2.KOf]
   k_is
  have z14:PySem.W.nsIn (L2.KOf KX) mainGlobals "ValueError" = some none:=by
   dsimp only [L2.KOf]
   k_is
  have z15:PySem.W.nsIn (L2.KOf KX) mainGlobals "max" = some none:=by
   dsimp only [L2.KOf]
   k_is
  have z16:PySem.W.nsIn (L2.KOf KX) mainGlobals "dict" = some none:=by
   dsimp only [L2.KOf]
   k_is
  have z17:PySem.W.nsIn (L2.KOf KX) mainGlobals "sum" = some none:=by
   dsimp only [L2.KOf]
   k_is
  have z18:PySem.W.nsIn (L2.KOf KX) mainGlobals "sorted" = some none:=by
   dsimp only [L2.KOf]
   k_is
  have nou : ∃ aN:Addr,K17.NouK (L2.KOf KX) aN:=by
   dsimp only [L2.KOf]
   refine' K17.NouK.mk' ?a ?l
   (case a=>k_is); (case l=>k_is)
  have err : ∃ cP c0 c1 c2 c3 c4 c5 c6 c7 c8 f5:Addr,K17.ErMK (L2.KOf KX) cP c0 c1 c2 c3 c4 c5 c6 c7 c8 f5:=by
   dsimp only [L2.KOf]
   refine' K17.err_mk ?mP ?m0 ?m1 ?m2 ?m3 ?m4 ?m5 ?m6 ?m7 ?m8 ?lk ?ni ⟨⟨?xi,?xf,?xk,⟨?xa,?xb,?xc,?xd,?xe,?xg⟩⟩,?sa,?nn⟩ ?nq1 ?nq2 ?nq3 ⟨?y1,?y2,?y3⟩ ⟨?b1,?b2,?b3⟩ ?s5 ?p5 ?v5 ?i50 ?i51 ?i52 ?i53 ?i54 ?i55 ?i56 ?i57 ?i58 (K17.fn_mk5 ?l ?c ?k)
   (case mP=>k_is); (case m0=>k_is); (case m1=>k_is); (case m2=>k_is); (case m3=>k_is); (case m4=>k_is); (case m5=>k_is); (case m6=>k_is); (case m7=>k_is); (case m8=>k_is)
   (case lk=>k_is); (case ni=>k_is); (case xi=>first | kernel_rfl | rfl); (case xf=>k_is); (case xk=>k_is)
   (case xa=>k_is); (case xb=>k_is); (case xc=>k_is); (case xd=>k_is); (case xe=>k_is); (case xg=>(show PySem.W.isClsIn _ _=true; k_is)); (case sa=>k_is); (case nn=>k_is)
   (case nq1=>k_is); (case nq2=>k_is); (case nq3=>k_is)
   (case y1=>k_is); (case y2=>(show PySem.W.isClsIn _ _=true; k_is)); (case y3=>k_is); (case b1=>k_is); (case b2=>k_is); (case b3=>k_is)
   (case s5=>k_is); (case p5=>kit_is); (case v5=>kit_is)
   (case i50=>kit_is); (case i51=>kit_is); (case i52=>kit_is); (case i53=>kit_is); (case i54=>kit_is); (case i55=>kit_is); (case i56=>kit_is); (case i57=>kit_is); (case i58=>kit_is)
   (case l=>k_is); (case c=>k_is); (case k=>k_is)
  refine' K17.all_mk KX G hmg ⟨dOwn,dGcd,dLow,dPlus,dMinus,dTimes,dOver,dLess,dWholeL,dRowsOf,dThin,dThof,dShares,dPutBy,dLooked,dRnm,dRTw,dRNn,dRNp,dOof,dReady,dROv,dFOv,dRMe,dWof,dWay,dCell,dLeft,dNext,dDiv,dLlow,dNames,dLam,dLparts,dFilled,dLrow,dBehind,dLower,dLrecs,dLapart,dBegun,dLbook,dThings,dOrd,dReach,dMeetL,dWayR,dLookL,dKind,dMeetR,z0,z1,z2,z3,z4,z5,z6,z7,z8,z9,z10,z11,z12,z13,z14,z15,z16,z17,z18,nou,err⟩ ?a4 ?l4 ?c4 ?k4
  (case a4=>k_is); (case l4=>k_is); (case c4=>k_is); (case k4=>k_is)
