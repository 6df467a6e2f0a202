import PyProof.Rows.All
import Wide.All
import OpenK.AllK
import Wide.FinOn
import Lean
import PyProof.EqAt
import PyProof.EqKinds
import PyProof.TupleCall
import PySem.Challenge.RW_phialhouse_k76_called_back
set_option Elab.async false
set_option linter.all false
set_option maxRecDepth 100000
set_option maxHeartbeats 4000000
namespace L2
open PySem PySem.Spec PyProof.Rows
abbrev Key:=Sum Int Str
def keyIs:Key->Value->Bool
 | .inl k,v=>Value.isInt k v
 | .inr x,v=>Value.isStrOf x v
def keyH (w:World):Key->Int
 | .inl k=>hashInt k
 | .inr x=>hashStr w x
theorem keyIs_shape : ∀ {k:Key} {v:Value},keyIs k v=true->(∃ i t,k=Sum.inl i/\v=Value.int i t)\/(∃ x t,k=Sum.inr x/\v=Value.str x t)
 | .inl i,v,h=>by
  obtain ⟨t,e⟩:=Value.isInt_shape (k:=i) (v:=v) h
  exact .inl ⟨i,t,rfl,e⟩
 | .inr x,v,h=>by
  obtain ⟨t,e⟩:=Value.isStrOf_shape (x:=x) (v:=v) h
  exact .inr ⟨x,t,rfl,e⟩
theorem keyIs_int (i:Int)(t:Tok):keyIs (.inl i) (.int i t)=true:=by simp [keyIs,Value.isInt]
theorem keyIs_str (x:Str)(t:Tok):keyIs (.inr x) (.str x t)=true:=by simp [keyIs,Value.isStrOf]
theorem key_ll (a b:Int):decide ((Sum.inl a:Key)=Sum.inl b)=(a == b):=by
 by_cases e:a=b
 ·subst e; simp
 ·have h : ¬ (Sum.inl a:Key)=Sum.inl b:=fun q=>e (Sum.inl.inj q)
  rw [decide_eq_false h]
  exact (beq_eq_false_iff_ne.mpr e).symm
theorem key_rr (a b:Str):decide ((Sum.inr a:Key)=Sum.inr b)=decide (a=b):=by
 by_cases e:a=b
 ·subst e; simp
 ·have h : ¬ (Sum.inr a:Key)=Sum.inr b:=fun q=>e (Sum.inr.inj q)
  rw [decide_eq_false h,decide_eq_false e]
theorem key_lr (a:Int)(b:Str):decide ((Sum.inl a:Key)=Sum.inr b)=false:=decide_eq_false (fun q=>nomatch q)
theorem key_rl (a:Str)(b:Int):decide ((Sum.inr a:Key)=Sum.inl b)=false:=decide_eq_false (fun q=>nomatch q)
def mixKind (prog:Program)(w:World):PySem.KeyKind prog w Key where
 is:=keyIs
 hash:=keyH w
 inj:=fun v a b ha hb=>by
  rcases keyIs_shape ha with ⟨i,t,rfl,rfl⟩ | ⟨x,t,rfl,rfl⟩
  ·rcases keyIs_shape hb with ⟨j,u,rfl,e⟩ | ⟨y,u,rfl,e⟩
   ·injection e with e1 _; rw [e1]
   ·exact nomatch e
  ·rcases keyIs_shape hb with ⟨j,u,rfl,e⟩ | ⟨y,u,rfl,e⟩
   ·exact nomatch e
   ·injection e with e1 _; rw [e1]
 byValue:=fun k v h=>by
  rcases keyIs_shape h with ⟨i,t,rfl,rfl⟩ | ⟨x,t,rfl,rfl⟩ <;> rfl
 pyHash:=fun hv h=>by
  rcases keyIs_shape hv with ⟨i,t,rfl,rfl⟩ | ⟨x,t,rfl,rfl⟩
  ·exact wpAny_pyHash_int h
  ·exact wpAny_pyHash_str h
 eqBool:=fun hu hv h=>by
  rcases keyIs_shape hu with ⟨i,t,rfl,rfl⟩ | ⟨x,t,rfl,rfl⟩
  ·rcases keyIs_shape hv with ⟨j,u,rfl,rfl⟩ | ⟨y,u,rfl,rfl⟩
   ·rw [key_ll] at h; exact wpAny_eqBool_int h
   ·rw [key_lr] at h; exact SeqAt.EqAt.int_str i t y u _ _ _ _ h
  ·rcases keyIs_shape hv with ⟨j,u,rfl,rfl⟩ | ⟨y,u,rfl,rfl⟩
   ·rw [key_rl] at h; exact SeqAt.EqAt.str_int x t j u _ _ _ _ h
   ·rw [key_rr] at h; exact wpAny_eqBool_str h
 «strs» := fun k x t v h=>by
  rcases keyIs_shape h with ⟨i,u,rfl,e⟩ | ⟨y,u,rfl,e⟩
  ·exact nomatch e
  ·injection e with e1 _
   subst e1
   cases v <;> rfl
theorem mixKind_int (prog:Program)(w:World)(i:Int)(t:Tok):(mixKind prog w).is (.inl i) (.int i t)=true:=keyIs_int i t
theorem mixKind_str (prog:Program)(w:World)(x:Str)(t:Tok):(mixKind prog w).is (.inr x) (.str x t)=true:=keyIs_str x t
end L2
namespace L2
open PySem PySem.Spec PyProof.Rows
inductive V where
 | non | bl (b:Bool) | int (i:Int) | str (x:Str) | byt (b:Array UInt8) | flt (b:UInt64) | ref (a:Addr) | ty (n:String)
 deriving DecidableEq
def RelV:V->Value->Prop
 | .non,u=>u=Value.none
 | .bl b,u=>u=Value.bool b
 | .int i,u=>∃ t,u=Value.int i t
 | .str x,u=>∃ t,u=Value.str x t
 | .byt b,u=>∃ t,u=Value.bytes b t
 | .flt b,u=>∃ t,u=Value.float b t
 | .ref a,u=>u=Value.ref a
 | .ty n,u=>u=Value.type n
abbrev Vals:List V->List Value->Prop:=Paired RelV
theorem Vals.length {xs:List V}{us:List Value}(r:Vals xs us):xs.length=us.length:=Paired.length r
theorem Vals.get : ∀ {xs:List V} {us:List Value} {i:Nat} {x:V},Vals xs us->xs[i]?=some x->∃ u,us[i]?=some u/\RelV x u
 | _,_,_,_,.nil,e=>by simp at e
 | _,_,0,_,.cons r _,e=>by simp at e; subst e; exact ⟨_,rfl,r⟩
 | _,_,i+1,x,.cons _ t,e=>by
  obtain ⟨u,h1,h2⟩:=Vals.get (i:=i) (x:=x) t (by simpa using e)
  exact ⟨u,by simpa using h1,h2⟩
theorem Vals.append : ∀ {xs ys:List V} {us ws:List Value},Vals xs us->Vals ys ws->Vals (xs ++ ys) (us ++ ws)
 | _,_,_,_,.nil,s=>s
 | _,_,_,_,.cons r t,s=>.cons r (Vals.append t s)
theorem Vals.take : ∀ {xs:List V} {us:List Value} (n:Nat),Vals xs us->Vals (xs.take n) (us.take n)
 | _,_,0,_=>.nil
 | _,_,_+1,.nil=>.nil
 | _,_,n+1,.cons r t=>.cons r (Vals.take n t)
theorem Vals.drop : ∀ {xs:List V} {us:List Value} (n:Nat),Vals xs us->Vals (xs.drop n) (us.drop n)
 | _,_,0,r=>r
 | _,_,_+1,.nil=>.nil
 | _,_,n+1,.cons _ t=>Vals.drop n t
def RelO:Option V->Option Value->Prop
 | some v,some u=>RelV v u
 | none,none=>True
 | _,_=>False
def KV {κ:Type}:List (κ × V)->List (κ × Value)->Prop:=Paired fun (p:κ × V) (q:κ × Value)=>p.1=q.1/\RelV p.2 q.2
def kV:Key->V
 | .inl i=>.int i
 | .inr x=>.str x
inductive HO where
 | lst (xs:List V)
 | tup (xs:List V)
 | dK (kvs:List (Key × V)) | dT (kvs:List (List Key × V))
 | set (S:Int->Bool) (n:Nat)
 | ins (C dx:Addr) (fs:List (Str × V))
 | own (x:Addr)
 | xd (fs:List (Str × V))
 | met (f x:Addr)
 | rng (lo hi:Int)
 | frz (o:Obj) (u:HO)
 | tbl (ps:Array Value)
 | ext (φ:Heap->Prop)
abbrev Hp:=Addr->Option HO
def upd (H:Hp)(a:Addr)(o:HO):Hp:=fun b=>if b=a then some o else H b
theorem upd_same {H:Hp}{a:Addr}{o:HO}:upd H a o a=some o:=by unfold upd; rw [if_pos rfl]
theorem upd_ne {H:Hp}{a b:Addr}{o:HO}(h:b ≠ a):upd H a o b=H b:=by unfold upd; rw [if_neg h]
theorem ne_of {H:Hp}{a b:Addr}{o u:HO}(h:H a=some o)(h':H b=some u)(d:o ≠ u):a ≠ b:=by
 intro e; subst e; rw [h] at h'; exact d (Option.some.inj h')
theorem ne_of_none {H:Hp}{a b:Addr}{o:HO}(h:H a=some o)(h':H b=none):a ≠ b:=by
 intro e; subst e; rw [h] at h'; cases h'
def NoD (h:Heap)(a:Addr):Prop:=∃ o,h.get? a=some o/\o.dict=none
section
variable (P:Program)(w:World)
def ObjOk (H:Hp)(h:Heap)(a:Addr):HO->Prop
 | .lst xs=>xs.length<=sizeLine/\∃ (its:List Value) (n:Nat),Vals xs its/\h.get? a=some { cls:=.type "list",data:=.seq its.toArray n }
 | .tup xs=>(xs.length<=sizeLine/\NoD h a)/\∃ its:List Value,Vals xs its/\IsTup h a its.toArray
 | .dK kvs=>kvs.length<=sizeLine/\(a == sysModules)=false/\∃ vs,KV kvs vs/\h.DictOf (mixKind P w) a vs
 | .dT kvs=>kvs.length<=sizeLine/\(a == sysModules)=false/\∃ xs:List (List Key × Addr × Value),
   Paired (fun (p:List Key × V) (q:List Key × Addr × Value)=>p.1=q.1/\H q.2.1=some (.tup (p.1.map kV))/\RelV p.2 q.2.2) kvs xs /\
   ∃ o es ep,h.get? a=some o/\o.ExactDict/\o.data = .dict es ep/\es.toList=xs.map (entryOfKey (tupleKind (mixKind P w)))/\(xs.map (·.1)).Nodup
 | .set S n=>h.SetOf (intKind P w) a S n
 | .ins C dx fs=>H dx=some (.own a)/\fs.length<=1000/\dx ≠ a/\h.get? a=some (PySem.W.instObj C dx) /\
   ∃ mA,h.Ns1 dx mA/\(∀ f,RelO (fs.lookup f) (mA f))/\PySem.Within mA (fs.map (·.1))
 | .own _=>∃ o,h.get? a=some o
 | .xd fs=>∃ mA,h.Ns1 a mA/\∀ f,RelO (fs.lookup f) (mA f)
 | .rng lo hi=>∃ t u v,h.get? a=some { cls:=.type "range",data:=.fields #[.int lo t,.int hi u,.int 1 v] }
 | .frz o u=>h.get? a=some o/\ObjOk H h a u
 | .tbl ps=>h.get? a=some { cls:=.none,data:=.fields ps }
 | .met f x=>h.get? a=some (PySem.W.methodObj (.ref f) (.ref x))
 | .ext φ=>φ h/\(∃ o,h.get? a=some o)/\∀ h1 h2:Heap,φ h1->(∀ o,h1.get? a=some o->h2.get? a=some o)->φ h2
def HOk (H:Hp)(h:Heap):Prop:=∀ a o,H a=some o->ObjOk P w H h a o
end
section
variable {P:Program}{w:World}{H H':Hp}{h h':Heap}{a:Addr}{o:HO}
theorem ObjOk.lt (x:ObjOk P w H h a o):a < h.objs.size:=by
 cases o with
 | lst xs=>obtain ⟨_,_,_,_,e⟩:=x; exact Heap.lt_size e
 | tup xs=>obtain ⟨_,_,_,p⟩:=x; exact p.lt
 | dK kvs=>obtain ⟨_,_,_,_,o,_,_,e,_⟩:=x; exact Heap.lt_size e
 | dT kvs=>obtain ⟨_,_,_,_,o,_,_,e,_⟩:=x; exact Heap.lt_size e
 | set S n=>obtain ⟨o,_,_,_,e,_⟩:=x; exact Heap.lt_size e
 | ins C dx fs=>obtain ⟨_,_,_,e,_⟩:=x; exact Heap.lt_size e
 | own y=>obtain ⟨_,e⟩:=x; exact Heap.lt_size e
 | xd fs=>obtain ⟨_,⟨_,_,_,e,_⟩,_⟩:=x; exact Heap.lt_size e
 | rng lo hi=>obtain ⟨_,_,_,e⟩:=x; exact Heap.lt_size e
 | frz ob u=>obtain ⟨e,_⟩:=x; exact Heap.lt_size e
 | tbl ps=>exact Heap.lt_size (show h.get? a=some _ from x)
 | met f y=>exact Heap.lt_size (show h.get? a=some _ from x)
 | ext φ=>obtain ⟨_,⟨_,e⟩,_⟩:=x; exact Heap.lt_size e
theorem Paired.mapP {α β:Type}{F G:α->β->Prop} : ∀ {l₁:List α} {l₂:List β},Paired F l₁ l₂->(∀ a b,F a b->G a b)->Paired G l₁ l₂
 | _,_,.nil,_=>.nil
 | _,_,.cons r t,f=>.cons (f _ _ r) (Paired.mapP t f)
theorem ObjOk.stay (x:ObjOk P w H h a o)(k : ∀ b u,(b=a\/H b=some (.own a))->h.get? b=some u->h'.get? b=some u)
  (ho : ∀ b,H b=some (.own a)->H' b=some (.own a)) (ht : ∀ b xs,H b=some (.tup xs)->H' b=some (.tup xs)):ObjOk P w H' h' a o:=by
 induction o with
 | lst xs=>obtain ⟨z,its,n,r,e⟩:=x; exact ⟨z,its,n,r,k _ _ (.inl rfl) e⟩
 | tup xs=>obtain ⟨⟨z,o1,e1,d1⟩,its,r,ob,e,c⟩:=x; exact ⟨⟨z,o1,k _ _ (.inl rfl) e1,d1⟩,its,r,ob,k _ _ (.inl rfl) e,c⟩
 | dK kvs=>obtain ⟨z,y,vs,r,ob,es,ep,e,c⟩:=x; exact ⟨z,y,vs,r,ob,es,ep,k _ _ (.inl rfl) e,c⟩
 | dT kvs =>
  obtain ⟨z,y,xs,r,ob,es,ep,e,c⟩:=x
  exact ⟨z,y,xs,Paired.mapP r fun p q z=>⟨z.1,ht _ _ z.2.1,z.2.2⟩,ob,es,ep,k _ _ (.inl rfl) e,c⟩
 | set S n=>obtain ⟨ob,es,ep,t,e,c⟩:=x; exact ⟨ob,es,ep,t,k _ _ (.inl rfl) e,c⟩
 | ins C dx fs =>
  obtain ⟨d,z,ne,e,mA,⟨od,es,ep,e2,c⟩,r⟩:=x
  exact ⟨ho _ d,z,ne,k _ _ (.inl rfl) e,mA,⟨od,es,ep,k _ _ (.inr d) e2,c⟩,r⟩
 | own y=>obtain ⟨ob,e⟩:=x; exact ⟨ob,k _ _ (.inl rfl) e⟩
 | xd fs=>obtain ⟨mA,⟨od,es,ep,e,c⟩,r⟩:=x; exact ⟨mA,⟨od,es,ep,k _ _ (.inl rfl) e,c⟩,r⟩
 | rng lo hi=>obtain ⟨t,u,v,e⟩:=x; exact ⟨t,u,v,k _ _ (.inl rfl) e⟩
 | frz ob u ih=>obtain ⟨e,q⟩:=x; exact ⟨k _ _ (.inl rfl) e,ih q⟩
 | tbl ps =>
  have e:h.get? a=some { cls:=.none,data:=.fields ps }:=x
  show h'.get? a=some { cls:=.none,data:=.fields ps }
  exact k a _ (.inl rfl) e
 | met f y =>
  have e:h.get? a=some (PySem.W.methodObj (.ref f) (.ref y)):=x
  show h'.get? a=some (PySem.W.methodObj (.ref f) (.ref y))
  exact k a _ (.inl rfl) e
 | ext φ=>obtain ⟨p,⟨o,e⟩,st⟩:=x; exact ⟨st _ _ p fun o q=>k _ _ (.inl rfl) q,⟨o,k _ _ (.inl rfl) e⟩,st⟩
theorem HOk.lt (x:HOk P w H h)(e:H a=some o):a < h.objs.size:=(x a o e).lt
theorem HOk.fresh (x:HOk P w H h)(e:h.objs.size<=a):H a=none:=by
 cases q:H a with
 | none=>rfl
 | some u=>exact absurd (Nat.lt_of_lt_of_le (x.lt q) e) (Nat.lt_irrefl _)
theorem HOk.kept (x:HOk P w H h)(k : ∀ b u,h.get? b=some u->h'.get? b=some u):HOk P w H h':=fun a o e =>
 (x a o e).stay (fun b u _ q=>k b u q) (fun _ q=>q) fun _ _ q=>q
theorem HOk.laid (x:HOk P w H h)(k : ∀ b u,h.get? b=some u->h'.get? b=some u)(hp:h.objs.size<=a)(new:ObjOk P w (upd H a o) h' a o):HOk P w (upd H a o) h':=fun b u e=>by
 have hn:=x.fresh hp
 by_cases hb:b=a
 ·subst hb; rw [upd_same] at e; cases e; exact new
 ·rw [upd_ne hb] at e
  exact (x b u e).stay (fun c v _ q=>k c v q) (fun c q=>by rw [upd_ne (ne_of_none q hn)]; exact q) fun c xs q=>by rw [upd_ne (ne_of_none q hn)]; exact q
end
def Rd (H:Hp)(a:Addr)(u:HO):Prop:=H a=some u\/∃ o,H a=some (.frz o u)
theorem Rd.ok {P:Program}{w:World}{H:Hp}{h:Heap}{a:Addr}{u:HO}(r:Rd H a u)(x:HOk P w H h):ObjOk P w H h a u:=by
 rcases r with r | ⟨o,r⟩
 ·exact x a u r
 ·obtain ⟨_,q⟩:=x a _ r
  exact q
def Mut:Option HO->Prop
 | some (.lst _)=>True
 | some (.dK _)=>True
 | some (.dT _)=>True
 | some (.set _ _)=>True
 | some (.ins _ _ _)=>True
 | some (.ext _)=>True
 | _=>False
section
variable {P:Program}{w:World}{H:Hp}{h h':Heap}{x e:Addr}{o':HO}
theorem HOk.write (ok:HOk P w H h)(mu:Mut (H x))(he:e=x\/H e=some (.own x))(k : ∀ b u,b ≠ e->h.get? b=some u->h'.get? b=some u)(heo : ∃ u,h'.get? e=some u)
  (new:ObjOk P w (upd H x o') h' x o'):HOk P w (upd H x o') h':=fun b u q=>by
 have nown : ∀ c y,H c=some (.own y)->c ≠ x:=fun c y r z=>by subst z; rw [r] at mu; exact mu
 have ntup : ∀ c xs,H c=some (.tup xs)->c ≠ x:=fun c xs r z=>by subst z; rw [r] at mu; exact mu
 by_cases hb:b=x
 ·subst hb; rw [upd_same] at q; cases q; exact new
 ·rw [upd_ne hb] at q
  by_cases hbe:b=e
  ·have q':H b=some (.own x):=by
    rcases he with z | z
    ·exact absurd (hbe.trans z) hb
    ·rw [hbe]; exact z
   rw [q] at q'; cases q'
   obtain ⟨v,hv⟩:=heo
   exact ⟨v,by rw [hbe]; exact hv⟩
  ·refine (ok b u q).stay (fun c v hc r=>k c v ?_ r) (fun c r=>by rw [upd_ne (nown c b r)]; exact r) fun c xs r=>by rw [upd_ne (ntup c xs r)]; exact r
   rcases hc with rfl | hc
   ·exact hbe
   ·rintro rfl
    rcases he with z | z
    ·exact nown c b hc z
    ·rw [hc] at z; cases z; exact hb rfl
end
structure Un (fs ex:List Addr)(H H':Hp)(h h':Heap):Prop where
 keep : ∀ b o,h.get? b=some o->H b=none->b ∉ fs->b ∉ ex->h'.get? b=some o
 slot : ∀ b o,h.get? b=some o->H b=none->b ∈ fs->b ∉ ex->∃ sl,h'.get? b=some { o with slots:=sl }
 free : ∀ b o,h.get? b=some o->H b=none->b ∉ ex->H' b=none
 there : ∀ b o,h.get? b=some o->b ∉ ex->∃ o',h'.get? b=some o'
 tups : ∀ b xs,H b=some (.tup xs)->H' b=some (.tup xs)
 frzs : ∀ b o u,H b=some (.frz o u)->H' b=some (.frz o u)
 tbls : ∀ b ps,H b=some (.tbl ps)->∃ more,H' b=some (.tbl (ps ++ more))
section
variable {fs fs' ex ex':List Addr}{H H1 H2:Hp}{h h1 h2 h':Heap}{a x e:Addr}{o:HO}
theorem Un.any (u:Un fs ex H H1 h h1){b:Addr}{ob:Obj}(q:h.get? b=some ob)(n:H b=none)(hx:b ∉ ex) : ∃ sl,h1.get? b=some { ob with slots:=sl }:=by
 by_cases hb:b ∈ fs
 ·exact u.slot b ob q n hb hx
 ·exact ⟨ob.slots,u.keep b ob q n hb hx⟩
theorem Un.kept (k : ∀ b u,h.get? b=some u->h'.get? b=some u):Un fs ex H H h h' :=
 ⟨fun b ob q _ _ _=>k b ob q,fun b ob q _ _ _=>⟨ob.slots,k b ob q⟩,fun _ _ _ n _=>n,fun b ob q _=>⟨ob,k b ob q⟩,fun _ _ q=>q,fun _ _ _ q=>q,fun _ ps q=>⟨#[],by rw [q]; simp⟩⟩
theorem Un.refl:Un fs ex H H h h:=Un.kept fun _ _ q=>q
theorem Un.laid (k : ∀ b u,h.get? b=some u->h'.get? b=some u)(hp:h.objs.size<=a)(hn:H a=none):Un fs ex H (upd H a o) h h' where
 keep:=fun b u q _ _ _=>k b u q
 slot:=fun b u q _ _ _=>⟨u.slots,k b u q⟩
 free:=fun b u q n _=>by rw [upd_ne (Nat.ne_of_lt (Nat.lt_of_lt_of_le (Heap.lt_size q) hp))]; exact n
 there:=fun b u q _=>⟨u,k b u q⟩
 tups:=fun b xs q=>by rw [upd_ne (ne_of_none q hn)]; exact q
 frzs:=fun b u xs q=>by rw [upd_ne (ne_of_none q hn)]; exact q
 tbls:=fun b ps q=>⟨#[],by rw [upd_ne (ne_of_none q hn),q]; simp⟩
theorem Un.write (mu:Mut (H x))(he:e=x\/H e=some (.own x))(k : ∀ b u,b ≠ e->h.get? b=some u->h'.get? b=some u)(heo : ∃ u,h'.get? e=some u):Un fs ex H (upd H x o) h h':=by
 have hx : ∀ b,H b=none->b ≠ x:=fun b n z=>by subst z; rw [n] at mu; exact mu
 have hb : ∀ b,H b=none->b ≠ e:=fun b n z=>by
  subst z
  rcases he with r | r
  ·exact hx b n r
  ·rw [n] at r; cases r
 have hm : ∀ b u,H b=some u->¬ Mut (some u)->b ≠ x:=fun b u q nm z=>by subst z; rw [q] at mu; exact nm mu
 refine ⟨fun b u q n _ _=>k b u (hb b n) q,fun b u q n _ _=>⟨u.slots,k b u (hb b n) q⟩,fun b u q n _=>by rw [upd_ne (hx b n)]; exact n,fun b u q _ => ?_,
  fun b xs q=>by rw [upd_ne (hm b _ q fun z=>z)]; exact q,fun b u xs q=>by rw [upd_ne (hm b _ q fun z=>z)]; exact q,fun b ps q=>⟨#[],by rw [upd_ne (hm b _ q fun z=>z),q]; simp⟩⟩
 by_cases hbe:b=e
 ·subst hbe; exact heo
 ·exact ⟨u,k b u hbe q⟩
end
def trk (h:Heap)(H:Hp):List Addr:=(List.range h.objs.size).filter fun a=>(H a).isSome
def hidT (h:Heap)(H:Hp):Heap:=PySem.W.hideAll h (trk h H)
theorem hidT_size (h:Heap)(H:Hp):(hidT h H).objs.size=h.objs.size:=PySem.W.hideAll_size _ _
theorem hidT_get {h:Heap}{H:Hp}{b:Addr}{o:Obj}(e:h.get? b=some o)(n:H b=none):(hidT h H).get? b=some o :=
 PySem.W.hideAll_get _ e fun hm=>by
  have q:(H b).isSome=true:=(List.mem_filter.mp hm).2
  rw [n] at q; simp at q
theorem of_hidT {h:Heap}{H:Hp}{b:Addr}{o:Obj}(e:(hidT h H).get? b=some o):h.get? b=some o/\H b=none:=by
 have e':h.get? b=some o:=PySem.W.of_hideAll (trk h H) e
 refine ⟨e',?_⟩
 cases q:H b with
 | none=>rfl
 | some x =>
  have hm:b ∈ trk h H:=List.mem_filter.mpr ⟨List.mem_range.mpr (Heap.lt_size e'),by simp [q]⟩
  have z:(hidT h H).get? b=none:=PySem.W.hideAll_none (trk h H) hm
  rw [z] at e; cases e
def allNews (g h:Heap)(L:Addr):List (Addr × Obj):=(List.range h.objs.size).filterMap fun a=>if a=L\/(g.get? a).isSome=true then none else (h.get? a).map fun o=>(a,o)
def rest (g h:Heap)(L d:Addr):List (Addr × Obj):=(allNews g h L).filter fun p=>decide (p.1 ≠ d)
end L2
namespace L2
open PySem PySem.Spec PyProof.Rows
structure Mod (K:PySem.W.Frag)(mg:Str->Option Value)(base:Heap):Prop where
 kin:K.In base
 glob:base.Ns mainGlobals mg
 blt : ∃ mb,base.Ns builtinsNs mb/\∀ x:Str,x ≠ "__name__" -> mb x=bootBuiltins x
 nolimit:base.NoLimit
structure Cx where
 prog:Program
 w:World
 K:PySem.W.Frag
 mg:Str->Option Value
 base:Heap
 A:Around
 N:List Str
 s₀:Shared
 H₀:Hp
 env:Env
 outer:List Env
 stack:List Env
 ex:List Addr
 fn:Str->Bool
 calm:Bool
 pn:List (Addr × Obj)
 xe:Value->Shared->Prop
def frs (l:List Env):List Addr:=l.filterMap (·.frame)
abbrev Cx.fs (X:Cx):List Addr:=frs X.outer
def Vis (sc:Scope)(x:Str):Prop:=sc.names.lookup x=some .local\/sc.names.lookup x=some .cell\/sc.names.lookup x=some .free
def Loc (sc:Scope)(x:Str):Prop:=sc.names.lookup x=some .local\/sc.names.lookup x=some .cell
def Look (env:Env)(h:Heap)(m:Str->Option Value)(x:Str)(u:Value):Prop :=
 (env.kindOf x=some .local/\m x=some u)\/((env.kindOf x=some .cell\/env.kindOf x=some .free)/\∃ c,env.cells.lookup x=some c/\h.IsCell c (some u))
structure Cx.Ok (X:Cx):Prop where
 mod:Mod X.K X.mg X.base
 kind:X.env.scope.kind = .function
 glob:X.env.globals=mainGlobals
 blt:X.env.builtins=builtinsNs
 above:X.s₀.heap.objs.size<=X.env.locals
 inj : ∀ x y c,X.env.cells.lookup x=some c->X.env.cells.lookup y=some c->x=y
 has : ∀ x,(X.env.kindOf x=some .cell\/X.env.kindOf x=some .free)->∃ c,X.env.cells.lookup x=some c
 cab : ∀ x c,X.fn x=true->X.env.cells.lookup x=some c->X.s₀.heap.objs.size<=c
 hd:X.calm=true->X.A.handled=none
 frames:X.A.frames=some X.stack
 stk:X.stack=X.outer\/(X.stack=X.env :: X.outer/\X.env.frame=some X.env.locals)
 exf : ∀ b ∈ X.ex,b ≠ X.env.locals/\∀ x c,X.env.cells.lookup x=some c->c ≠ b
 bs : ∀ b o,X.base.get? b=some o->X.s₀.heap.get? b=some o/\X.H₀ b=none
 bsz:X.base.objs.size<=X.s₀.heap.objs.size
 noex : ∀ b o,X.base.get? b=some o->b ∉ X.ex
 exfs : ∀ b ∈ X.ex,b ∉ X.fs
 funs:X.s₀.heap.FunFrames X.base X.outer
 frf : ∀ b ∈ X.fs,X.H₀ b=none
structure Inv (X:Cx)(pins:List (Addr × Obj))(σ:List (Option V))(H:Hp)(s:Shared):Prop where
 ok:X.Ok
 os:s.os=X.s₀.os
 bare:AllBare s.gens
 base:Un X.fs X.ex X.H₀ H X.s₀.heap s.heap
 loc : ∃ m,s.heap.Ns X.env.locals m/\∀ (i:Nat) (x:Str) (v:V),X.N[i]?=some x->σ[i]?=some (some v)->Vis X.env.scope x->∃ u,RelV v u/\Look X.env s.heap m x u
 cell : ∀ x c,X.env.cells.lookup x=some c->∃ v,s.heap.IsCell c v
 free:H X.env.locals=none
 freeC : ∀ x c,X.env.cells.lookup x=some c->H c=none
 pin : ∀ p ∈ X.pn ++ pins,s.heap.get? p.1=some p.2/\H p.1=none/\p.1 ≠ X.env.locals/\p.1 ∉ X.fs/\∀ v,p.2.data ≠ .cell v
 hok:HOk X.prog X.w H s.heap
 len:σ.length=X.N.length
section
variable {X:Cx}{pins:List (Addr × Obj)}{σ:List (Option V)}{H H':Hp}{s:Shared}{h':Heap}
theorem Cx.Ok.nofr (ok:X.Ok){b:Addr}{o:Obj}(e:X.base.get? b=some o):b ∉ X.fs:=fun hb=>by
 have:=(ok.funs.mem hb).1
 rw [e] at this; cases this
theorem Inv.bs (I:Inv X pins σ H s) : ∀ b o,X.base.get? b=some o->s.heap.get? b=some o/\H b=none:=fun b o e =>
 ⟨I.base.keep b o (I.ok.bs b o e).1 (I.ok.bs b o e).2 (I.ok.nofr e) (I.ok.noex b o e),I.base.free b o (I.ok.bs b o e).1 (I.ok.bs b o e).2 (I.ok.noex b o e)⟩
theorem Inv.bk (I:Inv X pins σ H s) : ∀ b o,X.base.get? b=some o->s.heap.get? b=some o:=fun b o e=>(I.bs b o e).1
theorem Inv.mod (I:Inv X pins σ H s):Mod X.K X.mg X.base:=I.ok.mod
theorem Inv.kIn (I:Inv X pins σ H s):X.K.In s.heap:=I.ok.mod.kin.keeps I.bk
theorem Inv.fr (I:Inv X pins σ H s) : ∃ m,Fr X.base X.env.locals s.heap m :=
 let ⟨m,hn,_⟩:=I.loc
 ⟨m,hn,I.bk,Nat.le_trans I.ok.bsz I.ok.above⟩
theorem Inv.lt (I:Inv X pins σ H s):X.env.locals < s.heap.objs.size:=let ⟨_,hn,_⟩:=I.loc; hn.lt
theorem Inv.sz (I:Inv X pins σ H s):X.s₀.heap.objs.size<=s.heap.objs.size:=Nat.le_trans I.ok.above (Nat.le_of_lt I.lt)
theorem Inv.nofs (I:Inv X pins σ H s){a:Addr}(h:s.heap.objs.size<=a):a ∉ X.fs:=fun hb=>by
 obtain ⟨_,o,ho,_⟩:=I.ok.funs.mem hb
 exact absurd (Nat.lt_of_lt_of_le (Heap.lt_size ho) (Nat.le_trans I.sz h)) (Nat.lt_irrefl _)
theorem Inv.cne (I:Inv X pins σ H s) : ∀ x c,X.env.cells.lookup x=some c->c ≠ X.env.locals:=fun x c e z=>by
 obtain ⟨v,o,ho,hd⟩:=I.cell x c e
 obtain ⟨m,⟨o',es,ep,ho',hd',_⟩,_⟩:=I.loc
 rw [z,ho'] at ho; cases ho; rw [hd'] at hd; cases hd
theorem Inv.funs (I:Inv X pins σ H s):s.heap.FunFrames X.base X.outer:=by
 have all : ∀ (l:List Env),(∀ b ∈ frs l,b ∈ X.fs)->X.s₀.heap.FunFrames X.base l->s.heap.FunFrames X.base l:=by
  intro l
  induction l with
  | nil=>intro _ _; trivial
  | cons env r ih =>
   intro hs hl
   obtain ⟨hk,⟨L,o,hf,hn,ho,hd⟩,hr⟩:=hl
   have hL:L ∈ X.fs:=hs L (by unfold frs; rw [List.filterMap_cons,hf]; exact List.mem_cons_self)
   obtain ⟨sl,e⟩:=I.base.slot L o ho (I.ok.frf L hL) hL fun z=>I.ok.exfs L z hL
   exact ⟨hk,⟨L,_,hf,hn,e,hd⟩,ih (fun b hb=>hs b (by unfold frs; rw [List.filterMap_cons,hf]; exact List.mem_cons_of_mem _ hb)) hr⟩
 exact all X.outer (fun _ hb=>hb) I.ok.funs
theorem Inv.stack (I:Inv X pins σ H s):s.heap.FunFrames X.base X.stack:=by
 rcases I.ok.stk with e | ⟨e,hf⟩
 ·rw [e]; exact I.funs
 ·rw [e]
  obtain ⟨m,hn,_⟩:=I.loc
  refine .cons (by rw [I.ok.kind]; decide) hf hn ?_ I.funs
  exact Heap.get?_none_of_le (Nat.le_trans I.ok.bsz I.ok.above)
theorem Inv.stkSub (I:Inv X pins σ H s) : ∀ b ∈ frs X.stack,b ∈ X.env.locals :: X.fs:=fun b hb=>by
 rcases I.ok.stk with e | ⟨e,hf⟩
 ·rw [e] at hb; exact List.mem_cons_of_mem _ hb
 ·rw [e] at hb
  unfold frs at hb
  rw [List.filterMap_cons,hf] at hb
  exact hb
theorem Inv.stkFree (I:Inv X pins σ H s) : ∀ b ∈ frs X.stack,H b=none:=fun b hb=>by
 rcases List.mem_cons.mp (I.stkSub b hb) with e | hb
 ·rw [e]; exact I.free
 ·obtain ⟨_,o,ho,_⟩:=I.ok.funs.mem hb
  exact I.base.free b o ho (I.ok.frf b hb) fun z=>I.ok.exfs b z hb
theorem Inv.step {g':Array GenState}{t':Nat}{d':Drawn}{ch:List Addr}(I:Inv X pins σ H s)
  (hch : ∀ b ∈ ch,(b ∈ X.ex\/X.s₀.heap.objs.size<=b)/\b ≠ X.env.locals/\(∀ x c,X.env.cells.lookup x=some c->c ≠ b)/\∀ p ∈ X.pn ++ pins,p.1 ≠ b)
  (keep : ∀ b o,b ≠ X.env.locals->b ∉ X.fs->b ∉ ch->s.heap.get? b=some o->H b=none->h'.get? b=some o)
  (slot : ∀ b o,b ≠ X.env.locals->b ∈ X.fs->b ∉ ch->s.heap.get? b=some o->H b=none->∃ sl,h'.get? b=some { o with slots:=sl }) (free : ∀ b o,b ∉ ch->s.heap.get? b=some o->H b=none->H' b=none)
  (there : ∀ b o,b ∉ ch->s.heap.get? b=some o->∃ o',h'.get? b=some o')
  (tups : ∀ b xs,H b=some (.tup xs)->H' b=some (.tup xs)) (frzs : ∀ b o u,H b=some (.frz o u)->H' b=some (.frz o u)) (tbls : ∀ b ps,H b=some (.tbl ps)->∃ more,H' b=some (.tbl (ps ++ more)))
  (ns : ∀ m,s.heap.Ns X.env.locals m->h'.Ns X.env.locals m) (hok:HOk X.prog X.w H' h') (hg:AllBare g') :
  Inv X pins σ H' { s with heap:=h',gens:=g',drawn:=d',toks:=t' }:=by
 have neL : ∀ b o,X.s₀.heap.get? b=some o->b ≠ X.env.locals:=fun b o e=>Nat.ne_of_lt (Nat.lt_of_lt_of_le (Heap.lt_size e) I.ok.above)
 have neC : ∀ b o,X.s₀.heap.get? b=some o->b ∉ X.ex->b ∉ ch:=fun b o e hx hb=>by
  rcases (hch b hb).1 with z | z
  ·exact hx z
  ·exact absurd (Nat.lt_of_lt_of_le (Heap.lt_size e) z) (Nat.lt_irrefl _)
 have cellK : ∀ x c,X.env.cells.lookup x=some c->∀ v,s.heap.IsCell c v->h'.IsCell c v:=fun x c e v ⟨o,ho,hd⟩=>by
  have nch:c ∉ ch:=fun z=>(hch c z).2.2.1 x c e rfl
  by_cases hc:c ∈ X.fs
  ·obtain ⟨sl,q⟩:=slot c o (I.cne x c e) hc nch ho (I.freeC x c e)
   exact ⟨_,q,hd⟩
  ·exact ⟨o,keep c o (I.cne x c e) hc nch ho (I.freeC x c e),hd⟩
 refine ⟨I.ok,I.os,hg,⟨fun b o e n hb hx => ?_,fun b o e n hb hx => ?_,fun b o e n hx => ?_,fun b o e hx => ?_,fun b xs e=>tups b xs (I.base.tups b xs e),fun b o xs e=>frzs b o xs (I.base.frzs b o xs e),fun b ps e => ?_⟩,?_,fun x c e => ?_,?_,fun x c e => ?_,fun p hp => ?_,hok,I.len⟩
 ·exact keep b o (neL b o e) hb (neC b o e hx) (I.base.keep b o e n hb hx) (I.base.free b o e n hx)
 ·obtain ⟨sl,e1⟩:=I.base.slot b o e n hb hx
  obtain ⟨sl',e2⟩:=slot b _ (neL b o e) hb (neC b o e hx) e1 (I.base.free b o e n hx)
  exact ⟨sl',e2⟩
 ·obtain ⟨o',e1⟩:=I.base.there b o e hx
  exact free b o' (neC b o e hx) e1 (I.base.free b o e n hx)
 ·obtain ⟨o',e1⟩:=I.base.there b o e hx
  exact there b o' (neC b o e hx) e1
 ·obtain ⟨m1,e1⟩:=I.base.tbls b ps e
  obtain ⟨m2,e2⟩:=tbls b _ e1
  exact ⟨m1 ++ m2,by rw [e2,Array.append_assoc]⟩
 ·obtain ⟨m,hn,hl⟩:=I.loc
  refine ⟨m,ns m hn,fun i x v e1 e2 e3 => ?_⟩
  obtain ⟨u,r,l⟩:=hl i x v e1 e2 e3
  refine ⟨u,r,?_⟩
  rcases l with l | ⟨k,c,e,z⟩
  ·exact .inl l
  ·exact .inr ⟨k,c,e,cellK x c e _ z⟩
 ·obtain ⟨v,z⟩:=I.cell x c e
  exact ⟨v,cellK x c e v z⟩
 ·obtain ⟨m,⟨o,_,_,ho,_⟩,_⟩:=I.loc
  exact free _ o (fun z=>(hch _ z).2.1 rfl) ho I.free
 ·obtain ⟨v,o,ho,hd⟩:=I.cell x c e
  exact free c o (fun z=>(hch c z).2.2.1 x c e rfl) ho (I.freeC x c e)
 ·obtain ⟨e,n,ne,nf,d⟩:=I.pin p hp
  have nch:p.1 ∉ ch:=fun z=>(hch p.1 z).2.2.2 p hp rfl
  exact ⟨keep p.1 p.2 ne nf nch e n,free p.1 p.2 nch e n,ne,nf,d⟩
theorem Inv.un {t':Nat}(I:Inv X pins σ H s)(u:Un X.fs [] H H' s.heap h')(hok:HOk X.prog X.w H' h'):Inv X pins σ H' { s with heap:=h',toks:=t' }:=by
 obtain ⟨m,⟨o,es,ep,ho,r⟩,_⟩:=id I.loc
 obtain ⟨sl,hL⟩:=u.any ho I.free (by simp)
 exact I.step (g':=s.gens) (d':=s.drawn) (ch:=[]) (fun _ z=>nomatch z) (fun b o _ hb _ e n=>u.keep b o e n hb (by simp)) (fun b o _ hb _ e n=>u.slot b o e n hb (by simp)) (fun b o _ e n=>u.free b o e n (by simp)) (fun b o _ e=>u.there b o e (by simp)) u.tups u.frzs u.tbls (fun m' hm=>by
  obtain ⟨o',es',ep',ho',r'⟩:=hm
  rw [ho] at ho'; cases ho'
  exact ⟨_,es',ep',hL,r'⟩) hok I.bare
theorem Inv.call {g':Array GenState}{t':Nat}{d':Drawn}{ch:List Addr}(I:Inv X pins σ H s)(u:Un (frs X.stack) ch H H' s.heap h')(hok:HOk X.prog X.w H' h')(hg:AllBare g')
  (hch : ∀ b ∈ ch,(b ∈ X.ex\/X.s₀.heap.objs.size<=b)/\b ≠ X.env.locals/\(∀ x c,X.env.cells.lookup x=some c->c ≠ b)/\∀ p ∈ X.pn ++ pins,p.1 ≠ b) :
  Inv X pins σ H' { s with heap:=h',gens:=g',drawn:=d',toks:=t' }:=by
 obtain ⟨m,⟨o,es,ep,ho,r⟩,_⟩:=id I.loc
 obtain ⟨sl,hL⟩:=u.any ho I.free fun z=>(hch _ z).2.1 rfl
 exact I.step (ch:=ch) hch (fun b o hL hb hc e n=>u.keep b o e n (fun z=>(List.mem_cons.mp (I.stkSub b z)).elim hL hb) hc) (fun b o _ _ hc e n=>u.any e n hc) (fun b o hc e n=>u.free b o e n hc) (fun b o hc e=>u.there b o e hc) u.tups u.frzs u.tbls (fun m' hm=>by
  obtain ⟨o',es',ep',ho',r'⟩:=hm
  rw [ho] at ho'; cases ho'
  exact ⟨_,es',ep',hL,r'⟩) hok hg
theorem Inv.turned {t':Nat}{it:Addr}(I:Inv X pins σ H s)(k : ∀ b o,b ≠ it->s.heap.get? b=some o->h'.get? b=some o)(hn:H it=none)(hL:it ≠ X.env.locals)
  (h1:it ∈ X.ex\/X.s₀.heap.objs.size<=it) (h2 : ∀ x c,X.env.cells.lookup x=some c->c ≠ it) (h3 : ∀ p ∈ X.pn ++ pins,p.1 ≠ it):Inv X pins σ H { s with heap:=h',toks:=t' }:=by
 have nit : ∀ b u,H b=some u->b ≠ it:=fun b u e z=>by rw [z,hn] at e; cases e
 refine I.step (g':=s.gens) (d':=s.drawn) (ch:=[it]) (fun b hb => ?_) (fun b o _ _ hc e _=>k b o (fun z=>hc (by simp [z])) e) (fun b o _ _ hc e _=>⟨o.slots,k b o (fun z=>hc (by simp [z])) e⟩) (fun _ _ _ _ n=>n)
  (fun b o hc e=>⟨o,k b o (fun z=>hc (by simp [z])) e⟩) (fun _ _ e=>e) (fun _ _ _ e=>e) (fun b ps e=>⟨#[],by rw [e]; simp⟩) (fun m hm => ?_) (fun b u e => ?_) I.bare
 ·have e:b=it:=by simpa using hb
  subst e
  exact ⟨h1,hL,h2,h3⟩
 ·obtain ⟨o,es,ep,ho,r⟩:=hm
  exact ⟨o,es,ep,k _ o (Ne.symm hL) ho,r⟩
 ·refine (I.hok b u e).stay (fun c v hc q=>k c v ?_ q) (fun _ q=>q) fun _ _ q=>q
  rcases hc with z | z
  ·rw [z]; exact nit b u e
  ·exact nit c _ z
theorem Inv.tok (I:Inv X pins σ H s)(t:Nat):Inv X pins σ H { s with toks:=t }:=I.un (h':=s.heap) (t':=t) Un.refl I.hok
theorem Inv.kept {t':Nat}(I:Inv X pins σ H s)(k : ∀ b u,s.heap.get? b=some u->h'.get? b=some u):Inv X pins σ H { s with heap:=h',toks:=t' }:=I.un (Un.kept k) (I.hok.kept k)
theorem Inv.laid {a:Addr}{o:HO}{t':Nat}(I:Inv X pins σ H s)(k : ∀ b u,s.heap.get? b=some u->h'.get? b=some u)(hp:s.heap.objs.size<=a)(new:ObjOk X.prog X.w (upd H a o) h' a o) :
  Inv X pins σ (upd H a o) { s with heap:=h',toks:=t' }:=I.un (Un.laid k hp (I.hok.fresh hp)) (I.hok.laid k hp new)
theorem Inv.write {x e:Addr}{o:HO}{t':Nat}(I:Inv X pins σ H s)(mu:Mut (H x))(he:e=x\/H e=some (.own x))(k : ∀ b u,b ≠ e->s.heap.get? b=some u->h'.get? b=some u)(heo : ∃ u,h'.get? e=some u)
  (new:ObjOk X.prog X.w (upd H x o) h' x o):Inv X pins σ (upd H x o) { s with heap:=h',toks:=t' }:=I.un (Un.write mu he k heo) (I.hok.write mu he k heo new)
theorem Inv.weak {σ':List (Option V)}(I:Inv X pins σ H s)(hl:σ'.length=σ.length)(w : ∀ (i:Nat) v,σ'[i]?=some (some v)->σ[i]?=some (some v)):Inv X pins σ' H s :=
 ⟨I.ok,I.os,I.bare,I.base,let ⟨m,hn,hl'⟩:=I.loc; ⟨m,hn,fun i x v e1 e2 e3=>hl' i x v e1 (w i v e2) e3⟩,I.cell,I.free,I.freeC,I.pin,I.hok,hl.trans I.len⟩
theorem Inv.pins_of {pins':List (Addr × Obj)}(I:Inv X pins σ H s)(h : ∀ p ∈ pins',s.heap.get? p.1=some p.2/\H p.1=none/\p.1 ≠ X.env.locals/\p.1 ∉ X.fs/\∀ v,p.2.data ≠ .cell v):Inv X pins' σ H s :=
 ⟨I.ok,I.os,I.bare,I.base,I.loc,I.cell,I.free,I.freeC,fun p hp=>(List.mem_append.mp hp).elim (fun z=>I.pin p (List.mem_append_left _ z)) (h p),I.hok,I.len⟩
theorem nodup_ix {N:List Str}(hN:N.Nodup){i j:Nat}{x:Str}(a:N[i]?=some x)(b:N[j]?=some x):i=j:=by
 obtain ⟨h1,e1⟩:=List.getElem?_eq_some_iff.mp a
 obtain ⟨h2,e2⟩:=List.getElem?_eq_some_iff.mp b
 exact (List.getElem_inj hN).mp (e1.trans e2.symm)
theorem store_ok2 {M:Model}{A:Around}{E:Value->Shared->Prop}{i:Nat}{x:Str}{v:V}{u:Value}{Q:Unit->Shared->Prop}(I:Inv X pins σ H s)(hN:X.N.Nodup)(hi:X.N[i]?=some x)(hx:Loc X.env.scope x)(r:RelV v u)
  (h : ∀ s',Inv X pins (σ.set i (some v)) H s'->(∃ a,Heap.SameBut a s.heap s'.heap/\(a=X.env.locals\/X.env.cells.lookup x=some a))->Q () s') (hf:X.fn x=true\/X.env.scope.names.lookup x=some .local:=by first | exact .inl rfl | exact .inr rfl | assumption):wpAny M A (storeName X.env x u) Q E s:=by
 obtain ⟨m,hn,hl⟩:=id I.loc
 have hcls:(X.env.scope.kind == .class || (X.env.scope.kind == .module && X.env.locals != X.env.globals))=false:=by rw [I.ok.kind]; rfl
 have hiσ:i < σ.length:=by rw [I.len]; exact (List.getElem?_eq_some_iff.mp hi).1
 have cne:=I.cne
 have tracked : ∀ {a:Addr} {h':Heap},(∃ o,s.heap.get? a=some o/\H a=none)->Heap.SameBut a s.heap h'->HOk X.prog X.w H h':=fun {a h'} ha hs b ob e=>by
  obtain ⟨_,_,hfree⟩:=ha
  refine (I.hok b ob e).stay (fun c w' hc q=>(hs.2 c ?_).trans q) (fun _ q=>q) fun _ _ q=>q
  rintro rfl
  rcases hc with rfl | hc
  ·rw [hfree] at e; cases e
  ·rw [hfree] at hc; cases hc
 rcases hx with hk | hk
 ·refine wpAny_storeName_local hk hn (fun h' hn' hs => ?_) hcls
  obtain ⟨oL,_,_,hoL,_⟩:=id hn
  refine h _ ⟨I.ok,I.os,I.bare,⟨fun b o e n hb hx => ?_,fun b o e n hb hx => ?_,I.base.free,fun b o e hx => ?_,I.base.tups,I.base.frzs,I.base.tbls⟩,⟨_,hn',fun j y v' e1 e2 e3 => ?_⟩,fun y c e => ?_,I.free,I.freeC,fun p hp => ?_,tracked ⟨oL,hoL,I.free⟩ hs,by simpa using I.len⟩ ⟨_,hs,.inl rfl⟩
  ·exact (hs.2 b (Nat.ne_of_lt (Nat.lt_of_lt_of_le (Heap.lt_size e) I.ok.above))).trans (I.base.keep b o e n hb hx)
  ·obtain ⟨sl,e1⟩:=I.base.slot b o e n hb hx
   exact ⟨sl,(hs.2 b (Nat.ne_of_lt (Nat.lt_of_lt_of_le (Heap.lt_size e) I.ok.above))).trans e1⟩
  ·obtain ⟨o',e1⟩:=I.base.there b o e hx
   exact ⟨o',(hs.2 b (Nat.ne_of_lt (Nat.lt_of_lt_of_le (Heap.lt_size e) I.ok.above))).trans e1⟩
  ·by_cases hj:j=i
   ·subst hj
    rw [hi] at e1; cases e1
    rw [List.getElem?_set_self hiσ] at e2
    cases e2
    exact ⟨u,r,.inl ⟨hk,by simp⟩⟩
   ·rw [List.getElem?_set_ne (Ne.symm hj)] at e2
    obtain ⟨u',r',q⟩:=hl j y v' e1 e2 e3
    refine ⟨u',r',?_⟩
    rcases q with ⟨k,e⟩ | ⟨k,c,e,z⟩
    ·refine .inl ⟨k,?_⟩
     have:y ≠ x:=fun e=>hj (nodup_ix hN e1 (e ▸ hi))
     simp [this,e]
    ·exact .inr ⟨k,c,e,z.sameBut hs (cne y c e)⟩
  ·obtain ⟨w',z⟩:=I.cell y c e
   exact ⟨w',z.sameBut hs (cne y c e)⟩
  ·obtain ⟨e,n,ne,nf,d⟩:=I.pin p hp
   exact ⟨(hs.2 p.1 ne).trans e,n,ne,nf,d⟩
 ·have hfn:X.fn x=true:=by
   rcases hf with z | z
   ·exact z
   ·rw [z] at hk; cases hk
  obtain ⟨c,hc⟩:=I.ok.has x (.inl hk)
  obtain ⟨w',z⟩:=I.cell x c hc
  refine wpAny_storeName_cell I.ok.kind hk hc z (fun h' hc' hs => ?_)
  obtain ⟨oc,hoc,hocd⟩:=id z
  refine h { s with heap:=h' } ⟨I.ok,I.os,I.bare,⟨fun b o e n hb hx => ?_,fun b o e n hb hx => ?_,I.base.free,fun b o e hx => ?_,I.base.tups,I.base.frzs,I.base.tbls⟩,⟨m,hn.sameBut hs (Ne.symm (cne x c hc)),fun j y v' e1 e2 e3 => ?_⟩,fun y c' e => ?_,I.free,I.freeC,fun p hp => ?_,tracked ⟨oc,hoc,I.freeC x c hc⟩ hs,by simpa using I.len⟩ ⟨c,hs,.inr hc⟩
  ·exact (hs.2 b (Nat.ne_of_lt (Nat.lt_of_lt_of_le (Heap.lt_size e) (I.ok.cab x c hfn hc)))).trans (I.base.keep b o e n hb hx)
  ·obtain ⟨sl,e1⟩:=I.base.slot b o e n hb hx
   exact ⟨sl,(hs.2 b (Nat.ne_of_lt (Nat.lt_of_lt_of_le (Heap.lt_size e) (I.ok.cab x c hfn hc)))).trans e1⟩
  ·obtain ⟨o',e1⟩:=I.base.there b o e hx
   exact ⟨o',(hs.2 b (Nat.ne_of_lt (Nat.lt_of_lt_of_le (Heap.lt_size e) (I.ok.cab x c hfn hc)))).trans e1⟩
  ·by_cases hj:j=i
   ·subst hj
    rw [hi] at e1; cases e1
    rw [List.getElem?_set_self hiσ] at e2
    cases e2
    exact ⟨u,r,.inr ⟨.inl hk,c,hc,hc'⟩⟩
   ·rw [List.getElem?_set_ne (Ne.symm hj)] at e2
    obtain ⟨u',r',q⟩:=hl j y v' e1 e2 e3
    refine ⟨u',r',?_⟩
    rcases q with q | ⟨k,c',e,z'⟩
    ·exact .inl q
    ·refine .inr ⟨k,c',e,z'.sameBut hs ?_⟩
     rintro rfl
     exact hj (nodup_ix hN e1 (I.ok.inj _ _ _ e hc ▸ hi))
  ·by_cases hcc:c'=c
   ·subst hcc; exact ⟨_,hc'⟩
   ·obtain ⟨w2,z2⟩:=I.cell y c' e
    exact ⟨w2,z2.sameBut hs hcc⟩
  ·obtain ⟨e,n,ne,nf,d⟩:=I.pin p hp
   refine ⟨(hs.2 p.1 ?_).trans e,n,ne,nf,d⟩
   intro q
   rw [q,hoc] at e
   have q':oc=p.2:=Option.some.inj e
   exact d w' (by rw [<- q']; exact hocd)
theorem store_ok {M:Model}{A:Around}{E:Value->Shared->Prop}{i:Nat}{x:Str}{v:V}{u:Value}{Q:Unit->Shared->Prop}(I:Inv X pins σ H s)(hN:X.N.Nodup)(hi:X.N[i]?=some x)(hx:Loc X.env.scope x)(r:RelV v u)
  (h : ∀ s',Inv X pins (σ.set i (some v)) H s'->Q () s') (hf:X.fn x=true\/X.env.scope.names.lookup x=some .local:=by first | exact .inl rfl | exact .inr rfl | assumption):wpAny M A (storeName X.env x u) Q E s :=
 store_ok2 I hN hi hx r (fun s' I' _=>h s' I') hf
theorem Inv.call' {s':Shared}{ch:List Addr}(I:Inv X pins σ H s)(ho:s'.os=s.os)(u:Un (frs X.stack) ch H H' s.heap s'.heap)(hok:HOk X.prog X.w H' s'.heap)(hg:AllBare s'.gens)
  (hch : ∀ b ∈ ch,(b ∈ X.ex\/X.s₀.heap.objs.size<=b)/\b ≠ X.env.locals/\(∀ x c,X.env.cells.lookup x=some c->c ≠ b)/\∀ p ∈ X.pn ++ pins,p.1 ≠ b):Inv X pins σ H' s':=by
 obtain ⟨h',g',d',t',o'⟩:=s'
 have e:o'=s.os:=ho
 subst e
 exact I.call (g':=g') (t':=t') (d':=d') u hok hg hch
end
abbrev XK:=Value->Option Addr->Hp->Prop
abbrev St:=List (Option V)
abbrev VK:=V->Hp->Prop
abbrev TE:=St->Hp->VK->Prop
abbrev TT:=St->Hp->(Bool->Hp->Prop)->Prop
abbrev TA:=St->Hp->(List V->Hp->Prop)->Prop
structure Ends where
 nx:St->Hp->Prop
 rt:VK
 bk:St->Hp->Prop:=fun _ _=>False
 ct:St->Hp->Prop:=fun _ _=>False
abbrev TS:=Ends->St->Hp->Prop
def EP (X:Cx)(pins:List (Addr × Obj))(σ:St)(Q:VK)(u:Value)(s':Shared):Prop:=∃ v H',Inv X pins σ H' s'/\RelV v u/\Q v H'
def TP (X:Cx)(pins:List (Addr × Obj))(σ:St)(Q:Bool->Hp->Prop)(b:Bool)(s':Shared):Prop:=∃ H',Inv X pins σ H' s'/\Q b H'
def AP (X:Cx)(pins:List (Addr × Obj))(σ:St)(Q:List V->Hp->Prop)(us:List Value)(s':Shared):Prop:=∃ vs H',Inv X pins σ H' s'/\Vals vs us/\Q vs H'
def SP (X:Cx)(pins:List (Addr × Obj))(D:Ends)(f:Flow)(s':Shared):Prop :=
 match f with
 | .next=>∃ σ' H',Inv X pins σ' H' s'/\D.nx σ' H'
 | .brk=>∃ σ' H',Inv X pins σ' H' s'/\D.bk σ' H'
 | .cont=>∃ σ' H',Inv X pins σ' H' s'/\D.ct σ' H'
 | .ret u=>∃ v σ' H',Inv X pins σ' H' s'/\RelV v u/\D.rt v H'
def PE (X:Cx)(e:Expr)(t:TE):Prop :=
 ∀ (pins:List (Addr × Obj)) (s:Shared) (σ:St) (H:Hp) (Q:VK),Inv X pins σ H s->t σ H Q->wpAny (model X.prog X.w) X.A (eval e X.env) (EP X pins σ Q) X.xe s
def PT (X:Cx)(e:Expr)(t:TT):Prop :=
 ∀ (pins:List (Addr × Obj)) (s:Shared) (σ:St) (H:Hp) (Q:Bool->Hp->Prop),Inv X pins σ H s->t σ H Q->wpAny (model X.prog X.w) X.A (isTrue e X.env (eval e X.env)) (TP X pins σ Q) X.xe s
def PW (X:Cx)(e:Expr)(t:TT):Prop :=
 ∀ (whole:Sem Value) (pins:List (Addr × Obj)) (s:Shared) (σ:St) (H:Hp) (Q:Bool->Hp->Prop),Inv X pins σ H s->t σ H Q->wpAny (model X.prog X.w) X.A (isTrue e X.env whole) (TP X pins σ Q) X.xe s
theorem PW.pt {X:Cx}{e:Expr}{t:TT}(h:PW X e t):PT X e t:=h _
def PA (X:Cx)(es:List Expr)(t:TA):Prop :=
 ∀ (pos:Pos) (pins:List (Addr × Obj)) (s:Shared) (σ:St) (H:Hp) (Q:List V->Hp->Prop),Inv X pins σ H s->t σ H Q->wpAny (model X.prog X.w) X.A (spliced (backTo pos (starEach es X.env))) (AP X pins σ Q) X.xe s
def PS (X:Cx)(st:Stmt)(t:TS):Prop :=
 ∀ (pins:List (Addr × Obj)) (s:Shared) (σ:St) (H:Hp) (D:Ends),Inv X pins σ H s->t D σ H->wpAny (model X.prog X.w) X.A (exec st X.env) (SP X pins D) X.xe s
def PSs (X:Cx)(st:List Stmt)(t:TS):Prop :=
 ∀ (pins:List (Addr × Obj)) (s:Shared) (σ:St) (H:Hp) (D:Ends),Inv X pins σ H s->t D σ H->wpAny (model X.prog X.w) X.A (execs st X.env) (SP X pins D) X.xe s
theorem thn {α:Type}{t:Sem α}{Q Q':α->Shared->Prop}{M:Model}{A:Around}{E:Value->Shared->Prop}{s:Shared}(h:wpAny M A t Q E s)(hQ : ∀ a s,Q a s->Q' a s):wpAny M A t Q' E s:=wpAny_mono h hQ fun _ _ x=>x
end L2
namespace L2
open PySem PySem.Spec PyProof.Rows
section
variable {X:Cx}
theorem bin {a b:Expr}{ta tb:TE}(ha:PE X a ta)(hb:PE X b tb){pins:List (Addr × Obj)}{s:Shared}{σ:St}{H:Hp}{R:V->V->Hp->Prop}(I:Inv X pins σ H s)(h:ta σ H fun x H1=>tb σ H1 fun y H2=>R x y H2)
  {α:Type} {Q:α->Shared->Prop} {f:Value->Value->Sem α}
  (hf : ∀ v u s2 x y H2,Inv X pins σ H2 s2->RelV x v->RelV y u->R x y H2->wpAny (model X.prog X.w) X.A (f v u) Q X.xe s2) :
  wpAny (model X.prog X.w) X.A (eval a X.env) (fun v s₁=>wpAny (model X.prog X.w) X.A (eval b X.env) (fun u s₂=>wpAny (model X.prog X.w) X.A (f v u) Q X.xe s₂) X.xe s₁) X.xe s:=by
 refine thn (ha pins s σ H _ I h) fun v s1 ⟨x,H1,I1,r1,q1⟩ => ?_
 refine thn (hb pins s1 σ H1 _ I1 q1) fun u s2 ⟨y,H2,I2,r2,q2⟩ => ?_
 exact hf v u s2 x y H2 I2 r1 r2 q2
def tVar (i:Nat):TE:=fun σ H Q=>∃ v,σ[i]?=some (some v)/\Q v H
def tC (v:V):TE:=fun _ H Q=>Q v H
theorem pe_var {i:Nat}{x:Str}{pos:Pos}(hN:X.N[i]?=some x)(hv:Vis X.env.scope x)(hd:(x == ("__debug__" : Str))=false:=by decide)(hcd:(x == ("__classdict__" : Str))=false:=by decide):PE X (.Name x pos) (tVar i):=by
 intro pins s σ H Q I h
 obtain ⟨v,e,h⟩:=h
 obtain ⟨m,hn,hl⟩:=I.loc
 obtain ⟨u,r,l⟩:=hl i x v hN e hv
 have fin:EP X pins σ Q u s:=⟨v,H,I,r,h⟩
 rcases l with ⟨hk,hm⟩ | ⟨hk,c,hc,hcell⟩
 ·exact wpAny_Name (wpAny_loadName_local I.ok.kind hk hn hm fin) hd
 ·rcases hk with hk | hk
  ·exact wpAny_Name (wpAny_loadName_cell I.ok.kind hk hc hcell fin) hd
  ·exact wpAny_Name (wpAny_loadName_free I.ok.kind hk hc hcell fin hcd) hd
theorem pe_int {i j pos}:PE X (.Constant (.int i) j pos) (tC (.int i)):=fun _ _ _ H _ I h=>wpAny_Constant_int ⟨.int i,H,I.tok _,⟨_,rfl⟩,h⟩
theorem pe_bl {b j pos}:PE X (.Constant (.bool b) j pos) (tC (.bl b)):=fun _ _ _ H _ I h=>Constant_bool ⟨.bl b,H,I,rfl,h⟩
theorem pe_non {j pos}:PE X (.Constant .none j pos) (tC .non):=fun _ _ _ H _ I h=>Constant_none ⟨.non,H,I,rfl,h⟩
theorem pe_str {x j pos}:PE X (.Constant (.str x) j pos) (tC (.str x)):=fun _ _ _ H _ I h=>Calls.Constant_str ⟨.str x,H,I.tok _,⟨_,rfl⟩,h⟩
def Gl (X:Cx)(x:Str):Prop:=X.env.kindOf x=some .globalImplicit
theorem ld_glob {E:Value->Shared->Prop}{pins:List (Addr × Obj)}{s:Shared}{σ:St}{H:Hp}{x:Str}{u:Value}{pos:Pos}{Q:Value->Shared->Prop}(I:Inv X pins σ H s)(hg:Gl X x)(hm:X.mg x=some u)(h:Q u s)
  (hd:(x == ("__debug__" : Str))=false:=by decide):wpAny (model X.prog X.w) X.A (eval (.Name x pos) X.env) Q E s :=
 Calls.Name_function_global I.ok.kind hg (Calls.loadGlobal_global (by rw [I.ok.glob]; exact I.mod.glob.keeps I.bk) hm h) hd
theorem ld_blt {E:Value->Shared->Prop}{pins:List (Addr × Obj)}{s:Shared}{σ:St}{H:Hp}{x:Str}{u:Value}{pos:Pos}{Q:Value->Shared->Prop}(I:Inv X pins σ H s)(hg:Gl X x)(hm:X.mg x=none)(hv:bootBuiltins x=some u)(h:Q u s)
  (hn:x ≠ "__name__" := by decide) (hd:(x == ("__debug__" : Str))=false:=by decide):wpAny (model X.prog X.w) X.A (eval (.Name x pos) X.env) Q E s:=by
 obtain ⟨mb,h1,h2⟩:=I.mod.blt
 exact Calls.Name_function_global I.ok.kind hg (Calls.loadGlobal_builtin (by rw [I.ok.glob]; exact I.mod.glob.keeps I.bk) hm (by rw [I.ok.blt]; exact h1.keeps I.bk) ((h2 x hn).trans hv) h) hd
theorem pe_glob {x:Str}{v:V}{u:Value}{pos:Pos}(hg:Gl X x)(hm:X.mg x=some u)(r:RelV v u)(hd:(x == ("__debug__" : Str))=false:=by decide):PE X (.Name x pos) (tC v) :=
 fun _ _ _ H _ I h=>ld_glob I hg hm ⟨v,H,I,r,h⟩ hd
theorem pe_bltn {x:Str}{v:V}{u:Value}{pos:Pos}(hg:Gl X x)(hm:X.mg x=none)(hv:bootBuiltins x=some u)(r:RelV v u)(hn:x ≠ "__name__" := by decide)(hd:(x == ("__debug__" : Str))=false:=by decide):PE X (.Name x pos) (tC v) :=
 fun _ _ _ H _ I h=>ld_blt I hg hm hv ⟨v,H,I,r,h⟩ hn hd
def t2I (ta tb:TE)(k:Int->Int->Hp->Prop):St->Hp->Prop:=fun σ H=>ta σ H fun x H1=>tb σ H1 fun y H2=>∃ i j,x = .int i/\y = .int j/\k i j H2
def tAdd (ta tb:TE):TE:=fun σ H Q=>t2I ta tb (fun i j H2=>Q (.int (i+j)) H2) σ H
def tSub (ta tb:TE):TE:=fun σ H Q=>t2I ta tb (fun i j H2=>Q (.int (i - j)) H2) σ H
def tMul (ta tb:TE):TE:=fun σ H Q=>t2I ta tb (fun i j H2=>(-(2 ^ 64) < i/\i < 2 ^ 64)/\Q (.int (i*j)) H2) σ H
variable {a b:Expr}{ta tb:TE}{pos:Pos}
def PC (X:Cx)(op:CmpOp)(a b:Expr)(t:TE):Prop :=
 ∀ (pins:List (Addr × Obj)) (s:Shared) (σ:St) (H:Hp) (Q:VK),Inv X pins σ H s->t σ H Q ->
  wpAny (model X.prog X.w) X.A (eval a X.env) (fun v s₁=>wpAny (model X.prog X.w) X.A (eval b X.env) (fun u s₂=>wpAny (model X.prog X.w) X.A (compareOp op v u) (EP X pins σ Q) X.xe s₂) X.xe s₁) X.xe s
def tCmp (p:Int->Int->Bool)(ta tb:TE):TE:=fun σ H Q=>t2I ta tb (fun i j H2=>Q (.bl (p i j)) H2) σ H
abbrev tLt:TE->TE->TE:=tCmp fun i j=>decide (i < j)
abbrev tLe:TE->TE->TE:=tCmp fun i j=>decide (i<=j)
abbrev tGt:TE->TE->TE:=tCmp fun i j=>decide (j < i)
abbrev tGe:TE->TE->TE:=tCmp fun i j=>decide (j<=i)
abbrev tEqI:TE->TE->TE:=tCmp fun i j=>decide (i=j)
abbrev tNeI:TE->TE->TE:=tCmp fun i j => !decide (i=j)
def tIsN (ta:TE):TE:=fun σ H Q=>ta σ H fun x H1=>Q (.bl (decide (x = .non))) H1
def tNotN (ta:TE):TE:=fun σ H Q=>ta σ H fun x H1=>Q (.bl (!decide (x = .non))) H1
def tB (t:TE):TT:=fun σ H Q=>t σ H fun x H1=>∃ c,x = .bl c/\Q c H1
theorem pe_cmp {op:CmpOp}{t:TE}(h:PC X op a b t)(h1:behindInMarks op b=false:=by first | exact nobehind _ (by decide) (by decide) | rfl):PE X (.Compare a [op] [b] pos) t:=fun pins s σ H Q I hw=>wpAny_Compare1 (h pins s σ H Q I hw) h1
theorem pt_cmp {op:CmpOp}{t:TE}(h:PC X op a b t)(h1:behindInMarks op b=false:=by first | exact nobehind _ (by decide) (by decide) | rfl):PT X (.Compare a [op] [b] pos) (tB t):=by
 intro pins s σ H Q I hw
 refine wpAny_isTrue_Compare1 (thn (h pins s σ H _ I hw) fun v s1 h1=>thn h1 fun u s2 h2=>thn h2 fun c s3 ⟨x,H1,I1,r1,q1⟩ => ?_) h1
 obtain ⟨d,rfl,q⟩:=q1
 cases r1
 exact wpAny_truthy_bool ⟨H1,I1,q⟩
theorem pt_val {e:Expr}{t:TE}(h:PE X e t)(he : ∀ whole,isTrue e X.env whole=(do let v <- whole; standAt e.pos; holding [v] (truthy v)):=by intro _; rfl):PT X e (tB t):=by
 intro pins s σ H Q I hw
 refine isTrue_plain (thn (h pins s σ H _ I hw) fun v s1 ⟨x,H1,I1,r1,q1⟩ => ?_) (he _)
 obtain ⟨d,rfl,q⟩:=q1
 cases r1
 exact wpAny_truthy_bool ⟨H1,I1,q⟩
variable {tA tB':TT}{rest:List Expr}
def tAnd (t u:TT):TT:=fun σ H Q=>t σ H fun c H1=>if c=true then u σ H1 Q else Q false H1
def tOr (t u:TT):TT:=fun σ H Q=>t σ H fun c H1=>if c=true then Q true H1 else u σ H1 Q
def tNot (t:TT):TT:=fun σ H Q=>t σ H fun c H1=>Q (!c) H1
theorem pw_and1 (ha:PT X a tA):PW X (.BoolOp .And [a] pos) tA:=by
 intro wh pins s σ H Q I h
 refine isTrue_and (thn (ha pins s σ H Q I h) fun c s1 e => ?_)
 cases c with
 | true=>exact isTrue_and_nil e
 | false=>exact e
theorem pw_or1 (ha:PT X a tA):PW X (.BoolOp .Or [a] pos) tA:=by
 intro wh pins s σ H Q I h
 refine isTrue_or (thn (ha pins s σ H Q I h) fun c s1 e => ?_)
 cases c with
 | false=>exact isTrue_or_nil e
 | true=>exact e
theorem pw_and (ha:PT X a tA)(hb:PW X (.BoolOp .And (b :: rest) pos) tB'):PW X (.BoolOp .And (a :: b :: rest) pos) (tAnd tA tB'):=by
 intro wh pins s σ H Q I h
 refine isTrue_and (thn (ha pins s σ H _ I h) fun c s1 ⟨H1,I1,q1⟩ => ?_)
 cases c with
 | true=>exact hb wh pins s1 σ H1 Q I1 q1
 | false=>exact ⟨H1,I1,q1⟩
theorem pw_or (ha:PT X a tA)(hb:PW X (.BoolOp .Or (b :: rest) pos) tB'):PW X (.BoolOp .Or (a :: b :: rest) pos) (tOr tA tB'):=by
 intro wh pins s σ H Q I h
 refine isTrue_or (thn (ha pins s σ H _ I h) fun c s1 ⟨H1,I1,q1⟩ => ?_)
 cases c with
 | true=>exact ⟨H1,I1,q1⟩
 | false=>exact hb wh pins s1 σ H1 Q I1 q1
theorem pt_not (ha:PT X a tA):PT X (.UnaryOp .Not a pos) (tNot tA):=by
 intro pins s σ H Q I h
 exact isTrue_not (ha pins s σ H (fun c H1=>Q (!c) H1) I h)
def tAndV (ta tb:TE):TE:=fun σ H Q=>ta σ H fun x H1=>∃ c,x = .bl c/\if c=true then tb σ H1 Q else Q (.bl false) H1
def tOrV (ta tb:TE):TE:=fun σ H Q=>ta σ H fun x H1=>∃ c,x = .bl c/\if c=true then Q (.bl true) H1 else tb σ H1 Q
def tNotV (ta:TE):TE:=fun σ H Q=>ta σ H fun x H1=>∃ c,x = .bl c/\Q (.bl (!c)) H1
theorem pe_one {op}{t:TE}(h:PE X a t):PE X (.BoolOp op [a] pos) t:=fun pins s σ H Q I hw=>BoolOp_one (h pins s σ H Q I hw)
theorem pe_and (ha:PE X a ta)(hb:PE X (.BoolOp .And (b :: rest) pos) tb):PE X (.BoolOp .And (a :: b :: rest) pos) (tAndV ta tb):=by
 intro pins s σ H Q I h
 refine BoolOp_and (thn (ha pins s σ H _ I h) fun v s1 ⟨x,H1,I1,r1,q1⟩ => ?_)
 obtain ⟨c,rfl,q1⟩:=q1
 cases r1
 refine wpAny_truthy_bool ?_
 cases c with
 | true=>exact hb pins s1 σ H1 Q I1 q1
 | false=>exact ⟨.bl false,H1,I1,rfl,q1⟩
theorem pe_or (ha:PE X a ta)(hb:PE X (.BoolOp .Or (b :: rest) pos) tb):PE X (.BoolOp .Or (a :: b :: rest) pos) (tOrV ta tb):=by
 intro pins s σ H Q I h
 refine BoolOp_or (thn (ha pins s σ H _ I h) fun v s1 ⟨x,H1,I1,r1,q1⟩ => ?_)
 obtain ⟨c,rfl,q1⟩:=q1
 cases r1
 refine wpAny_truthy_bool ?_
 cases c with
 | false=>exact hb pins s1 σ H1 Q I1 q1
 | true=>exact ⟨.bl true,H1,I1,rfl,q1⟩
theorem pe_not (ha:PE X a ta):PE X (.UnaryOp .Not a pos) (tNotV ta):=by
 intro pins s σ H Q I h
 refine UnaryOp_ (thn (ha pins s σ H _ I h) fun v s1 ⟨x,H1,I1,r1,q1⟩ => ?_)
 obtain ⟨c,rfl,q1⟩:=q1
 cases r1
 exact not_of (wpAny_truthy_bool ⟨.bl (!c),H1,I1,rfl,q1⟩)
def tIf (t:TT)(ta tb:TE):TE:=fun σ H Q=>t σ H fun c H1=>if c=true then ta σ H1 Q else tb σ H1 Q
theorem pe_ifExp {c:Expr}(hc:PT X c tA)(ha:PE X a ta)(hb:PE X b tb):PE X (.IfExp c a b pos) (tIf tA ta tb):=by
 intro pins s σ H Q I h
 refine wpAny_IfExp (thn (hc pins s σ H _ I h) fun d s1 ⟨H1,I1,q1⟩ => ?_)
 cases d with
 | true=>exact ha pins s1 σ H1 Q I1 q1
 | false=>exact hb pins s1 σ H1 Q I1 q1
end
end L2
namespace L2
open PySem PySem.Spec PyProof.Rows
def SqL (K:PySem.W.Frag)(H:Hp)(a:Addr)(xs:List V):Prop :=
 Rd H a (.lst xs) \/
  ∃ (o:Obj) (its:Array Value) (n:Nat),K.lookup a=some o/\o.cls = .type "list" /\ o.dict=none/\o.data = .seq its n/\its.size<=sizeLine/\Vals xs its.toList
def SqT (K:PySem.W.Frag)(H:Hp)(a:Addr)(xs:List V):Prop :=
 Rd H a (.tup xs) \/
  ∃ (o:Obj) (its:Array Value) (n:Nat),K.lookup a=some o/\o.cls = .type "tuple" /\ o.data = .seq its n/\its.size<=sizeLine/\Vals xs its.toList
def absV:Value->Option V
 | .none=>some .non
 | .bool b=>some (.bl b)
 | .int i _=>some (.int i)
 | .str x _=>some (.str x)
 | .bytes b _=>some (.byt b)
 | .float b _=>some (.flt b)
 | .ref a=>some (.ref a)
 | .type n=>some (.ty n)
 | _=>none
theorem RelV.abs {x:V}{u:Value}(r:RelV x u):absV u=some x:=by
 cases x with
 | non=>cases r; rfl
 | bl _=>cases r; rfl
 | int _=>obtain ⟨t,rfl⟩:=r; rfl
 | str _=>obtain ⟨t,rfl⟩:=r; rfl
 | byt _=>obtain ⟨t,rfl⟩:=r; rfl
 | flt _=>obtain ⟨t,rfl⟩:=r; rfl
 | ref _=>cases r; rfl
 | ty _=>cases r; rfl
theorem RelV.inj {x y:V}{u:Value}(r:RelV x u)(q:RelV y u):x=y:=Option.some.inj (r.abs.symm.trans q.abs)
theorem Vals.inj : ∀ {xs ys:List V} {us:List Value},Vals xs us->Vals ys us->xs=ys
 | _,_,_,.nil,.nil=>rfl
 | _,_,_,.cons r t,.cons r' t'=>by rw [r.inj r',Vals.inj t t']
section
variable {X:Cx}{pins:List (Addr × Obj)}{σ:St}{H:Hp}{s:Shared}{a:Addr}{xs ys:List V}
theorem SqL.of {K:PySem.W.Frag}(h:H a=some (.lst xs)):SqL K H a xs:=.inl (.inl h)
theorem SqT.of {K:PySem.W.Frag}(h:H a=some (.tup xs)):SqT K H a xs:=.inl (.inl h)
theorem Inv.list (I:Inv X pins σ H s)(h:SqL X.K H a xs) : ∃ its:List Value,Vals xs its/\PlainL s.heap a its.toArray/\xs.length<=sizeLine:=by
 rcases h with h | ⟨o,its,n,hk,hc,hd,hs,hz,r⟩
 ·obtain ⟨z,its,n,r,e⟩:=h.ok I.hok
  exact ⟨its,r,⟨_,n,e,rfl,rfl,rfl⟩,z⟩
 ·refine ⟨its.toList,r,⟨o,n,I.kIn a o hk,hc,hd,by simpa using hs⟩,?_⟩
  have e:=r.length
  simp only [Array.length_toList] at e
  omega
theorem Inv.tuple (I:Inv X pins σ H s)(h:SqT X.K H a xs) : ∃ its:List Value,Vals xs its/\IsTup s.heap a its.toArray/\xs.length<=sizeLine:=by
 rcases h with h | ⟨o,its,n,hk,hc,hs,hz,r⟩
 ·obtain ⟨z,its,r,p⟩:=h.ok I.hok
  exact ⟨its,r,p,z.1⟩
 ·refine ⟨its.toList,r,⟨o,I.kIn a o hk,hc,n,by simpa using hs⟩,?_⟩
  have e:=r.length
  simp only [Array.length_toList] at e
  omega
theorem Inv.list_inj (I:Inv X pins σ H s)(h:SqL X.K H a xs)(h':SqL X.K H a ys):xs=ys:=by
 obtain ⟨its,r,⟨o,n,e,_,_,d⟩,_⟩:=I.list h
 obtain ⟨its',r',⟨o',n',e',_,_,d'⟩,_⟩:=I.list h'
 rw [e] at e'; cases e'
 rw [d] at d'
 injection d' with d1 _
 have:its=its':=by simpa using congrArg Array.toList d1
 subst this
 exact r.inj r'
end
abbrev Cx.wish (X:Cx)(E:Value->Shared->Prop):Cx:={ X with xe:=E }
abbrev Cx.nox (X:Cx):Cx:=X.wish fun _ _=>False
theorem Cx.Ok.wish {X:Cx}(ok:X.Ok)(E:Value->Shared->Prop):(X.wish E).Ok :=
 ⟨ok.mod,ok.kind,ok.glob,ok.blt,ok.above,ok.inj,ok.has,ok.cab,ok.hd,ok.frames,ok.stk,ok.exf,ok.bs,ok.bsz,ok.noex,ok.exfs,ok.funs,ok.frf⟩
theorem Cx.Ok.unwish {X:Cx}{E:Value->Shared->Prop}(ok:(X.wish E).Ok):X.Ok :=
 ⟨ok.mod,ok.kind,ok.glob,ok.blt,ok.above,ok.inj,ok.has,ok.cab,ok.hd,ok.frames,ok.stk,ok.exf,ok.bs,ok.bsz,ok.noex,ok.exfs,ok.funs,ok.frf⟩
section
variable {X:Cx}{pins:List (Addr × Obj)}{σ:St}{H:Hp}{s:Shared}{E:Value->Shared->Prop}
theorem Inv.wish (I:Inv X pins σ H s)(E:Value->Shared->Prop):Inv (X.wish E) pins σ H s:=⟨I.ok.wish E,I.os,I.bare,I.base,I.loc,I.cell,I.free,I.freeC,I.pin,I.hok,I.len⟩
theorem Inv.unwish (I:Inv (X.wish E) pins σ H s):Inv X pins σ H s:=⟨I.ok.unwish,I.os,I.bare,I.base,I.loc,I.cell,I.free,I.freeC,I.pin,I.hok,I.len⟩
theorem SP.unwish {D:Ends}{f:Flow}{s':Shared}(h:SP (X.wish E) pins D f s'):SP X pins D f s':=by
 cases f with
 | next=>obtain ⟨σ',H',I,q⟩:=h; exact ⟨σ',H',I.unwish,q⟩
 | brk=>obtain ⟨σ',H',I,q⟩:=h; exact ⟨σ',H',I.unwish,q⟩
 | cont=>obtain ⟨σ',H',I,q⟩:=h; exact ⟨σ',H',I.unwish,q⟩
 | ret u=>obtain ⟨v,σ',H',I,r,q⟩:=h; exact ⟨v,σ',H',I.unwish,r,q⟩
theorem PSs.nox {st:List Stmt}{t:TS}(h:PSs X.nox st t):PSs X st t:=fun pins s σ H D I hw =>
 wpAny_mono (h pins s σ H D (I.wish _) hw) (fun _ _ q=>q.unwish) fun _ _ z=>False.elim z
end
section
variable {X:Cx}{st:Stmt}{rest:List Stmt}{t u:TS}{e:Expr}{te:TE}{pos:Pos}
def tNext:TS:=fun D σ H=>D.nx σ H
def tSeq (t u:TS):TS:=fun D σ H=>t { D with nx:=u D } σ H
theorem pss_nil:PSs X [] tNext:=fun _ _ σ H _ I h=>wpAny_execs_nil ⟨σ,H,I,h⟩
theorem pss_cons (h1:PS X st t)(h2:PSs X rest u):PSs X (st :: rest) (tSeq t u):=by
 intro pins s σ H D I h
 refine wpAny_execs_cons (thn (h1 pins s σ H { D with nx:=u D } I h) fun f s1 q => ?_)
 cases f with
 | next =>
  obtain ⟨σ',H',I',q⟩:=q
  exact h2 pins s1 σ' H' D I' q
 | ret v=>exact q
 | brk=>exact q
 | cont=>exact q
theorem pss_one (h1:PS X st t):PSs X [st] t:=by
 intro pins s σ H D I h
 refine wpAny_execs_cons (thn (h1 pins s σ H D I h) fun f s1 q => ?_)
 cases f with
 | next=>exact wpAny_execs_nil q
 | ret v=>exact q
 | brk=>exact q
 | cont=>exact q
def tBreak:TS:=fun D σ H=>D.bk σ H
def tCont:TS:=fun D σ H=>D.ct σ H
theorem Inv.quiet {pins:List (Addr × Obj)}{σ:St}{H:Hp}{s:Shared}(I:Inv X pins σ H s):interactive X.env=false:=by simp [interactive,I.ok.kind]
def tDrop (te:TE):TS:=fun D σ H=>te σ H fun _ H1=>D.nx σ H1
theorem ps_expr (he:PE X e te)(hs:swapsWith e none pos.line X.env=pure false:=by rfl):PS X (.Expr e pos) (tDrop te):=by
 intro pins s σ H D I h
 exact wpAny_Expr_any (thn (he pins s σ H _ I h) fun v s1 ⟨x,H1,I1,r1,q1⟩=>⟨σ,H1,I1,q1⟩) I.quiet hs
def tRet (te:TE):TS:=fun D σ H=>te σ H D.rt
theorem ps_ret (he:PE X e te):PS X (.Return (some e) pos) (tRet te):=by
 intro pins s σ H D I h
 exact wpAny_Return_some (thn (he pins s σ H _ I h) fun v s1 ⟨x,H1,I1,r1,q1⟩=>⟨x,σ,H1,I1,r1,q1⟩)
def tRetN:TS:=fun D _ H=>D.rt .non H
def tIfS (c:TT)(t u:TS):TS:=fun D σ H=>c σ H fun b H1=>if b=true then t D σ H1 else u D σ H1
theorem ps_if {c:Expr}{a b:List Stmt}{tc:TT}(hc:PT X c tc)(ha:PSs X a t)(hb:PSs X b u):PS X (.If c a b pos) (tIfS tc t u):=by
 intro pins s σ H D I h
 refine wpAny_If (thn (hc pins s σ H _ I h) fun d s1 ⟨H1,I1,q1⟩ => ?_)
 cases d with
 | true=>exact ha pins s1 σ H1 D I1 q1
 | false=>exact hb pins s1 σ H1 D I1 q1
def tNever:TS:=fun _ _ _=>False
theorem ps_never:PS X st tNever:=fun _ _ _ _ _ _ h=>h.elim
theorem pss_never {sts:List Stmt}:PSs X sts tNever:=fun _ _ _ _ _ _ h=>h.elim
end
abbrev TG:=V->St->Hp->(St->Hp->Prop)->Prop
abbrev TGs:=List V->St->Hp->(St->Hp->Prop)->Prop
def PG (X:Cx)(target:Expr)(t:TG):Prop :=
 ∀ (pins:List (Addr × Obj)) (s:Shared) (σ:St) (H:Hp) (v:V) (u:Value) (Q:St->Hp->Prop),Inv X pins σ H s->RelV v u->t v σ H Q ->
  wpAny (model X.prog X.w) X.A (assign target X.env u) (fun _ s'=>∃ σ' H',Inv X pins σ' H' s'/\Q σ' H') X.xe s
def PGs (X:Cx)(ts:List Expr)(t:TGs):Prop :=
 ∀ (pins:List (Addr × Obj)) (s:Shared) (σ:St) (H:Hp) (vs:List V) (us:List Value) (Q:St->Hp->Prop),Inv X pins σ H s->Vals vs us->t vs σ H Q ->
  wpAny (model X.prog X.w) X.A (assignInOrder ((assignEach ts X.env).map (·.2)) us) (fun _ s'=>∃ σ' H',Inv X pins σ' H' s'/\Q σ' H') X.xe s
abbrev TSet:=V->V->V->Hp->(Hp->Prop)->Prop
def PSet (X:Cx)(t:TSet):Prop :=
 ∀ (pins:List (Addr × Obj)) (s:Shared) (σ:St) (H:Hp) (o i v:V) (ov iv u:Value) (Q:Hp->Prop),Inv X pins σ H s->RelV o ov->RelV i iv->RelV v u->t o i v H Q ->
  wpAny (model X.prog X.w) X.A (setItem ov iv u) (fun _ s'=>∃ H',Inv X pins σ H' s'/\Q H') X.xe s
abbrev TIp:=V->V->Hp->VK->Prop
def PIp (X:Cx)(op:Operator)(t:TIp):Prop :=
 ∀ (pins:List (Addr × Obj)) (s:Shared) (σ:St) (H:Hp) (x y:V) (v u:Value) (Q:VK),Inv X pins σ H s->RelV x v->RelV y u->t x y H Q ->
  wpAny (model X.prog X.w) X.A (inplaceOp op v u) (EP X pins σ Q) X.xe s
section
variable {X:Cx}{pos:Pos}
def gName (i:Nat):TG:=fun v σ H Q=>Q (σ.set i (some v)) H
theorem pg_name {i:Nat}{x:Str}(hN:X.N.Nodup)(hi:X.N[i]?=some x)(hx:Loc X.env.scope x)(hf:X.fn x=true\/X.env.scope.names.lookup x=some .local:=by first | exact .inl rfl | exact .inr rfl | assumption):PG X (.Name x pos) (gName i):=by
 intro pins s σ H v u Q I r h
 exact wpAny_assign_Name (store_ok I hN hi hx r (fun s' I'=>⟨_,H,I',h⟩) hf)
def gNil:TGs:=fun vs σ H Q=>vs=[]/\Q σ H
def gCons (t:TG)(u:TGs):TGs:=fun vs σ H Q=>∃ v r,vs=v :: r/\t v σ H fun σ' H'=>u r σ' H' Q
theorem pgs_nil:PGs X [] gNil:=by
 intro pins s σ H vs us Q I r h
 obtain ⟨e,h⟩:=h
 subst e
 cases r
 exact assignInOrder_nil ⟨σ,H,I,h⟩
theorem pgs_cons {e:Expr}{es:List Expr}{t:TG}{u:TGs}(h1:PG X e t)(h2:PGs X es u)
  (hs:(assignEach (e :: es) X.env).map (·.2)=assign e X.env :: (assignEach es X.env).map (·.2):=by rfl):PGs X (e :: es) (gCons t u):=by
 intro pins s σ H vs us Q I r h
 obtain ⟨v,vr,e1,h⟩:=h
 subst e1
 cases r with
 | cons r rr =>
  rw [hs]
  refine assignInOrder_cons (thn (h1 pins s σ H _ _ _ I r h) fun _ s1 ⟨σ1,H1,I1,q1⟩ => ?_)
  exact h2 pins s1 σ1 H1 _ _ Q I1 rr q1
def gTup (K:PySem.W.Frag)(n:Nat)(t:TGs):TG:=fun v σ H Q=>∃ a xs,v = .ref a/\SqT K H a xs/\xs.length=n/\t xs σ H Q
theorem pg_tup {es:List Expr}{k:Nat}{t:TGs}{n:Nat}(hc:X.calm=true)(h:PGs X es t)
  (hn:(assignEach es X.env).length=n:=by rfl) (hst:(assignEach es X.env).findIdx? (·.1)=none:=by rfl):PG X (.Tuple es k pos) (gTup X.K n t):=by
 intro pins s σ H v u Q I r hw
 obtain ⟨a,xs,e1,hq,hl,hw⟩:=hw
 subst e1
 cases r
 obtain ⟨its,rv,ht,hz⟩:=I.tuple hq
 refine assign_Tuple_tuple (I.ok.hd hc) ht (by simp [hn,<- hl,rv.length]) hst fun h' hx => ?_
 have I1:Inv X pins σ H { s with heap:=h' }:=I.kept (t':=s.toks) fun b o e=>hx b o (Nat.ne_of_lt (Heap.lt_size e)) e
 exact h pins _ σ H xs _ Q I1 (by simpa using rv) hw
def gSub (to ti:TE)(t:TSet):TG:=fun v σ H Q=>to σ H fun o H1=>ti σ H1 fun i H2=>t o i v H2 fun H3=>Q σ H3
def tAsg (te:TE)(g:TG):TS:=fun D σ H=>te σ H fun x H1=>g x σ H1 D.nx
theorem ps_asg {tg e:Expr}{te:TE}{g:TG}(he:PE X e te)(hg:PG X tg g)(hs:swapsWithSole [tg] e pos.line X.env=pure false:=by rfl)(hw:swappedStores [tg] e X.env=pure none:=by rfl)
  (h1:(assignEach [tg] X.env).map (·.2)=[assign tg X.env]:=by rfl):PS X (.Assign [tg] e pos) (tAsg te g):=by
 intro pins s σ H D I h
 refine wpAny_Assign_stores (thn (he pins s σ H _ I h) fun v s1 ⟨x,H1,I1,r1,q1⟩ => ?_) hs hw
 rw [h1]
 exact thn (hg pins s1 σ H1 x v _ I1 r1 q1) fun _ s2 q=>q
theorem ps_set {i:Nat}{x:Str}{e:Expr}{te:TE}{pos':Pos}(hN:X.N.Nodup)(hi:X.N[i]?=some x)(hx:Loc X.env.scope x)(he:PE X e te)(hs:swapsWith e (some (.Name x pos')) pos.line X.env=pure false:=by rfl)(hf:X.fn x=true\/X.env.scope.names.lookup x=some .local:=by first | exact .inl rfl | exact .inr rfl | assumption) :
  PS X (.Assign [.Name x pos'] e pos) (tAsg te (gName i)):=by
 intro pins s σ H D I h
 refine wpAny_Assign_Name (thn (he pins s σ H _ I h) fun v s1 ⟨y,H1,I1,r1,q1⟩ => ?_) hs
 exact store_ok I1 hN hi hx r1 (fun s2 I2=>⟨_,H1,I2,q1⟩) hf
def tPar (i j:Nat)(ta:TA):TS:=fun D σ H=>ta σ H fun vs H1=>∃ v w,vs=[v,w]/\D.nx ((σ.set i (some v)).set j (some w)) H1
def tAug (i:Nat)(te:TE)(ti:TIp):TS:=fun D σ H=>∃ x,σ[i]?=some (some x)/\te σ H fun y H1=>ti x y H1 fun z H2=>D.nx (σ.set i (some z)) H2
def tAugS (to ti te:TE)(tget:V->V->Hp->VK->Prop)(tip:TIp)(tset:TSet):TS:=fun D σ H=>to σ H fun o H1=>ti σ H1 fun i H2=>tget o i H2 fun x H3=>te σ H3 fun y H4=>tip x y H4 fun z H5=>tset o i z H5 fun H6=>D.nx σ H6
def PGet (X:Cx)(t:V->V->Hp->VK->Prop):Prop :=
 ∀ (pins:List (Addr × Obj)) (s:Shared) (σ:St) (H:Hp) (o i:V) (ov iv:Value) (Q:VK),Inv X pins σ H s->RelV o ov->RelV i iv->t o i H Q ->
  wpAny (model X.prog X.w) X.A (getItem ov iv) (EP X pins σ Q) X.xe s
def ipI (f:Int->Int->Int):TIp:=fun x y H Q=>∃ i j,x = .int i/\y = .int j/\Q (.int (f i j)) H
end
section
variable {X:Cx}{pos:Pos}
def tWhile (c:TT)(tb:TS):TS:=fun D σ H=>∃ W:Nat->St->Hp->Prop,(∃ m,W m σ H)/\∀ m σ H,W m σ H ->
 c σ H fun b H1=>if b=true then ∃ N:St->Hp->Prop,(∀ σ' H',N σ' H'->∃ m',m' < m/\W m' σ' H')/\tb { D with nx:=N,ct:=N,bk:=D.nx } σ H1 else D.nx σ H1
theorem ps_while {c:Expr}{body:List Stmt}{tc:TT}{tb:TS}(hp:PassesOwn (model X.prog X.w) X.A X.env X.xe)(hc:PT X c tc)(hb:PSs X body tb):PS X (.While c body [] pos) (tWhile tc tb):=by
 intro pins s σ H D I h
 obtain ⟨W,⟨m0,w0⟩,turn⟩:=h
 refine wpAny_While (codeAny_whileLoop (fun n s'=>∃ σ' H',Inv X pins σ' H' s'/\W n σ' H') ?_ m0 ⟨σ,H,I,w0⟩)
 rintro n s1 ⟨σ1,H1,I1,w1⟩
 refine wpAny_passesOwn hp (thn (hc pins s1 σ1 H1 _ I1 (turn n σ1 H1 w1)) fun b s2 ⟨H2,I2,q2⟩ => ?_)
 cases b with
 | true =>
  obtain ⟨N,hN,q2⟩:=q2
  rw [if_pos rfl]
  refine wpAny_passesOwn hp (thn (hb pins s2 σ1 H2 _ I2 q2) fun f s3 q3 => ?_)
  cases f with
  | next =>
   obtain ⟨σ3,H3,I3,n3⟩:=q3
   obtain ⟨m',hm,w3⟩:=hN σ3 H3 n3
   exact ⟨m',hm,σ3,H3,I3,w3⟩
  | cont =>
   obtain ⟨σ3,H3,I3,n3⟩:=q3
   obtain ⟨m',hm,w3⟩:=hN σ3 H3 n3
   exact ⟨m',hm,σ3,H3,I3,w3⟩
  | brk=>exact q3
  | ret v=>exact q3
 | false =>
  rw [if_neg Bool.false_ne_true]
  exact wpAny_execs_nil ⟨σ1,H2,I2,q2⟩
end
structure It where
 go:Nat->Hp->Prop
 yld:Nat->Hp->V->Hp->Prop
 stop:Nat->Hp->Prop
def FpOk (X:Cx)(pins:List (Addr × Obj))(H:Hp)(b:Addr):Prop :=
 H b=none/\b ≠ X.env.locals/\b ∉ X.fs/\(b ∈ X.ex\/X.s₀.heap.objs.size<=b)/\(∀ x c,X.env.cells.lookup x=some c->c ≠ b)/\∀ p ∈ X.pn ++ pins,p.1 ≠ b
theorem Inv.fpOk {X:Cx}{pins:List (Addr × Obj)}{σ:St}{H H':Hp}{s:Shared}{b:Addr}(I:Inv X pins σ H s)(hb:s.heap.objs.size<=b)(hn:H' b=none):FpOk X pins H' b:=by
 refine ⟨hn,Nat.ne_of_gt (Nat.lt_of_lt_of_le I.lt hb),I.nofs hb,.inr (Nat.le_trans I.sz hb),fun x c e z => ?_,fun p hp z => ?_⟩
 ·obtain ⟨v,q⟩:=I.cell x c e
  exact absurd (Nat.lt_of_lt_of_le q.lt (by rw [z]; exact hb)) (Nat.lt_irrefl _)
 ·exact absurd (Nat.lt_of_lt_of_le (Heap.lt_size (I.pin p hp).1) (by rw [z]; exact hb)) (Nat.lt_irrefl _)
structure Turn (P:Program)(w:World)(K:PySem.W.Frag)(tg:Expr)(J:It)(fp:List Addr)(it:Addr)(tn:Nat->Heap->Prop):Prop where
 mem:it ∈ fp
 obj : ∀ i h,tn i h->∀ b ∈ fp,∃ o,h.get? b=some o/\∀ v,o.data ≠ .cell v
 keep : ∀ i h h',tn i h->(∀ b ∈ fp,∀ o,h.get? b=some o->h'.get? b=some o)->tn i h'
 item : ∀ (X:Cx),X.prog=P->X.w=w->X.K=K->X.calm=true->∀ (i:Nat) (pins:List (Addr × Obj)) (s:Shared) (σ:St) (H:Hp) (E:Value->Shared->Prop),Inv X pins σ H s->(∀ b ∈ fp,FpOk X pins H b)->tn i s.heap->J.go i H ->
  wpAny (model P w) X.A (pyNext (.ref it)) (fun r s1=>∃ u,r=some u /\
   wpAny (model P w) X.A (letOwnedTupleGo tg (.ref it) u) (fun _ s2=>∃ x H',Inv X pins σ H' s2/\RelV x u/\J.yld i H x H'/\tn (i+1) s2.heap/\∀ b ∈ fp,H' b=none) E s1) E s
 done : ∀ (X:Cx),X.prog=P->X.w=w->X.K=K->X.calm=true->∀ (i:Nat) (pins:List (Addr × Obj)) (s:Shared) (σ:St) (H:Hp) (E:Value->Shared->Prop),Inv X pins σ H s->(∀ b ∈ fp,FpOk X pins H b)->tn i s.heap->J.stop i H ->
  wpAny (model P w) X.A (pyNext (.ref it)) (fun r s1=>r=none/\Inv X pins σ H s1) E s
 self : ∀ (A:Around) (i:Nat) (s:Shared) (Q:Value->Shared->Prop) (E:Value->Shared->Prop),tn i s.heap->Q (.ref it) s->wpAny (model P w) A (pyIter (.ref it)) Q E s
abbrev TI:=St->Hp->(It->Hp->Prop)->Prop
def PIE (X:Cx)(pins:List (Addr × Obj))(σ:St)(tg:Expr)(R:It->Hp->Prop)(itv:Value)(s2:Shared):Prop :=
 ∃ (it:Addr) (fp:List Addr) (tn:Nat->Heap->Prop) (J:It) (H':Hp),itv = .ref it/\Inv X pins σ H' s2/\Turn X.prog X.w X.K tg J fp it tn/\tn 0 s2.heap/\(∀ b ∈ fp,FpOk X pins H' b)/\R J H'
def PI (X:Cx)(tg iter:Expr)(wi:TI):Prop :=
 ∀ (pins:List (Addr × Obj)) (s:Shared) (σ:St) (H:Hp) (R:It->Hp->Prop),Inv X pins σ H s->wi σ H R ->
  wpAny (model X.prog X.w) X.A (eval iter X.env) (fun v s1=>wpAny (model X.prog X.w) X.A (pyIter v) (PIE X pins σ tg R) X.xe s1) X.xe s
theorem go_of {M:Model}{A:Around}{E:Value->Shared->Prop}{s:Shared}{tg:Expr}{it:Addr}{u:Value}{o:Obj}{n:String}{vs:Array Value}{Q:Unit->Shared->Prop}(ho:s.heap.get? it=some o)(hc:o.cls = .type n)(hd:o.data = .fields vs)
    (hn:["enumerate","zip","dict_itemiterator","dict_reverseitemiterator","odict_iterator","itertools.zip_longest","itertools.pairwise"].contains n=false) (hQ:Q () s):wpAny M A (letOwnedTupleGo tg (.ref it) u) Q E s:=by
  unfold letOwnedTupleGo
  cases tg <;> first
    | exact wpAny_pure hQ
    | (cases u <;> first
        | exact wpAny_pure hQ
        | (refine wpAny_bind (wpAny_load ho ?_)
           rw [hc,hd]
           show wpAny M A (if (["enumerate","zip","dict_itemiterator","dict_reverseitemiterator","odict_iterator","itertools.zip_longest","itertools.pairwise"].contains n && vs[0]? == some (rawInt _))=true then _ else _) Q E s
           rw [if_neg (by intro h; rw [hn,Bool.false_and] at h; cases h)]
           exact wpAny_pure hQ))
def Itl (K:PySem.W.Frag)(a:Addr):It :=
 ⟨fun i H=>∃ xs x,SqL K H a xs/\xs[i]?=some x,fun i H x H'=>H'=H/\∀ xs,SqL K H a xs->xs[i]?=some x,fun i H=>∃ xs,SqL K H a xs/\xs.length<=i⟩
def Itt (K:PySem.W.Frag)(a:Addr):It :=
 ⟨fun i H=>∃ xs x,SqT K H a xs/\xs[i]?=some x,fun i H x H'=>H'=H/\∀ xs,SqT K H a xs->xs[i]?=some x,fun i H=>∃ xs,SqT K H a xs/\xs.length<=i⟩
def Itr (lo:Int)(n:Nat):It:=⟨fun i _=>i < n,fun i H x H'=>H'=H/\x = .int (lo+i),fun i _=>n<=i⟩
theorem turn_list {P:Program}{w:World}{K:PySem.W.Frag}{tg:Expr}(a it:Addr):Turn P w K tg (Itl K a) [it] it (fun i h=>h.IsListIter it a i) where
 mem:=by simp
 obj:=fun i h st b hb=>by
  have e:b=it:=by simpa using hb
  subst e
  obtain ⟨o,e,c,d⟩:=st
  exact ⟨o,e,fun v z=>by rw [d] at z; cases z⟩
 keep:=fun i h h' st k=>st.at fun o e=>k it (by simp) o e
 item:=by
  intro X hP hw hK hc i pins s σ H E I hf st hg
  subst hP hw hK
  obtain ⟨xs,x,hq,hx⟩:=hg
  obtain ⟨its,rv,p,hz⟩:=I.list hq
  obtain ⟨u,hu,ru⟩:=rv.get hx
  obtain ⟨f0,f1,f2,f3,f4,f5⟩:=hf it (by simp)
  refine wpAny_pyNext_list_item st p.isList (x:=u) (by simpa using hu) fun h' st' sb => ?_
  have I1:Inv X pins σ H { s with heap:=h' }:=I.turned (t':=s.toks) (fun b o hb e=>(sb.2 b hb).trans e) f0 f1 f3 f4 f5
  obtain ⟨o,e,c,d⟩:=id st'
  exact ⟨u,rfl,go_of (s:={ s with heap:=h' }) e c d (by decide) ⟨x,H,I1,ru,⟨rfl,fun ys hy=>by rw [I.list_inj hy hq]; exact hx⟩,st',fun b hb=>(hf b hb).1⟩⟩
 done:=by
  intro X hP hw hK hc i pins s σ H E I hf st hg
  subst hP hw hK
  obtain ⟨xs,hq,hx⟩:=hg
  obtain ⟨its,rv,p,hz⟩:=I.list hq
  obtain ⟨f0,f1,f2,f3,f4,f5⟩:=hf it (by simp)
  have hl:=rv.length
  exact wpAny_pyNext_list_end (I.ok.hd hc) st p.isList (by simp; omega) fun h' eb=>⟨rfl,I.turned (t':=s.toks) (fun b o hb e=>eb b o hb e) f0 f1 f3 f4 f5⟩
 self:=fun _ _ _ _ _ st h=>wpAny_pyIter_listiter st h
theorem turn_range {P:Program}{w:World}{K:PySem.W.Frag}{tg:Expr}(it:Addr)(lo:Int)(n:Nat):Turn P w K tg (Itr lo n) [it] it (fun i h=>IsRangeIter h it (lo+(i:Nat)*1) ((n:Int) - (i:Nat)) 1) where
 mem:=by simp
 obj:=fun i h st b hb=>by
  have e:b=it:=by simpa using hb
  subst e
  exact ⟨_,st,fun v z=>by
   have z':Data.fields _=Data.cell v:=z
   cases z'⟩
 keep:=fun i h h' st k=>k it (by simp) _ st
 item:=by
  intro X hP hw hK hc i pins s σ H E I hf st hg
  subst hP hw hK
  obtain ⟨f0,f1,f2,f3,f4,f5⟩:=hf it (by simp)
  have W:=Walks.range (prog:=X.prog) (w:=X.w) (I.ok.hd hc) it lo 1 n
  refine W.item i s _ _ hg st fun v h' tk hv st' kk => ?_
  obtain ⟨t,rfl⟩:=hv
  have I1:Inv X pins σ H { s with heap:=h',toks:=tk }:=I.turned (fun b o hb e=>kk b o (by simpa using hb) e) f0 f1 f3 f4 f5
  refine ⟨_,rfl,go_of (s:={ s with heap:=h',toks:=tk }) (n := "range_iterator") st' rfl rfl (by decide) ⟨.int (lo+i),H,I1,⟨t,?_⟩,⟨rfl,rfl⟩,st',fun b hb=>(hf b hb).1⟩⟩
  rw [Int.mul_one]
 done:=by
  intro X hP hw hK hc i pins s σ H E I hf st hg
  subst hP hw hK
  obtain ⟨f0,f1,f2,f3,f4,f5⟩:=hf it (by simp)
  exact wpAny_pyNext_range_end (I.ok.hd hc) st (by have:n<=i:=hg; omega) fun h' eb=>⟨rfl,I.turned (t':=s.toks) (fun b o hb e=>eb b o hb e) f0 f1 f3 f4 f5⟩
 self:=fun _ _ _ _ _ st h=>wpAny_pyIter_rangeiter st h
end L2
namespace L2
open PySem PySem.Spec PyProof.Rows
section
variable {X:Cx}{tg:Expr}
def iList (K:PySem.W.Frag)(tl:TE):TI:=fun σ H R=>tl σ H fun x H1=>∃ a,x = .ref a/\(∃ xs,SqL K H1 a xs)/\R (Itl K a) H1
def iTup (K:PySem.W.Frag)(tl:TE):TI:=fun σ H R=>tl σ H fun x H1=>∃ a,x = .ref a/\(∃ xs,SqT K H1 a xs)/\R (Itt K a) H1
theorem pi_list {l:Expr}{tl:TE}(hl:PE X l tl):PI X tg l (iList X.K tl):=by
 intro pins s σ H R I h
 refine thn (hl pins s σ H _ I h) fun v s1 ⟨x,H1,I1,r1,q1⟩ => ?_
 obtain ⟨a,e,⟨xs,hq⟩,q⟩:=q1
 subst e
 cases r1
 obtain ⟨its,rv,p,hz⟩:=I1.list hq
 refine wpAny_pyIter_list p.isList ?_
 refine ⟨s1.heap.objs.size,[s1.heap.objs.size],_,_,H1,rfl,I1.kept (t':=s1.toks) fun b o e=>Heap.get?_push_of_some _ e,turn_list a _,⟨_,Heap.get?_push_size _ rfl,rfl,rfl⟩,fun b hb => ?_,q⟩
 have e:b=s1.heap.objs.size:=by simpa using hb
 subst e
 exact I1.fpOk (Nat.le_refl _) (I1.hok.fresh (Nat.le_refl _))
theorem range_it {pins:List (Addr × Obj)}{σ:St}{H:Hp}{s:Shared}{R:It->Hp->Prop}{E:Value->Shared->Prop}{lo hi:Int}{t u v:Tok}{tk:Nat}(I:Inv X pins σ H s)(h1 : -(2 ^ 62)<=lo)(h2:lo < 2 ^ 62)(h3 : -(2 ^ 62)<=hi)(h4:hi < 2 ^ 62)
  (q:R (Itr lo (hi - lo).toNat) H):wpAny (model X.prog X.w) X.A (pyIter (.ref s.heap.objs.size)) (PIE X pins σ tg R) E { s with heap:=s.heap.push { cls:=.type "range",data:=.fields #[.int lo t,.int hi u,.int 1 v] },toks:=tk }:=by
 refine wpAny_pyIter_range (IsRange.new ..) (small_one h1 h2 h3 h4) ?_
 have I1:Inv X pins σ H { s with heap:=s.heap.push { cls:=.type "range",data:=.fields #[.int lo t,.int hi u,.int 1 v] },toks:=tk }:=I.kept fun b o e=>Heap.get?_push_of_some _ e
 refine ⟨(s.heap.push { cls:=.type "range",data:=.fields #[.int lo t,.int hi u,.int 1 v] }).objs.size,[(s.heap.push { cls:=.type "range",data:=.fields #[.int lo t,.int hi u,.int 1 v] }).objs.size],_,_,H,rfl,
  I1.kept (t':=tk) fun b o e=>Heap.get?_push_of_some _ e,turn_range _ lo (hi - lo).toNat,?_,fun b hb => ?_,q⟩
 ·have e1:lo+((0:Nat):Int)*1=lo:=by simp
  have e2:(((hi - lo).toNat:Nat):Int) - ((0:Nat):Int)=Builtin.Range.rangeSize lo hi 1:=by rw [rangeSize_one]; split <;> omega
  show IsRangeIter _ _ (lo+((0:Nat):Int)*1) ((((hi - lo).toNat:Nat):Int) - ((0:Nat):Int)) 1
  rw [e1,e2]
  exact Heap.get?_push_size _ rfl
 ·have e:b=(s.heap.push { cls:=.type "range",data:=.fields #[.int lo t,.int hi u,.int 1 v] }).objs.size:=by simpa using hb
  subst e
  exact I1.fpOk (Nat.le_refl _) (I1.hok.fresh (Nat.le_refl _))
def iRng1 (ta:TA):TI:=fun σ H R=>ta σ H fun vs H1=>∃ j:Int,vs=[.int j] /\ -(2 ^ 62)<=j/\j < 2 ^ 62/\R (Itr 0 j.toNat) H1
def iRng2 (ta:TA):TI:=fun σ H R=>ta σ H fun vs H1=>∃ i j:Int,vs=[.int i,.int j]/\(-(2 ^ 62)<=i/\i < 2 ^ 62 /\ -(2 ^ 62)<=j/\j < 2 ^ 62)/\R (Itr i (j - i).toNat) H1
theorem pi_range1 {a:Expr}{ta:TA}{p pos:Pos}(hg:Gl X "range")(hm:X.mg "range" = none)(ha:PA X [a] ta)(hs:starEach [a] X.env=[(false,eval a X.env)]:=by rfl):PI X tg (.Call (.Name "range" p) [a] [] pos) (iRng1 ta):=by
 intro pins s σ H R I h
 refine Call_ (ld_blt I hg hm boot_range (PyProof.Rows.callWith_type1 (thn (ha pos pins s σ H _ I h) fun us s1 ⟨vs,H1,I1,r1,q1⟩ => ?_) hs rfl))
 obtain ⟨j,e,q1,q2,q⟩:=q1
 subst e
 cases r1 with
 | cons r rr =>
  cases rr
  obtain ⟨t,rfl⟩:=r
  exact call_range_1 (range_it I1 (by omega) (by omega) q1 q2 (by simpa using q))
theorem pi_range2 {a b:Expr}{ta:TA}{p pos:Pos}(hg:Gl X "range")(hm:X.mg "range" = none)(ha:PA X [a,b] ta)(hs:starEach [a,b] X.env=[(false,eval a X.env),(false,eval b X.env)]:=by rfl)(hs2:starEach [b] X.env=[(false,eval b X.env)]:=by rfl) :
  PI X tg (.Call (.Name "range" p) [a,b] [] pos) (iRng2 ta):=by
 intro pins s σ H R I h
 refine Call_ (ld_blt I hg hm boot_range (PyProof.Rows.callWith_type1 (thn (ha pos pins s σ H _ I h) fun us s1 ⟨vs,H1,I1,r1,q1⟩ => ?_) (by rw [hs,hs2]) (by rw [hs2]; rfl)))
 obtain ⟨i,j,e,⟨q1,q2,q3,q4⟩,q⟩:=q1
 subst e
 cases r1 with
 | cons r rr =>
  cases rr with
  | cons r' rr =>
   cases rr
   obtain ⟨t,rfl⟩:=r
   obtain ⟨t',rfl⟩:=r'
   exact call_range_2 (range_it I1 q1 q2 q3 q4 q)
def tFor (wi:TI)(g:TG)(tb:TS):TS:=fun D σ H=>wi σ H fun J H1=>∃ W:Nat->Nat->St->Hp->Prop,(∃ m,W 0 m σ H1)/\∀ i m σ H,W i m σ H ->
 (J.stop i H/\D.nx σ H)\/(J.go i H/\∃ N:St->Hp->Prop,(∀ σ' H',N σ' H'->∃ m',m' < m/\W (i+1) m' σ' H')/\∀ x H',J.yld i H x H'->g x σ H' fun σ2 H2=>tb { D with nx:=N,ct:=N,bk:=D.nx } σ2 H2)
def pinsAt (fp:List Addr)(h:Heap):List (Addr × Obj):=fp.filterMap fun b=>(h.get? b).map fun o=>(b,o)
theorem mem_pinsAt {fp:List Addr}{h:Heap}{b:Addr}{o:Obj}(hb:b ∈ fp)(e:h.get? b=some o):(b,o) ∈ pinsAt fp h:=List.mem_filterMap.mpr ⟨b,hb,by rw [e]; rfl⟩
theorem of_pinsAt {fp:List Addr}{h:Heap}{p:Addr × Obj}(hp:p ∈ pinsAt fp h):p.1 ∈ fp/\h.get? p.1=some p.2:=by
 obtain ⟨b,hb,e⟩:=List.mem_filterMap.mp hp
 cases q:h.get? b with
 | none=>rw [q] at e; cases e
 | some o =>
  rw [q] at e
  have e':(b,o)=p:=Option.some.inj e
  subst e'
  exact ⟨hb,q⟩
theorem Inv.pinned {pins:List (Addr × Obj)}{σ:St}{H:Hp}{s:Shared}{fp:List Addr}(I:Inv X pins σ H s)(hf : ∀ b ∈ fp,FpOk X pins H b)(ho : ∀ b ∈ fp,∃ o,s.heap.get? b=some o/\∀ v,o.data ≠ .cell v):Inv X (pins ++ pinsAt fp s.heap) σ H s :=
 I.pins_of fun p hp=>(List.mem_append.mp hp).elim (fun z=>I.pin p (List.mem_append_right _ z)) fun z=>by
  obtain ⟨hb,e⟩:=of_pinsAt z
  obtain ⟨f0,f1,f2,_⟩:=hf p.1 hb
  obtain ⟨o,e',d⟩:=ho p.1 hb
  rw [e] at e'; cases e'
  exact ⟨e,f0,f1,f2,d⟩
theorem Inv.unpinned {pins pl:List (Addr × Obj)}{σ:St}{H:Hp}{s:Shared}(I:Inv X (pins ++ pl) σ H s):Inv X pins σ H s:=I.pins_of fun p hp=>I.pin p (List.mem_append_right _ (List.mem_append_left _ hp))
theorem ps_for {iter:Expr}{body:List Stmt}{wi:TI}{g:TG}{tb:TS}{pos:Pos}(hp:PassesOwn (model X.prog X.w) X.A X.env X.xe)(hc:X.calm=true)(hi:PI X tg iter wi)(hg:PG X tg g)(hb:PSs X body tb)
  (hs : ∀ x,foldedSetIterable iter X.env x=pure x:=by intro _; rfl):PS X (.For tg iter body [] pos) (tFor wi g tb):=by
 intro pins s σ H D I h
 refine wpAny_For (thn (hi pins s σ H _ I h) fun v s1 h1=>thn h1 fun itv s2 h2 => ?_) hs
 obtain ⟨it,fp,tn,J,H2,e,I2,T,st2,f2,W,⟨m0,w0⟩,turn⟩:=h2
 subst e
 have stat : ∀ {H':Hp},(∀ b ∈ fp,H' b=none)->∀ b ∈ fp,FpOk X pins H' b:=fun hn b hb=>⟨hn b hb,(f2 b hb).2⟩
 refine codeAny_forLoop_any (fun n s'=>∃ i σ' H',Inv X pins σ' H' s'/\tn i s'.heap/\(∀ b ∈ fp,H' b=none)/\W i n σ' H') ?_ m0 ⟨0,σ,H2,I2,st2,fun b hb=>(f2 b hb).1,w0⟩
 rintro n s3 ⟨i,σ3,H3,I3,st3,fr3,w3⟩
 rcases turn i n σ3 H3 w3 with ⟨stop,qn⟩ | ⟨go,N,hN,step⟩
 ·refine wpAny_passesOwn hp (thn (T.done X rfl rfl rfl hc i pins s3 σ3 H3 X.xe I3 (stat fr3) st3 stop) fun r s4 ⟨hr,I4⟩ => ?_)
  subst hr
  exact wpAny_execs_nil ⟨σ3,H3,I4,qn⟩
 ·refine wpAny_passesOwn hp (thn (T.item X rfl rfl rfl hc i pins s3 σ3 H3 X.xe I3 (stat fr3) st3 go) fun r s4 ⟨u,hr,h4⟩ => ?_)
  subst hr
  refine wpAny_passesOwn hp (thn h4 fun _ s5 ⟨x,H5,I5,r5,y5,st5,fr5⟩ => ?_)
  have I5':=I5.pinned (stat fr5) (T.obj _ _ st5)
  refine wpAny_passesOwn hp (thn (hg _ s5 σ3 H5 x u _ I5' r5 (step x H5 y5)) fun _ s6 ⟨σ6,H6,I6,q6⟩ => ?_)
  refine wpAny_passesOwn hp (thn (hb _ s6 σ6 H6 _ I6 q6) fun f s7 q7 => ?_)
  have again : ∀ {σ7:St} {H7:Hp},Inv X (pins ++ pinsAt fp s5.heap) σ7 H7 s7->N σ7 H7->∃ m,m < n/\∃ i σ' H',Inv X pins σ' H' s7/\tn i s7.heap/\(∀ b ∈ fp,H' b=none)/\W i m σ' H':=fun {σ7 H7} I7 n7=>by
   obtain ⟨m',hm,w7⟩:=hN σ7 H7 n7
   refine ⟨m',hm,i+1,σ7,H7,I7.unpinned,T.keep _ _ _ st5 fun b hb o e=>(I7.pin (b,o) (List.mem_append_right _ (List.mem_append_right _ (mem_pinsAt hb e)))).1,fun b hb => ?_,w7⟩
   obtain ⟨o,e,d⟩:=T.obj _ _ st5 b hb
   exact (I7.pin (b,o) (List.mem_append_right _ (List.mem_append_right _ (mem_pinsAt hb e)))).2.1
  cases f with
  | next=>obtain ⟨σ7,H7,I7,n7⟩:=q7; exact again I7 n7
  | cont=>obtain ⟨σ7,H7,I7,n7⟩:=q7; exact again I7 n7
  | brk=>obtain ⟨σ7,H7,I7,q7⟩:=q7; exact ⟨σ7,H7,I7.unpinned,q7⟩
  | ret v=>obtain ⟨x7,σ7,H7,I7,r7,q7⟩:=q7; exact ⟨x7,σ7,H7,I7.unpinned,r7,q7⟩
end
theorem for_list {K:PySem.W.Frag}{a:Addr}{xs:List V}{g:TG}{tb:TS}{D:Ends}{σ:St}{H:Hp}(Pv:Nat->St->Hp->Prop)(h0:Pv 0 σ H)(hl : ∀ i σ H,i<=xs.length->Pv i σ H->SqL K H a xs)
  (hs : ∀ i x σ H,xs[i]?=some x->Pv i σ H->g x σ H fun σ2 H2=>tb { D with nx:=Pv (i+1),ct:=Pv (i+1),bk:=D.nx } σ2 H2) (hd : ∀ σ H,Pv xs.length σ H->D.nx σ H) :
  ∃ W:Nat->Nat->St->Hp->Prop,(∃ m,W 0 m σ H)/\∀ i m σ H,W i m σ H ->
   ((Itl K a).stop i H/\D.nx σ H)\/((Itl K a).go i H/\∃ N:St->Hp->Prop,(∀ σ' H',N σ' H'->∃ m',m' < m/\W (i+1) m' σ' H')/\∀ x H',(Itl K a).yld i H x H'->g x σ H' fun σ2 H2=>tb { D with nx:=N,ct:=N,bk:=D.nx } σ2 H2):=by
 refine ⟨fun i m σ H=>m=xs.length - i/\i<=xs.length/\Pv i σ H,⟨xs.length,by simp,Nat.zero_le _,h0⟩,?_⟩
 rintro i m σ H ⟨rfl,hi,p⟩
 have q:=hl i σ H hi p
 by_cases hlt:i < xs.length
 ·refine .inr ⟨⟨xs,xs[i],q,by simp [hlt]⟩,Pv (i+1),fun σ' H' p'=>⟨xs.length - (i+1),by omega,rfl,hlt,p'⟩,fun x H' y => ?_⟩
  obtain ⟨e,y⟩:=y
  subst e
  exact hs i x σ _ (y xs q) p
 ·have e:i=xs.length:=by omega
  subst e
  exact .inl ⟨⟨xs,q,Nat.le_refl _⟩,hd σ H p⟩
theorem for_range {lo:Int}{n:Nat}{g:TG}{tb:TS}{D:Ends}{σ:St}{H:Hp}(Pv:Nat->St->Hp->Prop)(h0:Pv 0 σ H)
  (hs : ∀ i σ H,i < n->Pv i σ H->g (.int (lo+i)) σ H fun σ2 H2=>tb { D with nx:=Pv (i+1),ct:=Pv (i+1),bk:=D.nx } σ2 H2) (hd : ∀ σ H,Pv n σ H->D.nx σ H) :
  ∃ W:Nat->Nat->St->Hp->Prop,(∃ m,W 0 m σ H)/\∀ i m σ H,W i m σ H ->
   ((Itr lo n).stop i H/\D.nx σ H)\/((Itr lo n).go i H/\∃ N:St->Hp->Prop,(∀ σ' H',N σ' H'->∃ m',m' < m/\W (i+1) m' σ' H')/\∀ x H',(Itr lo n).yld i H x H'->g x σ H' fun σ2 H2=>tb { D with nx:=N,ct:=N,bk:=D.nx } σ2 H2):=by
 refine ⟨fun i m σ H=>m=n - i/\i<=n/\Pv i σ H,⟨n,by simp,Nat.zero_le _,h0⟩,?_⟩
 rintro i m σ H ⟨rfl,hi,p⟩
 by_cases hlt:i < n
 ·refine .inr ⟨hlt,Pv (i+1),fun σ' H' p'=>⟨n - (i+1),by omega,rfl,hlt,p'⟩,fun x H' y => ?_⟩
  obtain ⟨e,y⟩:=y
  subst e y
  exact hs i σ _ hlt p
 ·have e:i=n:=by omega
  subst e
  exact .inl ⟨Nat.le_refl _,hd σ H p⟩
theorem while_by {c:TT}{tb:TS}{D:Ends}{σ:St}{H:Hp}(Pv:St->Hp->Prop)(μ:St->Hp->Nat)(h0:Pv σ H)
  (hs : ∀ σ H,Pv σ H->c σ H fun b H1=>if b=true then tb { D with nx:=fun σ' H'=>Pv σ' H'/\μ σ' H' < μ σ H,ct:=fun σ' H'=>Pv σ' H'/\μ σ' H' < μ σ H,bk:=D.nx } σ H1 else D.nx σ H1)
  (mono : ∀ σ H Q Q',(∀ b H1,Q b H1->Q' b H1)->c σ H Q->c σ H Q'):tWhile c tb D σ H:=by
 refine ⟨fun m σ H=>m=μ σ H/\Pv σ H,⟨_,rfl,h0⟩,?_⟩
 rintro m σ H ⟨rfl,p⟩
 refine mono σ H _ _ (fun b H1 q => ?_) (hs σ H p)
 cases b with
 | true=>exact ⟨_,fun σ' H' ⟨p',l⟩=>⟨_,l,rfl,p'⟩,q⟩
 | false=>exact q
end L2
namespace L2
open PySem PySem.Spec PyProof.Rows
abbrev R2:=V->V->Hp->VK->Prop
def OpR (X:Cx)(f:Value->Value->Sem Value)(r:R2):Prop :=
 ∀ (pins:List (Addr × Obj)) (s:Shared) (σ:St) (H:Hp) (x y:V) (v u:Value) (Q:VK),Inv X pins σ H s->RelV x v->RelV y u->r x y H Q ->
  wpAny (model X.prog X.w) X.A (f v u) (EP X pins σ Q) X.xe s
def UnR (X:Cx)(f:Value->Sem Value)(r:V->Hp->VK->Prop):Prop :=
 ∀ (pins:List (Addr × Obj)) (s:Shared) (σ:St) (H:Hp) (x:V) (v:Value) (Q:VK),Inv X pins σ H s->RelV x v->r x H Q ->
  wpAny (model X.prog X.w) X.A (f v) (EP X pins σ Q) X.xe s
def CallR (X:Cx)(f:Value)(r:List V->Hp->VK->Prop):Prop :=
 ∀ (pins:List (Addr × Obj)) (s:Shared) (σ:St) (H:Hp) (xs:List V) (us:List Value) (Q:VK),Inv X pins σ H s->Vals xs us->r xs H Q ->
  wpAny (model X.prog X.w) X.A (call f us) (EP X pins σ Q) X.xe s
def TruR (X:Cx)(r:V->Hp->(Bool->Hp->Prop)->Prop):Prop :=
 ∀ (pins:List (Addr × Obj)) (s:Shared) (σ:St) (H:Hp) (x:V) (v:Value) (Q:Bool->Hp->Prop),Inv X pins σ H s->RelV x v->r x H Q ->
  wpAny (model X.prog X.w) X.A (truthy v) (TP X pins σ Q) X.xe s
def tOp (r:R2)(ta tb:TE):TE:=fun σ H Q=>ta σ H fun x H1=>tb σ H1 fun y H2=>r x y H2 Q
def tUn (r:V->Hp->VK->Prop)(ta:TE):TE:=fun σ H Q=>ta σ H fun x H1=>r x H1 Q
def rI (C:Int->Int->Prop)(g:Int->Int->V):R2:=fun x y H Q=>∃ i j,x = .int i/\y = .int j/\C i j/\Q (g i j) H
def rI0 (g:Int->Int->V):R2:=fun x y H Q=>∃ i j,x = .int i/\y = .int j/\Q (g i j) H
def rU (g:Int->V):V->Hp->VK->Prop:=fun x H Q=>∃ i,x = .int i/\Q (g i) H
section
variable {X:Cx}{a b c:Expr}{ta tb tc:TE}{pos:Pos}
theorem binT (ha:PE X a ta)(hb:PE X b tb){pins:List (Addr × Obj)}{s:Shared}{σ:St}{H:Hp}{R:V->V->Hp->Prop}(I:Inv X pins σ H s)
  (h:ta σ H fun x H1=>tb σ H1 fun y H2=>R x y H2) {Q:Value->Shared->Prop} {f:Value->Value->Sem Value}
  (hf : ∀ v u s2 x y H2,Inv X pins σ H2 s2->RelV x v->RelV y u->R x y H2->wpAny (model X.prog X.w) X.A (f v u) Q X.xe s2) :
  wpAny (model X.prog X.w) X.A (eval a X.env) (fun v s₁=>wpAny (model X.prog X.w) X.A (eval b X.env) (fun u s₂=>wpAny (model X.prog X.w) X.A (f v u) Q X.xe s₂) X.xe s₁) X.xe s:=by
 refine thn (ha pins s σ H _ I h) fun v s1 ⟨x,H1,I1,r1,q1⟩ => ?_
 refine thn (hb pins s1 σ H1 _ I1 q1) fun u s2 ⟨y,H2,I2,r2,q2⟩ => ?_
 exact hf v u s2 x y H2 I2 r1 r2 q2
theorem pe_op {op:Operator}{r:R2}(ho:OpR X (binaryOp op) r)(ha:PE X a ta)(hb:PE X b tb):PE X (.BinOp a op b pos) (tOp r ta tb):=by
 intro pins s σ H Q I h
 exact wpAny_BinOp (binT ha hb I h fun v u s2 x y H2 I2 rx ry q=>ho pins s2 σ H2 x y v u Q I2 rx ry q)
theorem pe_un {op:UnaryOp}{r:V->Hp->VK->Prop}(ho:UnR X (unaryOp op) r)(ha:PE X a ta):PE X (.UnaryOp op a pos) (tUn r ta):=by
 intro pins s σ H Q I h
 exact UnaryOp_ (thn (ha pins s σ H _ I h) fun v s1 ⟨x,H1,I1,r1,q1⟩=>ho pins s1 σ H1 x v Q I1 r1 q1)
theorem opI {f:Value->Value->Sem Value}{C:Int->Int->Prop}{g:Int->Int->Int}
  (rule : ∀ (i j:Int) (t u:Tok) (s:Shared) (Q:Value->Shared->Prop) (E:Value->Shared->Prop),C i j->Q (.int (g i j) s.toks) { s with toks:=s.toks+1 }->wpAny (model X.prog X.w) X.A (f (.int i t) (.int j u)) Q E s) :
  OpR X f (rI C fun i j=>.int (g i j)):=by
 intro pins s σ H x y v u Q I rx ry h
 obtain ⟨i,j,rfl,rfl,hc,q⟩:=h
 obtain ⟨t,rfl⟩:=rx
 obtain ⟨t',rfl⟩:=ry
 exact rule i j t t' s _ _ hc ⟨.int (g i j),H,I.tok _,⟨_,rfl⟩,q⟩
theorem opI0 {f:Value->Value->Sem Value}{g:Int->Int->Int}
  (rule : ∀ (i j:Int) (t u:Tok) (s:Shared) (Q:Value->Shared->Prop) (E:Value->Shared->Prop),Q (.int (g i j) s.toks) { s with toks:=s.toks+1 }->wpAny (model X.prog X.w) X.A (f (.int i t) (.int j u)) Q E s) :
  OpR X f (rI0 fun i j=>.int (g i j)):=by
 intro pins s σ H x y v u Q I rx ry h
 obtain ⟨i,j,rfl,rfl,q⟩:=h
 obtain ⟨t,rfl⟩:=rx
 obtain ⟨t',rfl⟩:=ry
 exact rule i j t t' s _ _ ⟨.int (g i j),H,I.tok _,⟨_,rfl⟩,q⟩
theorem opB0 {f:Value->Value->Sem Value}{g:Int->Int->Bool}
  (rule : ∀ (i j:Int) (t u:Tok) (s:Shared) (Q:Value->Shared->Prop) (E:Value->Shared->Prop),Q (.bool (g i j)) s->wpAny (model X.prog X.w) X.A (f (.int i t) (.int j u)) Q E s) :
  OpR X f (rI0 fun i j=>.bl (g i j)):=by
 intro pins s σ H x y v u Q I rx ry h
 obtain ⟨i,j,rfl,rfl,q⟩:=h
 obtain ⟨t,rfl⟩:=rx
 obtain ⟨t',rfl⟩:=ry
 exact rule i j t t' s _ _ ⟨.bl (g i j),H,I,rfl,q⟩
def CDiv (i j:Int):Prop:=0 < j/\j < 1073741824
def CDivN (i j:Int):Prop:=j ≠ 0/\j.natAbs < 1073741824
def CPow (i j:Int):Prop:=0<=j/\j<=1000000/\i.natAbs < 2 ^ 64
def CMul (i j:Int):Prop:=(-(2 ^ 64) < i/\i < 2 ^ 64)\/(-(2 ^ 64) < j/\j < 2 ^ 64)
theorem op_add:OpR X (binaryOp .Add) (rI0 fun i j=>.int (i+j)):=opI0 fun _ _ _ _ _ _ _ q=>add_int q
theorem op_sub:OpR X (binaryOp .Sub) (rI0 fun i j=>.int (i - j)):=opI0 fun _ _ _ _ _ _ _ q=>sub_int q
theorem op_mod:OpR X (binaryOp .Mod) (rI (fun _ j=>0 < j) fun i j=>.int (i % j)):=opI fun i j _ _ _ _ _ hc q=>by
 have h1:(0:Int) < j:=hc
 exact mod_int' (by omega) (by rw [Int.fmod_eq_emod_of_nonneg i (by omega)]; exact q)
theorem unI {f:Value->Sem Value}{g:Int->Int}
  (rule : ∀ (i:Int) (t:Tok) (s:Shared) (Q:Value->Shared->Prop) (E:Value->Shared->Prop),Q (.int (g i) s.toks) { s with toks:=s.toks+1 }->wpAny (model X.prog X.w) X.A (f (.int i t)) Q E s) :
  UnR X f (rU fun i=>.int (g i)):=by
 intro pins s σ H x v Q I rx h
 obtain ⟨i,rfl,q⟩:=h
 obtain ⟨t,rfl⟩:=rx
 exact rule i t s _ _ ⟨.int (g i),H,I.tok _,⟨_,rfl⟩,q⟩
theorem un_neg:UnR X (unaryOp .USub) (rU fun i=>.int (-i)):=unI fun _ _ _ _ _ q=>neg_int q
end
def scal:V->V->Bool
 | .non,.non=>true | .non,.int _=>true | .int _,.non=>true | .non,.bl _=>true | .bl _,.non=>true | .non,.str _=>true | .str _,.non=>true
 | .int _,.int _=>true | .bl _,.bl _=>true | .str _,.str _=>true | .byt _,.byt _=>true
 | .int _,.str _=>true | .str _,.int _=>true | .bl _,.str _=>true | .str _,.bl _=>true
 | _,_=>false
def rEq:R2:=fun x y H Q=>scal x y=true/\Q (.bl (decide (x=y))) H
def rNe:R2:=fun x y H Q=>scal x y=true/\Q (.bl (!decide (x=y))) H
theorem dec_int {i j:Int}:decide (V.int i=V.int j)=(i == j):=by
 rw [Bool.eq_iff_iff]
 simp
theorem dec_bl {i j:Bool}:decide (V.bl i=V.bl j)=(i == j):=by
 rw [Bool.eq_iff_iff]
 simp
theorem dec_str {i j:Str}:decide (V.str i=V.str j)=(i == j):=by
 rw [Bool.eq_iff_iff]
 simp
theorem dec_byt {i j:Array UInt8}:decide (V.byt i=V.byt j)=(i.toList == j.toList):=by
 rw [Bool.eq_iff_iff]
 cases i
 cases j
 simp
section
variable {X:Cx}{a b c:Expr}{ta tb tc:TE}{pos:Pos}
theorem fin_bl {pins:List (Addr × Obj)}{σ:St}{H:Hp}{s:Shared}{Q:VK}{k k':Bool}(I:Inv X pins σ H s)(q:Q (.bl k) H)(e:k=k'):EP X pins σ Q (.bool k') s:=by
 subst e
 exact ⟨.bl k,H,I,rfl,q⟩
theorem op_eq:OpR X (compareOp .Eq) rEq:=by
 intro pins s σ H x y v u Q I rx ry h
 obtain ⟨hs,q⟩:=h
 cases x with
 | non =>
  cases rx
  cases y with
  | non=>cases ry; exact PySem.EqNone.eq_none_none (fin_bl I q (by simp))
  | bl j=>cases ry; exact PySem.EqNone.eq_none_bool (fin_bl I q (by simp))
  | int j=>obtain ⟨t',rfl⟩:=ry; exact PySem.EqNone.eq_none_int (fin_bl I q (by simp))
  | str j=>obtain ⟨t',rfl⟩:=ry; exact PySem.EqNone.eq_none_str (fin_bl I q (by simp))
  | _=>exact absurd (show false=true from hs) Bool.false_ne_true
 | bl i =>
  cases rx
  cases y with
  | non=>cases ry; exact PySem.EqNone.eq_bool_none (fin_bl I q (by simp))
  | bl j=>cases ry; exact eq_bool (fin_bl I q dec_bl)
  | str j=>obtain ⟨t',rfl⟩:=ry; exact PySem.EqMixed.eq_bool_str (fin_bl I q (by simp))
  | _=>exact absurd (show false=true from hs) Bool.false_ne_true
 | int i =>
  obtain ⟨t,rfl⟩:=rx
  cases y with
  | non=>cases ry; exact PySem.EqNone.eq_int_none (fin_bl I q (by simp))
  | int j=>obtain ⟨t',rfl⟩:=ry; exact eq_int (fin_bl I q dec_int)
  | str j=>obtain ⟨t',rfl⟩:=ry; exact PySem.EqMixed.eq_int_str (fin_bl I q (by simp))
  | _=>exact absurd (show false=true from hs) Bool.false_ne_true
 | str i =>
  obtain ⟨t,rfl⟩:=rx
  cases y with
  | non=>cases ry; exact PySem.EqNone.eq_str_none (fin_bl I q (by simp))
  | bl j=>cases ry; exact PySem.EqMixed.eq_str_bool (fin_bl I q (by simp))
  | int j=>obtain ⟨t',rfl⟩:=ry; exact PySem.EqMixed.eq_str_int (fin_bl I q (by simp))
  | str j=>obtain ⟨t',rfl⟩:=ry; exact eq_str (fin_bl I q dec_str)
  | _=>exact absurd (show false=true from hs) Bool.false_ne_true
 | byt i =>
  obtain ⟨t,rfl⟩:=rx
  cases y with
  | byt j=>obtain ⟨t',rfl⟩:=ry; exact PySem.W.eq_bytes (fin_bl I q dec_byt)
  | _=>exact absurd (show false=true from hs) Bool.false_ne_true
 | _=>cases y <;> exact absurd (show false=true from hs) Bool.false_ne_true
theorem op_ne:OpR X (compareOp .NotEq) rNe:=by
 intro pins s σ H x y v u Q I rx ry h
 obtain ⟨hs,q⟩:=h
 cases x with
 | non =>
  cases rx
  cases y with
  | non=>cases ry; exact PySem.EqNone.ne_none_none (fin_bl I q (by simp))
  | bl j=>cases ry; exact PySem.EqNone.ne_none_bool (fin_bl I q (by simp))
  | int j=>obtain ⟨t',rfl⟩:=ry; exact PySem.EqNone.ne_none_int (fin_bl I q (by simp))
  | str j=>obtain ⟨t',rfl⟩:=ry; exact PySem.EqNone.ne_none_str (fin_bl I q (by simp))
  | _=>exact absurd (show false=true from hs) Bool.false_ne_true
 | bl i =>
  cases rx
  cases y with
  | non=>cases ry; exact PySem.EqNone.ne_bool_none (fin_bl I q (by simp))
  | bl j=>cases ry; exact ne_bool (fin_bl I q (congrArg not dec_bl))
  | str j=>obtain ⟨t',rfl⟩:=ry; exact PySem.EqMixed.ne_bool_str (fin_bl I q (by simp))
  | _=>exact absurd (show false=true from hs) Bool.false_ne_true
 | int i =>
  obtain ⟨t,rfl⟩:=rx
  cases y with
  | non=>cases ry; exact PySem.EqNone.ne_int_none (fin_bl I q (by simp))
  | int j=>obtain ⟨t',rfl⟩:=ry; exact ne_int (fin_bl I q (congrArg not dec_int))
  | str j=>obtain ⟨t',rfl⟩:=ry; exact PySem.EqMixed.ne_int_str (fin_bl I q (by simp))
  | _=>exact absurd (show false=true from hs) Bool.false_ne_true
 | str i =>
  obtain ⟨t,rfl⟩:=rx
  cases y with
  | non=>cases ry; exact PySem.EqNone.ne_str_none (fin_bl I q (by simp))
  | bl j=>cases ry; exact PySem.EqMixed.ne_str_bool (fin_bl I q (by simp))
  | int j=>obtain ⟨t',rfl⟩:=ry; exact PySem.EqMixed.ne_str_int (fin_bl I q (by simp))
  | str j=>obtain ⟨t',rfl⟩:=ry; exact ne_str (fin_bl I q (congrArg not dec_str))
  | _=>exact absurd (show false=true from hs) Bool.false_ne_true
 | byt i =>
  obtain ⟨t,rfl⟩:=rx
  cases y with
  | byt j=>obtain ⟨t',rfl⟩:=ry; exact PySem.W.ne_bytes (fin_bl I q (congrArg not dec_byt))
  | _=>exact absurd (show false=true from hs) Bool.false_ne_true
 | _=>cases y <;> exact absurd (show false=true from hs) Bool.false_ne_true
theorem op_lt:OpR X (compareOp .Lt) (rI0 fun i j=>.bl (decide (i < j))):=opB0 fun _ _ _ _ _ _ _ q=>lt_int q
theorem op_le:OpR X (compareOp .LtE) (rI0 fun i j=>.bl (decide (i<=j))):=opB0 fun _ _ _ _ _ _ _ q=>le_int q
theorem op_gt:OpR X (compareOp .Gt) (rI0 fun i j=>.bl (decide (j < i))):=opB0 fun _ _ _ _ _ _ _ q=>gt_int q
theorem op_ge:OpR X (compareOp .GtE) (rI0 fun i j=>.bl (decide (j<=i))):=opB0 fun _ _ _ _ _ _ _ q=>ge_int q
theorem op_in_str:OpR X (compareOp .In) (fun x y H Q=>∃ i j,x = .str i/\y = .str j/\Q (.bl (!(Builtin.Str.occurrences j i 0 j.length 1).isEmpty)) H):=by
 intro pins s σ H x y v u Q I rx ry h
 obtain ⟨i,j,rfl,rfl,q⟩:=h
 obtain ⟨t,rfl⟩:=rx
 obtain ⟨t',rfl⟩:=ry
 exact in_str (fin_bl I q rfl)
def isObj:HO->Bool
 | .lst _=>true
 | .ins _ _ _=>true
 | _=>false
theorem nomark (b:Expr){op:CmpOp}(h:op ≠ .In:=by decide)(h2:op ≠ .NotIn:=by decide):behindInMarks op b=false:=by
 have e1:(op == CmpOp.In)=false:=by cases op <;> first | rfl | exact absurd rfl h
 have e2:(op == CmpOp.NotIn)=false:=by cases op <;> first | rfl | exact absurd rfl h2
 cases b <;> simp [behindInMarks,e1,e2]
theorem pe_cmpR {op:CmpOp}{r:R2}(ho:OpR X (compareOp op) r)(ha:PE X a ta)(hb:PE X b tb)(hm:behindInMarks op b=false):PE X (.Compare a [op] [b] pos) (tOp r ta tb):=by
 intro pins s σ H Q I h
 exact wpAny_Compare1 (binT ha hb I h fun v u s2 x y H2 I2 rx ry q=>ho pins s2 σ H2 x y v u Q I2 rx ry q) hm
def tTest (t:TE):TT:=fun σ H Q=>t σ H fun x H'=>∃ k,x = .bl k/\Q k H'
theorem pt_cmpR {op:CmpOp}{r:R2}(ho:OpR X (compareOp op) r)(ha:PE X a ta)(hb:PE X b tb)(hm:behindInMarks op b=false):PT X (.Compare a [op] [b] pos) (tTest (tOp r ta tb)):=by
 intro pins s σ H Q I h
 refine wpAny_isTrue_Compare1 (thn (ha pins s σ H _ I h) fun v s1 ⟨x,H1,I1,r1,q1⟩=>thn (hb pins s1 σ H1 _ I1 q1) fun u s2 ⟨y,H2,I2,r2,q2⟩ =>
  thn (ho pins s2 σ H2 x y v u _ I2 r1 r2 q2) fun c s3 ⟨z,H3,I3,r3,k,e,q3⟩ => ?_) hm
 subst e
 cases r3
 exact wpAny_truthy_bool ⟨H3,I3,q3⟩
def tChain (r r':R2)(ta tb tc:TE):TE:=fun σ H Q=>ta σ H fun x H1=>tb σ H1 fun y H2=>r x y H2 fun z H3=>∃ k,z = .bl k /\
 (if k=true then tc σ H3 fun w' H4=>r' y w' H4 Q else Q (.bl false) H3)
theorem pe_chain {op op':CmpOp}{r r':R2}(ho:OpR X (compareOp op) r)(ho':OpR X (compareOp op') r')(ha:PE X a ta)(hb:PE X b tb)(hc:PE X c tc)
  (hm:lastMarks [op,op'] [b,c]=false:=by with_unfolding_all rfl):PE X (.Compare a [op,op'] [b,c] pos) (tChain r r' ta tb tc):=by
 intro pins s σ H Q I h
 refine Compare_chain (thn (ha pins s σ H _ I h) fun v s1 ⟨x,H1,I1,r1,q1⟩=>chain_link (thn (hb pins s1 σ H1 _ I1 q1) fun u s2 ⟨y,H2,I2,r2,q2⟩ =>
  thn (ho pins s2 σ H2 x y v u _ I2 r1 r2 q2) fun d s3 ⟨z,H3,I3,r3,k,e,q3⟩ => ?_)) hm
 subst e
 cases r3
 refine wpAny_truthy_bool ?_
 cases k with
 | false=>exact ite_ff ⟨.bl false,H3,I3,rfl,q3⟩
 | true=>exact ite_tt (chain_last (thn (hc pins s3 σ H3 _ I3 q3) fun w' s4 ⟨z',H4,I4,r4,q4⟩=>ho' pins s4 σ H4 y z' u w' Q I4 r2 r4 q4))
theorem pt_chain {op op':CmpOp}{r r':R2}(ho:OpR X (compareOp op) r)(ho':OpR X (compareOp op') r')(ha:PE X a ta)(hb:PE X b tb)(hc:PE X c tc)
  (hm:lastMarks [op,op'] [b,c]=false:=by with_unfolding_all rfl):PT X (.Compare a [op,op'] [b,c] pos) (tTest (tChain r r' ta tb tc)):=by
 intro pins s σ H Q I h
 refine isTrue_chain (thn (ha pins s σ H _ I h) fun v s1 ⟨x,H1,I1,r1,q1⟩=>test_link (thn (hb pins s1 σ H1 _ I1 q1) fun u s2 ⟨y,H2,I2,r2,q2⟩ =>
  thn (ho pins s2 σ H2 x y v u _ I2 r1 r2 q2) fun d s3 ⟨z,H3,I3,r3,k,e,q3⟩ => ?_)) hm
 subst e
 cases r3
 refine wpAny_truthy_bool ?_
 cases k with
 | false =>
  obtain ⟨k',e',q'⟩:=q3
  cases e'
  exact ite_ff ⟨H3,I3,q'⟩
 | true =>
  refine ite_tt (test_last (thn (hc pins s3 σ H3 _ I3 q3) fun w' s4 ⟨z',H4,I4,r4,q4⟩=>thn (ho' pins s4 σ H4 y z' u w' _ I4 r2 r4 q4) fun d' s5 ⟨z2,H5,I5,r5,k2,e2,q5⟩ => ?_))
  subst e2
  cases r5
  exact wpAny_truthy_bool ⟨H5,I5,q5⟩
def TruV (K:PySem.W.Frag)(x:V)(H:Hp)(k:Bool):Prop :=
 match x with
 | .non=>k=false
 | .bl b=>k=b
 | .int i=>k=(i != 0)
 | .str y=>y.length<=sizeLine/\k=((y.length:Int) != 0)
 | .byt y=>y.size<=sizeLine/\k=((y.size:Int) != 0)
 | .ref p=>(∃ xs,SqL K H p xs/\k = !xs.isEmpty)\/(∃ xs,SqT K H p xs/\k = !xs.isEmpty)\/∃ kvs,H p=some (.dK kvs)/\k = !kvs.isEmpty
 | _=>False
theorem line63:(sizeLine:Nat) < 2 ^ 63:=by rw [sizeLine_eq]; decide
theorem op_add_str:OpR X (binaryOp .Add) (fun x y H Q=>∃ i j,x = .str i/\y = .str j/\i.length+j.length<=sizeLine/\Q (.str (i ++ j)) H):=by
 intro pins s σ H x y v u Q I rx ry h
 obtain ⟨i,j,rfl,rfl,hz,q⟩:=h
 obtain ⟨t,rfl⟩:=rx
 obtain ⟨t',rfl⟩:=ry
 exact add_str (fun t' tk=>⟨.str (i ++ j),H,I.tok _,⟨_,rfl⟩,q⟩) hz
def PlainIxT (b:Expr):Prop:=∀ o i,subscripted b false o i=operate [o,i] (getItem o i)
theorem vals1 {x:V}{us:List Value}(r:Vals [x] us) : ∃ u,us=[u]/\RelV x u:=by
 cases r with
 | cons r1 r2=>cases r2; exact ⟨_,rfl,r1⟩
theorem vals2 {x y:V}{us:List Value}(r:Vals [x,y] us) : ∃ u w',us=[u,w']/\RelV x u/\RelV y w':=by
 cases r with
 | cons r1 r2 =>
  cases r2 with
  | cons r3 r4=>cases r4; exact ⟨_,_,rfl,r1,r3⟩
theorem call_abs:CallR X (.builtin "abs") (fun xs H Q=>∃ i,xs=[.int i]/\Q (.int (if i < 0 then -i else i)) H):=by
 intro pins s σ H xs us Q I r h
 obtain ⟨i,rfl,q⟩:=h
 obtain ⟨u,rfl,t,rfl⟩:=vals1 r
 exact call_abs_int fun u tk=>⟨.int (if i < 0 then -i else i),H,I.tok _,⟨_,rfl⟩,q⟩
theorem call_max2 (hc:X.calm=true):CallR X (.builtin "max") (fun xs H Q=>∃ i j,xs=[.int i,.int j]/\Q (.int (if j > i then j else i)) H):=by
 intro pins s σ H xs us Q I r h
 obtain ⟨i,j,rfl,q⟩:=h
 obtain ⟨u,w',rfl,⟨t,rfl⟩,⟨t',rfl⟩⟩:=vals2 r
 refine max_two_ints (I.ok.hd hc) fun h' tk k=>⟨_,H,I.kept k,?_,q⟩
 by_cases hj:j > i
 ·rw [if_pos hj,if_pos hj]; exact ⟨_,rfl⟩
 ·rw [if_neg hj,if_neg hj]; exact ⟨_,rfl⟩
theorem call_min2 (hc:X.calm=true):CallR X (.builtin "min") (fun xs H Q=>∃ i j,xs=[.int i,.int j]/\Q (.int (if j < i then j else i)) H):=by
 intro pins s σ H xs us Q I r h
 obtain ⟨i,j,rfl,q⟩:=h
 obtain ⟨u,w',rfl,⟨t,rfl⟩,⟨t',rfl⟩⟩:=vals2 r
 refine min_two_ints (I.ok.hd hc) fun h' tk k=>⟨_,H,I.kept k,?_,q⟩
 by_cases hj:j < i
 ·rw [if_pos hj,if_pos hj]; exact ⟨_,rfl⟩
 ·rw [if_neg hj,if_neg hj]; exact ⟨_,rfl⟩
theorem call_int1:CallR X (.type "int") (fun xs H Q=>(∃ i,xs=[.int i]/\Q (.int i) H)\/∃ k,xs=[.bl k]/\Q (.int (if k then 1 else 0)) H):=by
 intro pins s σ H xs us Q I r h
 rcases h with ⟨i,rfl,q⟩ | ⟨k,rfl,q⟩
 ·obtain ⟨u,rfl,t,rfl⟩:=vals1 r
  exact call_int_int ⟨.int i,H,I,⟨_,rfl⟩,q⟩
 ·obtain ⟨u,rfl,r1⟩:=vals1 r
  cases r1
  exact call_int_bool ⟨.int (if k then 1 else 0),H,I.tok _,⟨_,rfl⟩,q⟩
def LenV (K:PySem.W.Frag)(x:V)(H:Hp)(n:Nat):Prop :=
 match x with
 | .str y=>y.length<=sizeLine/\n=y.length
 | .byt y=>y.size<=sizeLine/\n=y.size
 | .ref p=>(∃ xs,SqL K H p xs/\n=xs.length)\/∃ xs,SqT K H p xs/\n=xs.length
 | _=>False
end
end L2
namespace L2
open PySem PySem.Spec PyProof.Rows
structure ObjM (h:Heap)(x dx C:Addr)(mA:Str->Option Value):Prop where
 obj:h.get? x=some (PySem.W.instObj C dx)
 ns:h.Ns1 dx mA
 ne:dx ≠ x
theorem lookIn_ns {h:Heap}{dx:Addr}{mA:Str->Option Value}(n:h.Ns1 dx mA) : ∃ od,h.get? dx=some od/\∀ name,PySem.W.lookIn name od=some (mA name):=by
 obtain ⟨o,es,ep,ho,hd,hk,_,hm⟩:=n
 refine ⟨o,ho,fun name => ?_⟩
 have e:=hm name
 unfold nsFind findBy at e
 rw [<- Array.find?_toList] at e
 unfold PySem.W.lookIn
 rw [hd]
 dsimp only
 split
 ·rename_i y q
  rw [q] at e
  exact congrArg some e
 ·rename_i q
  rw [q] at e
  have a:es.toList.any (·.refKey)=false:=by
   rw [List.any_eq_false]
   intro y hy
   obtain ⟨z,t,hkey⟩:=hk y (Array.mem_toList_iff.mp hy)
   simp [DictEntry.refKey,hkey]
  have a' : ¬ es.toList.any (·.refKey)=true:=by rw [a]; exact Bool.false_ne_true
  rw [if_neg a']
  exact congrArg some e
theorem ObjM.look {h:Heap}{x dx C:Addr}{mA:Str->Option Value}(I:ObjM h x dx C mA) : ∃ od,PySem.W.InstAt h x (PySem.W.instObj C dx) C (some od)/\∀ name,PySem.W.lookIn name od=some (mA name) :=
 let ⟨od,ho,hl⟩:=lookIn_ns I.ns
 ⟨od,⟨I.obj,rfl,rfl,ho⟩,hl⟩
section
variable {prog:Program}{w:World}{A:Around}{E:Value->Shared->Prop}{s:Shared}{K:PySem.W.Frag}{x dx C f:Addr}{mA:Str->Option Value}{name:Str}{v:Value}
theorem get_map {expr:Bool}{Q:Value->Shared->Prop}(X:K.In s.heap)(I:ObjM s.heap x dx C mA)(hg:PySem.W.plainGet K C name=true)(hh:PySem.W.hasDictIn K C=true)
  (ha:PySem.W.findIn K (.ref C) name=some none) (hv:mA name=some v) (hv':PySem.W.handedIn v=true) (h:Q v { s with toks:=s.toks+1 }) :
  wpAny (model prog w) A (getAttr (.ref x) name expr) Q E s:=by
 obtain ⟨od,J,hl⟩:=I.look
 exact PySem.W.get_value X J (PySem.W.plainGet_of hg).1 (PySem.W.findObj_own hh ha rfl (by rw [hl,hv])) hv' h
theorem get_meth {pl:Sem Bool}{Q:Value × List Value->Shared->Prop}(X:K.In s.heap)(I:ObjM s.heap x dx C mA)(hg:PySem.W.plainGet K C name=true)
  (hf:PySem.W.findIn K (.ref C) name=some (some (.ref f))) (ht:PySem.W.isFn K (.ref f)=true) (hv:mA name=none) (h:Q (.ref f,[.ref x]) s) :
  wpAny (model prog w) A (getMethod (.ref x) name pl) Q E s:=by
 obtain ⟨od,J,hl⟩:=I.look
 exact PySem.W.method_fn X J (PySem.W.plainGet_of hg).1 (PySem.W.plainGet_of hg).2 hf (beq_iff_eq.mp ht) (by show (PySem.W.lookIn name od).map (·.isSome)=some false; rw [hl,hv]; rfl) h
theorem set_map {ns:List Str}{Q:Unit->Shared->Prop}(X:K.In s.heap)(I:ObjM s.heap x dx C mA)
  (hs:PySem.W.findIn K (.ref C) "__setattr__" = some (some (.builtin "object.__setattr__"))) (hp:PySem.W.plainOver K C=true) (ht:PySem.W.takerIn K C name=some none) (hh:PySem.W.hasDictIn K C=true)
  (hw:PySem.Within mA ns) (hsz:ns.length<=sizeLine)
  (h : ∀ h',ObjM h' x dx C (fun y=>if y=name then some v else mA y)->Heap.SameBut dx s.heap h'->Q () { s with heap:=h',toks:=s.toks+2 }) :
  wpAny (model prog w) A (setAttr (.ref x) name v) Q E s:=by
 obtain ⟨od,J,hl⟩:=I.look
 refine PySem.W.set_plain X J hs (PySem.W.osa_open (s:={ s with toks:=s.toks+1 }) (r:=none) X J hp ht fun b => ?_)
 obtain ⟨cd,hc,hd'⟩:=PySem.W.any_some hh
 have hx:s.heap.get? x=some ⟨.ref C,some dx,.plain,#[]⟩:=I.obj
 refine wpAny_bind (wpAny_pure (wpAny_bind (wpAny_bind (wpAny_loadPart hx (wpAny_bind (PySem.W.Looks.here (s:={ s with toks:=s.toks+1 }) (PySem.W.looks_clsIn X hc) ?_))))))
 rw [hd']
 refine wpAny_pure (a:=some dx) (wpAny_bind (wpAny_pure (wpAny_bind ?_)))
 refine wpAny_nsSet1 (s:={ s with toks:=s.toks+1 }) I.ns fun h' hn2 hs2 => ?_
 obtain ⟨oD,esD,epD,hoD,hdD,hcD⟩:=hn2.count (PySem.Within.cons name v hw)
 refine wpAny_bind (wpAny_lookBehind hoD (by rw [hdD]; exact pastItsLine_dict (Nat.le_trans hcD (by rw [List.length_cons]; omega))) ?_)
 exact wpAny_pure (h _ ⟨(hs2.2 _ (Ne.symm I.ne)).trans I.obj,hn2,I.ne⟩ hs2)
theorem make_map {R:Result->Shared->Prop}{vs:List Value}{kw:List (Str × Value)}(X:K.In s.heap)(hm:PySem.W.makesIn K C=true)
  (hi:PySem.W.findIn K (.ref C) "__init__" = some (some (.ref f))) (hf:PySem.W.typeIn K (.ref f)=some (.type "function"))
  (h:codeAny (model prog w) (A.under (.builtin "type.__call__" ⟨.ref C :: vs,kw⟩)) (.call (.ref f) ⟨.ref (s.heap.objs.size+1) :: vs,kw⟩) (PySem.W.InitBack (s.heap.objs.size+1) R)
   { s with heap:=(s.heap.push PySem.W.emptyDict).push (PySem.W.instObj C s.heap.objs.size) }) :
  codeAny (model prog w) A (.call (.ref C) ⟨vs,kw⟩) R s:=by
 obtain ⟨hh,g,d,t,os⟩:=s
 exact PySem.W.make_core (PySem.W.makes_of X hm) (PySem.W.looks_findIn X hi) (fun self=>PySem.W.bind_fn X self hf) (.inl rfl) h
end
def putF (f:Str)(v:V):List (Str × V)->List (Str × V)
  | []=>[(f,v)]
  | (g,x) :: r=>if g=f then (g,v) :: r else (g,x) :: putF f v r
theorem lookup_putF (f g:Str)(v:V) : ∀ fs:List (Str × V),(putF f v fs).lookup g=if g=f then some v else fs.lookup g
  | []=>by
    show List.lookup g [(f,v)]=_
    by_cases h:g=f
    · have hb:(g == f)=true:=beq_iff_eq.mpr h
      simp only [List.lookup,hb,if_pos h]
    · have hb:(g == f)=false:=beq_eq_false_iff_ne.mpr h
      simp only [List.lookup,hb,if_neg h]
  | (k,x) :: r=>by
    have ih:=lookup_putF f g v r
    rw [show putF f v ((k,x) :: r)=(if k=f then (k,v) :: r else (k,x) :: putF f v r) from rfl]
    by_cases hk:k=f
    · rw [if_pos hk]
      by_cases h:g=k
      · have hb:(g == k)=true:=beq_iff_eq.mpr h
        simp only [List.lookup,hb,if_pos (h.trans hk)]
      · have hb:(g == k)=false:=beq_eq_false_iff_ne.mpr h
        simp only [List.lookup,hb,if_neg (fun e:g=f=>h (e.trans hk.symm))]
    · rw [if_neg hk]
      by_cases h:g=k
      · have hb:(g == k)=true:=beq_iff_eq.mpr h
        simp only [List.lookup,hb,if_neg (fun e:g=f=>hk (h.symm.trans e))]
      · have hb:(g == k)=false:=beq_eq_false_iff_ne.mpr h
        simp only [List.lookup,hb]
        exact ih
theorem keys_putF (f:Str)(v:V) : ∀ fs:List (Str × V),f ∈ (putF f v fs).map (·.1)/\∀ g,g ∈ fs.map (·.1)->g ∈ (putF f v fs).map (·.1)
  | []=>⟨by simp [putF],fun g h=>by simp at h⟩
  | (k,x) :: r=>by
    obtain ⟨i1,i2⟩:=keys_putF f v r
    rw [show putF f v ((k,x) :: r)=(if k=f then (k,v) :: r else (k,x) :: putF f v r) from rfl]
    by_cases hk:k=f
    · rw [if_pos hk]
      subst hk
      exact ⟨by simp,fun g h=>by simpa using h⟩
    · rw [if_neg hk]
      refine ⟨?_,fun g h => ?_⟩
      · rw [List.map_cons]
        exact List.mem_cons_of_mem _ i1
      · rw [List.map_cons] at h ⊢
        rcases List.mem_cons.mp h with e | e
        · exact List.mem_cons.mpr (.inl e)
        · exact List.mem_cons_of_mem _ (i2 g e)
theorem length_putF (f:Str)(v:V) : ∀ fs:List (Str × V),(putF f v fs).length<=fs.length+1
  | []=>by simp [putF]
  | (k,x) :: r=>by
    have ih:=length_putF f v r
    rw [show putF f v ((k,x) :: r)=(if k=f then (k,v) :: r else (k,x) :: putF f v r) from rfl]
    by_cases hk:k=f
    · rw [if_pos hk,List.length_cons,List.length_cons]; omega
    · rw [if_neg hk,List.length_cons,List.length_cons]; omega
theorem RelO.some_of {v:V}{o:Option Value}(r:RelO (some v) o) : ∃ u,o=some u/\RelV v u:=by
 cases o with
 | none=>exact (show False from r).elim
 | some u=>exact ⟨u,rfl,r⟩
theorem RelO.none_of {o:Option Value}(r:RelO none o):o=none:=by
 cases o with
 | none=>rfl
 | some u=>exact (show False from r).elim
theorem handed_of {v:V}{u:Value}(r:RelV v u):PySem.W.handedIn u=true:=by
 cases v with
 | non=>cases (show u=Value.none from r); rfl
 | bl b=>cases (show u=Value.bool b from r); rfl
 | int i=>obtain ⟨t,e⟩:=(show ∃ t,u=Value.int i t from r); cases e; rfl
 | str x=>obtain ⟨t,e⟩:=(show ∃ t,u=Value.str x t from r); cases e; rfl
 | byt b=>obtain ⟨t,e⟩:=(show ∃ t,u=Value.bytes b t from r); cases e; rfl
 | flt b=>obtain ⟨t,e⟩:=(show ∃ t,u=Value.float b t from r); cases e; rfl
 | ref a=>cases (show u=Value.ref a from r); rfl
 | ty n=>cases (show u=Value.type n from r); rfl
section
variable {P:Program}{w:World}{H H':Hp}{h h':Heap}{a C dx:Addr}{fs fs':List (Str × V)}
theorem ins_get (hok:HOk P w H h)(e:H a=some (.ins C dx fs)) : ∃ mA,ObjM h a dx C mA/\(∀ f,RelO (fs.lookup f) (mA f))/\PySem.Within mA (fs.map (·.1))/\fs.length<=1000/\H dx=some (.own a):=by
 obtain ⟨d,z,ne,ob,mA,n,r,q⟩:=(show ObjOk P w H h a (.ins C dx fs) from hok a _ e)
 exact ⟨mA,⟨ob,n,ne⟩,r,q,z,d⟩
end
structure Cls (K:PySem.W.Frag)(C:Addr):Prop where
 pg:PySem.W.plainGet K C Str.empty=true
 hd:PySem.W.hasDictIn K C=true
 po:PySem.W.plainOver K C=true
 sa:PySem.W.findIn K (.ref C) "__setattr__" = some (some (.builtin "object.__setattr__"))
theorem Cls.get {K:PySem.W.Frag}{C:Addr}(c:Cls K C)(f:Str):PySem.W.plainGet K C f=true:=c.pg
def NoAttr (K:PySem.W.Frag)(C:Addr)(f:Str):Prop:=PySem.W.findIn K (.ref C) f=some none
theorem NoAttr.taker {K:PySem.W.Frag}{C:Addr}{f:Str}(n:NoAttr K C f):PySem.W.takerIn K C f=some none:=by
 unfold PySem.W.takerIn
 rw [show PySem.W.findIn K (.ref C) f=some none from n]
 rfl
structure Con (K:PySem.W.Frag)(C:Addr)(f:Str)(v:V)(u:Value):Prop where
 at_:PySem.W.findIn K (.ref C) f=some (some u)
 rel:RelV v u
 get:PySem.W.specialIn K u "__get__" = some none
 cp:PySem.W.copiedNames.contains f=false
structure Meth (K:PySem.W.Frag)(C:Addr)(m:Str)(f:Addr):Prop where
 at_:PySem.W.findIn K (.ref C) m=some (some (.ref f))
 fn:PySem.W.isFn K (.ref f)=true
 kp:PySem.W.keepIn K (.ref f)=true
section
variable {X:Cx}{pins:List (Addr × Obj)}{σ:St}{H:Hp}{s:Shared}{a C dx:Addr}{fs:List (Str × V)}{f:Str}{v:V}{A:Around}{E:Value->Shared->Prop}
theorem getattr_ok {b:Bool}{Q:Value->Shared->Prop}(I:Inv X pins σ H s)(e:H a=some (.ins C dx fs))(c:Cls X.K C)(n:NoAttr X.K C f)(l:fs.lookup f=some v)
  (h : ∀ u s',Inv X pins σ H s'->RelV v u->Q u s'):wpAny (model X.prog X.w) A (getAttr (.ref a) f b) Q E s:=by
 obtain ⟨mA,O,r,_,_,_⟩:=ins_get I.hok e
 obtain ⟨u,hu,ru⟩:=RelO.some_of (v:=v) (o:=mA f) (by rw [<- l]; exact r f)
 exact get_map I.kIn O (c.get f) c.hd n hu (handed_of ru) (h u _ (I.tok _) ru)
theorem getmeth_ok {m:Str}{g:Addr}{pl:Sem Bool}{Q:Value × List Value->Shared->Prop}(I:Inv X pins σ H s)(e:H a=some (.ins C dx fs))(c:Cls X.K C)(k:Meth X.K C m g)(l:fs.lookup m=none)
  (h:Q (.ref g,[.ref a]) s):wpAny (model X.prog X.w) A (getMethod (.ref a) m pl) Q E s:=by
 obtain ⟨mA,O,r,_,_,_⟩:=ins_get I.hok e
 have hn:mA m=none:=RelO.none_of (by rw [<- l]; exact r m)
 exact get_meth I.kIn O (c.get m) k.at_ k.fn hn h
theorem setattr_ok {y:V}{u:Value}{Q:Unit->Shared->Prop}(I:Inv X pins σ H s)(e:H a=some (.ins C dx fs))(c:Cls X.K C)(n:NoAttr X.K C f)(hl:fs.length < 1000)(ry:RelV y u)
  (h : ∀ s',Inv X pins σ (upd H a (.ins C dx (putF f y fs))) s'->Q () s'):wpAny (model X.prog X.w) A (setAttr (.ref a) f u) Q E s:=by
 obtain ⟨mA,O,r,wi,_,ho⟩:=ins_get I.hok e
 have hz:(fs.map (·.1)).length<=sizeLine:=by rw [List.length_map,sizeLine_eq]; omega
 refine set_map I.kIn O c.sa c.po n.taker c.hd wi hz fun h' O' sb=>h _ ?_
 have hd : ∃ o,h'.get? dx=some o:=let ⟨o,_,_,e',_⟩:=O'.ns; ⟨o,e'⟩
 refine I.write (x:=a) (e:=dx) (by rw [e]; exact True.intro) (.inr ho) (fun b q hb z=>(sb.2 b hb).trans z) hd ?_
 refine ⟨by rw [upd_ne O.ne]; exact ho,?_,O.ne,O'.obj,_,O'.ns,fun g => ?_,fun g hg => ?_⟩
 ·have:=length_putF f y fs; omega
 ·show RelO ((putF f y fs).lookup g) (if g=f then some u else mA g)
  rw [lookup_putF]
  by_cases q:g=f
  ·rw [if_pos q,if_pos q]; exact ry
  ·rw [if_neg q,if_neg q]; exact r g
 ·by_cases q:g=f
  ·rw [q]; exact (keys_putF f y fs).1
  ·refine (keys_putF f y fs).2 g (wi g fun z=>hg ?_)
   show (if g=f then some u else mA g)=none
   rw [if_neg q]; exact z
theorem Inv.made (I:Inv X pins σ H s):Inv X pins σ (upd (upd H s.heap.objs.size (.own (s.heap.objs.size+1))) (s.heap.objs.size+1) (.ins C s.heap.objs.size []))
  { s with heap:=(s.heap.push PySem.W.emptyDict).push (PySem.W.instObj C s.heap.objs.size) }:=by
 have e1:(s.heap.push PySem.W.emptyDict).get? s.heap.objs.size=some PySem.W.emptyDict:=Heap.get?_push_size s.heap rfl
 have e2:((s.heap.push PySem.W.emptyDict).push (PySem.W.instObj C s.heap.objs.size)).get? (s.heap.objs.size+1)=some (PySem.W.instObj C s.heap.objs.size):=by
  have:=Heap.get?_push_size (s.heap.push PySem.W.emptyDict) (o:=PySem.W.instObj C s.heap.objs.size) rfl
  rwa [Heap.size_push] at this
 have e3:(s.heap.push PySem.W.emptyDict).Ns s.heap.objs.size (fun _=>none):=⟨PySem.W.emptyDict,#[],_,e1,rfl,(fun e he=>absurd he (by simp)),fun _=>rfl⟩
 have I1:=I.laid (a:=s.heap.objs.size) (o:=.own (s.heap.objs.size+1)) (h':=s.heap.push PySem.W.emptyDict) (t':=s.toks) (fun b u q=>Heap.get?_push_of_some _ q) (Nat.le_refl _) ⟨_,e1⟩
 refine I1.laid (a:=s.heap.objs.size+1) (o:=.ins C s.heap.objs.size []) (t':=s.toks) (fun b u q=>Heap.get?_push_of_some _ q) (Nat.le_of_eq (Heap.size_push _ _)) ?_
 have ne:s.heap.objs.size ≠ s.heap.objs.size+1:=Nat.ne_of_lt (Nat.lt_succ_self _)
 refine ⟨by rw [upd_ne ne,upd_same],Nat.zero_le _,ne,e2,fun _=>none,(Heap.Ns1.of_empty e3).at fun o q=>Heap.get?_push_of_some _ q,fun _=>True.intro,fun y hy=>absurd rfl hy⟩
theorem attr_of {prog:Program}{w:World}{env:Env}{e:Expr}{f:Str}{pos:Pos}{s:Shared}{Q:Value->Shared->Prop}(hb:attributeBase e f env (eval e env)=eval e env)
  (h:wpAny (model prog w) A (eval e env) (fun o s₁=>wpAny (model prog w) A (getAttr o f true) Q E s₁) E s):wpAny (model prog w) A (eval (.Attribute e f pos) env) Q E s :=
 Attribute_any_ h (by rw [arm_eval_Attribute,hb])
end
def tFld (K:PySem.W.Frag)(ta:TE)(f:Str):TE:=fun σ H Q=>ta σ H fun x H1=>∃ a C dx fs v,x = .ref a/\H1 a=some (.ins C dx fs)/\Cls K C/\NoAttr K C f/\fs.lookup f=some v/\Q v H1
def tCon (K:PySem.W.Frag)(ta:TE)(f:Str):TE:=fun σ H Q=>ta σ H fun x H1=>∃ a C dx fs v u,x = .ref a/\H1 a=some (.ins C dx fs)/\Cls K C/\Con K C f v u/\fs.lookup f=none/\Q v H1
def sFld (K:PySem.W.Frag)(ta tv:TE)(f:Str):TS:=fun D σ H=>tv σ H fun y H1=>ta σ H1 fun x H2=>∃ a C dx fs,x = .ref a/\H2 a=some (.ins C dx fs)/\Cls K C/\NoAttr K C f/\fs.length < 1000 /\
 D.nx σ (upd H2 a (.ins C dx (putF f y fs)))
def InOp (X:Cx)(op:Operator)(rd:V->V->Hp->VK->Prop):Prop :=
 ∀ (pins:List (Addr × Obj)) (s:Shared) (σ:St) (H:Hp) (x y:V) (u v:Value) (Q:VK),Inv X pins σ H s->RelV x u->RelV y v->rd x y H Q->wpAny (model X.prog X.w) X.A (inplaceOp op u v) (EP X pins σ Q) X.xe s
def sFldAug (K:PySem.W.Frag)(ta tv:TE)(rd:V->V->Hp->VK->Prop)(f:Str):TS:=fun D σ H=>ta σ H fun x H1=>∃ a C dx fs v,x = .ref a/\H1 a=some (.ins C dx fs)/\Cls K C/\NoAttr K C f/\fs.lookup f=some v /\
 tv σ H1 fun y H2=>rd v y H2 fun z H3=>∃ dx' fs',H3 a=some (.ins C dx' fs')/\fs'.length < 1000/\D.nx σ (upd H3 a (.ins C dx' (putF f z fs')))
section
variable {X:Cx}{o e value:Expr}{f:Str}{pos pos' tpos:Pos}{ta tv:TE}
theorem pe_fld (he:PE X e ta)(hb:attributeBase e f X.env (eval e X.env)=eval e X.env):PE X (.Attribute e f pos) (tFld X.K ta f):=by
 intro pins s σ H Q I h
 refine attr_of hb (thn (he pins s σ H _ I h) fun u s1 ⟨x,H1,I1,rx,a,C,dx,fs,v,ex,ea,c,n,l,q⟩ => ?_)
 subst ex
 obtain rfl:u=Value.ref a:=rx
 exact getattr_ok I1 ea c n l fun u' s2 I2 ru=>⟨v,H1,I2,ru,q⟩
theorem ps_fld (ha:PE X o ta)(hv:PE X value tv)(hs:swapsWith value (some (.Attribute o f pos')) pos.line X.env=pure false):PS X (.Assign [.Attribute o f pos'] value pos) (sFld X.K ta tv f):=by
 intro pins s σ H D I h
 refine plainObj_wpAny_Assign_Attribute (thn (hv pins s σ H _ I h) fun u s1 ⟨y,H1,I1,ry,q⟩=>thn (ha pins s1 σ H1 _ I1 q) fun ov s2 ⟨x,H2,I2,rx,a,C,dx,fs,ex,ea,c,n,l,q2⟩ => ?_) hs
 subst ex
 obtain rfl:ov=Value.ref a:=rx
 exact setattr_ok I2 ea c n l ry fun s3 I3=>⟨σ,_,I3,q2⟩
def rAdd:V->V->Hp->VK->Prop:=fun x y H Q=>∃ i j,x = .int i/\y = .int j/\Q (.int (i+j)) H
def rSub:V->V->Hp->VK->Prop:=fun x y H Q=>∃ i j,x = .int i/\y = .int j/\Q (.int (i - j)) H
theorem methcall_of {pl:Sem Bool}{m:Str}{apos:Pos}{args:List Expr}{pins:List (Addr × Obj)}{s:Shared}{σ:St}{H:Hp}{Q:Value->Shared->Prop}{te:TE}(he:PE X e te)(I:Inv X pins σ H s)
  (h:te σ H fun x H1=>∃ a C dx fs g,x = .ref a/\H1 a=some (.ins C dx fs)/\Cls X.K C/\Meth X.K C m g/\fs.lookup m=none /\
   ∀ s1,Inv X pins σ H1 s1->wpAny (model X.prog X.w) X.A (callWith pos (.ref g) [.ref a] (backTo pos (starEach args X.env)) (backToKw pos (keywordEach [] X.env))) Q X.xe s1)
  (ht:eval (.Call (.Attribute e m apos) args [] pos) X.env=(do
   let ov <- eval e X.env
   standAt apos.atName
   let (f,first) <- holding [ov] (getMethod ov m pl)
   callWith pos f first (backTo pos (starEach args X.env)) (backToKw pos (keywordEach [] X.env)))) :
  wpAny (model X.prog X.w) X.A (eval (.Call (.Attribute e m apos) args [] pos) X.env) Q X.xe s:=by
 refine PySem.W.methodCall_KW (pl:=pl) (thn (he pins s σ H _ I h) fun u s1 ⟨x,H1,I1,rx,a,C,dx,fs,g,ex,ea,c,k,l,q⟩ => ?_) ht
 subst ex
 obtain rfl:u=Value.ref a:=rx
 exact getmeth_ok I1 ea c k l (q s1 I1)
end
section
variable {X:Cx}{pins:List (Addr × Obj)}{σ:St}{H:Hp}{s:Shared}{A:Around}{E:Value->Shared->Prop}{Q:Value->Shared->Prop}{c:Value}{b:Bool}
inductive TyOf (K:PySem.W.Frag)(H:Hp):V->Value->Prop where
 | non:TyOf K H .non (.type "NoneType")
 | bl (x:Bool):TyOf K H (.bl x) (.type "bool")
 | int (i:Int):TyOf K H (.int i) (.type "int")
 | str (x:Str):TyOf K H (.str x) (.type "str")
 | flt (x:UInt64):TyOf K H (.flt x) (.type "float")
 | lst {a:Addr} {xs:List V} (e:H a=some (.lst xs)):TyOf K H (.ref a) (.type "list")
 | frz {a:Addr} {o:Obj} {xs:List V} (e:H a=some (.frz o (.lst xs))):TyOf K H (.ref a) (.type "list")
 | tup {a:Addr} {xs:List V} (e:H a=some (.tup xs)):TyOf K H (.ref a) (.type "tuple")
 | dK {a:Addr} {kvs:List (Key × V)} (e:H a=some (.dK kvs)):TyOf K H (.ref a) (.type "dict")
 | dT {a:Addr} {kvs:List (List Key × V)} (e:H a=some (.dT kvs)):TyOf K H (.ref a) (.type "dict")
 | ins {a C dx:Addr} {fs:List (Str × V)} (e:H a=some (.ins C dx fs)) (cl:Cls K C) (ha:PySem.W.findIn K (.ref C) "__class__" = some (some (.builtin "object.__class__")))
   (hn:PySem.W.specialIn K (.builtin "object.__class__") "__get__" = some (some (.builtin "getset_descriptor.__get__"))) (htk:PySem.W.takesIn K (.builtin "object.__class__")=some true)
   (hm:PySem.W.mroIn K C (.type "object")=some true):TyOf K H (.ref a) (.ref C)
end
end L2
namespace L2
open PySem PySem.Spec PyProof.Rows
structure Room (k:Nat)(A:Around):Prop where
 hd:A.handled=none
 dp:A.depth+3*k+5 < recursionLimit
 un:A.units+16*k+200 < cLine
 gd:A.guards=some []
theorem Room.mono {j k:Nat}{A:Around}(r:Room k A)(h:j<=k):Room j A:=⟨r.hd,by have:=r.dp; omega,by have:=r.un; omega,r.gd⟩
theorem Room.deeper {k:Nat}{A:Around}(r:Room (k+1) A)(env:Env):Room k (A.deeper env) :=
 ⟨r.hd,by have:=r.dp; show A.depth+1+3*k+5 < _; omega,by have:=r.un; show A.units+3+16*k+200 < _; omega,r.gd⟩
theorem make_depth {A:Around}{C:Addr}{us:List Value}{kw:List (Str × Value)}:(A.under (.builtin "type.__call__" ⟨.ref C :: us,kw⟩)).depth=A.depth+1:=by
 first | rfl | simp [Around.under,Code.weight,Code.isCreation,Code.isGuard,Code.isCaller,Code.frames,Code.isFrame,guardIds]
theorem make_units {A:Around}{C:Addr}{us:List Value}{kw:List (Str × Value)}:(A.under (.builtin "type.__call__" ⟨.ref C :: us,kw⟩)).units=A.units+1:=by
 first | rfl | simp [Around.under,Code.cUnits,Code.frames,Code.isFrame]
theorem make_guards {A:Around}{C:Addr}{us:List Value}{kw:List (Str × Value)}:(A.under (.builtin "type.__call__" ⟨.ref C :: us,kw⟩)).guards=A.guards:=by
 first | rfl | (cases h:A.guards <;> simp [Around.under,Code.guards,Code.isGuard,guardIds,pushGuards,h])
theorem Room.make {k:Nat}{A:Around}(r:Room (k+1) A)(C:Addr)(us:List Value)(kw:List (Str × Value)):Room k (A.under (.builtin "type.__call__" ⟨.ref C :: us,kw⟩)) :=
 ⟨r.hd,by have:=r.dp; rw [make_depth]; omega,by have:=r.un; rw [make_units]; omega,by rw [make_guards]; exact r.gd⟩
theorem Room.depth {k:Nat}{A:Around}(r:Room k A):A.depth < recursionLimit:=by have:=r.dp; omega
theorem Room.units {k:Nat}{A:Around}(r:Room k A):A.units+64 < cLine:=by have:=r.un; omega
def tNil:TA:=fun _ H Q=>Q [] H
def tCons (ta:TE)(tr:TA):TA:=fun σ H Q=>ta σ H fun x H1=>tr σ H1 fun xs H2=>Q (x :: xs) H2
section
variable {X:Cx}{e:Expr}{es:List Expr}{te:TE}{t:TA}{pos:Pos}
theorem pa_nil:PA X [] tNil:=fun _ _ _ _ H Q I h=>Calls.spliced_nil ⟨[],H,I,.nil,h⟩
theorem pa_cons (ha:PE X e te)(hr:PA X es t)(hs:starEach (e :: es) X.env=(false,eval e X.env) :: starEach es X.env:=by rfl):PA X (e :: es) (tCons te t):=by
 intro pos pins s σ H Q I h
 rw [hs]
 show wpAny _ _ (spliced ((false,eval e X.env) :: backTo pos (starEach es X.env))) _ _ s
 refine Calls.spliced_cons (thn (ha pins s σ H _ I h) fun u s1 ⟨x,H1,I1,r1,q1⟩ => ?_)
 exact thn (hr pos pins s1 σ H1 _ I1 q1) fun us s2 ⟨xs,H2,I2,r2,q2⟩=>⟨x :: xs,H2,I2,.cons r1 r2,q2⟩
def tTup (t:TA):TE:=fun σ H Q=>t σ H fun xs H1=>xs.length<=sizeLine/\∀ p,H1 p=none->Q (.ref p) (upd H1 p (.tup xs))
def tLst (t:TA):TE:=fun σ H Q=>t σ H fun xs H1=>xs.length<=sizeLine/\∀ p,H1 p=none->Q (.ref p) (upd H1 p (.lst xs))
theorem pe_tup {x1}(h:PA X es t):PE X (.Tuple es x1 pos) (tTup t):=by
 intro pins s σ H Q I hq
 refine wpAny_Tuple_spliced (thn (h pos pins s σ H _ I hq) fun us s1 ⟨xs,H1,I1,r,z,q⟩=>⟨by rw [<- r.length]; exact z,?_⟩)
 have hf:H1 s1.heap.objs.size=none:=I1.hok.fresh (Nat.le_refl _)
 refine ⟨.ref s1.heap.objs.size,upd H1 s1.heap.objs.size (.tup xs),I1.laid (t':=s1.toks) (fun b u e=>Heap.get?_push_of_some _ e) (Nat.le_refl _) ?_,rfl,q _ hf⟩
 exact ⟨⟨z,_,Heap.get?_push_size _ rfl,rfl⟩,us,r,⟨_,Heap.get?_push_size _ rfl,rfl,_,rfl⟩⟩
theorem pe_lst (h:PA X es t):PE X (.List es pos) (tLst t):=by
 intro pins s σ H Q I hq
 refine wpAny_List_spliced (thn (h pos pins s σ H _ I hq) fun us s1 ⟨xs,H1,I1,r,z,q⟩=>⟨by rw [<- r.length]; exact z,?_⟩)
 have hf:H1 s1.heap.objs.size=none:=I1.hok.fresh (Nat.le_refl _)
 refine ⟨.ref s1.heap.objs.size,upd H1 s1.heap.objs.size (.lst xs),I1.laid (t':=s1.toks) (fun b u e=>Heap.get?_push_of_some _ e) (Nat.le_refl _) ?_,rfl,q _ hf⟩
 exact ⟨z,us,0,r,Heap.get?_push_size _ rfl⟩
end
abbrev Sp:=List V->Hp->VK->XK->Prop
abbrev CXT:=List Env->Hp->Shared->XK->Value->Shared->Prop
structure Env0 (P:Program)(w:World)(K:PySem.W.Frag)(mg:Str->Option Value)(base:Heap)(A:Around)(outer:List Env)(s:Shared)(H:Hp):Prop where
 frames:A.frames=some outer
 mod:Mod K mg base
 bs : ∀ b o,base.get? b=some o->s.heap.get? b=some o/\H b=none
 bsz:base.objs.size<=s.heap.objs.size
 funs:s.heap.FunFrames base outer
 frf : ∀ b ∈ frs outer,H b=none
 hok:HOk P w H s.heap
 bare:AllBare s.gens
def CE (outer:List Env)(P:Program)(w:World)(H:Hp)(s:Shared)(Q:VK)(u:Value)(s':Shared):Prop :=
 ∃ v H',s'.os=s.os/\AllBare s'.gens/\Un (frs outer) [] H H' s.heap s'.heap/\HOk P w H' s'.heap/\RelV v u/\Q v H'
def CR (CX:CXT)(outer:List Env)(P:Program)(w:World)(H:Hp)(s:Shared)(Q:VK)(E:XK)(r:Result)(s':Shared):Prop :=
 match r with
 | .ok (.ret u)=>CE outer P w H s Q u s'
 | .ok _=>False
 | .error e=>CX outer H s E e s'
structure FnOk (P:Program)(w:World)(K:PySem.W.Frag)(mg:Str->Option Value)(base:Heap)(CX:CXT)(k:Nat)(f:Addr)(fd:FuncData)(ps:List Str)(sp:Sp):Prop where
 len : ∀ vs H Q E,sp vs H Q E->vs.length=ps.length
 run : ∀ (A:Around) (outer:List Env) (s:Shared) (H:Hp) (args:Args) (us:List Value) (vs:List V) (Q:VK) (E:XK),Room k A->Env0 P w K mg base A outer s H->BindsTo s fd args (ps.zip us)->Vals vs us->sp vs H Q E ->
  codeAny (model P w) A (.call (.ref f) args) (CR CX outer P w H s Q E) s
theorem FnOk.mono {P:Program}{w:World}{K:PySem.W.Frag}{mg:Str->Option Value}{base:Heap}{CX:CXT}{j k:Nat}{f:Addr}{fd:FuncData}{ps:List Str}{sp:Sp}(F:FnOk P w K mg base CX j f fd ps sp)(h:j<=k) :
  FnOk P w K mg base CX k f fd ps sp:=⟨F.len,fun A outer s H args us vs Q E hr=>F.run A outer s H args us vs Q E (hr.mono h)⟩
theorem Env0.make {P:Program}{w:World}{K:PySem.W.Frag}{mg:Str->Option Value}{base:Heap}{A:Around}{outer:List Env}{s:Shared}{H:Hp}(e:Env0 P w K mg base A outer s H)(C:Addr)(us:List Value)(kw:List (Str × Value)) :
    Env0 P w K mg base (A.under (.builtin "type.__call__" ⟨.ref C :: us,kw⟩)) outer s H:=⟨by first | exact e.frames | (simpa [Around.under,Code.envs,Code.isFrame,pushEnvs] using e.frames),e.mod,e.bs,e.bsz,e.funs,e.frf,e.hok,e.bare⟩
section
variable {X:Cx}{pins:List (Addr × Obj)}{σ:St}{H:Hp}{s s':Shared}
theorem Inv.env0 (I:Inv X pins σ H s):Env0 X.prog X.w X.K X.mg X.base X.A X.stack s H :=
 ⟨I.ok.frames,I.ok.mod,I.bs,Nat.le_trans I.ok.bsz I.sz,I.stack,I.stkFree,I.hok,I.bare⟩
theorem Inv.after {Q:VK}{u:Value}(I:Inv X pins σ H s)(h:CE X.stack X.prog X.w H s Q u s'):EP X pins σ Q u s':=by
 obtain ⟨v,H',os,bare,un,hok,r,q⟩:=h
 obtain ⟨hh,g,d,t,os'⟩:=s'
 obtain rfl:os'=s.os:=os
 exact ⟨v,H',I.call (h':=hh) (g':=g) (d':=d) (t':=t) (ch:=[]) un hok bare (fun b z=>absurd z (by simp)),r,q⟩
end
def tCall (sp:Sp)(dvs:List V)(E:XK)(t:TA):TE:=fun σ H Q=>t σ H fun vs H1=>sp (vs ++ dvs) H1 Q E
def tMeth (C:Addr)(m:Str)(sp:Sp)(dvs:List V)(E:XK)(ta:TE)(t:TA):TE:=fun σ H Q=>ta σ H fun x H1=>∃ a dx fs,x = .ref a/\H1 a=some (.ins C dx fs)/\fs.lookup m=none /\
 t σ H1 fun vs H2=>sp (x :: (vs ++ dvs)) H2 Q E
def tMake (C:Addr)(sp:Sp)(dvs:List V)(E:XK)(t:TA):TE:=fun σ H Q=>t σ H fun vs H1=>∀ x dx,H1 x=none->H1 dx=none->dx ≠ x ->
 sp (.ref x :: (vs ++ dvs)) (upd (upd H1 dx (.own x)) x (.ins C dx [])) (fun v H2=>v = .non/\Q (.ref x) H2) E
def Binds (K:PySem.W.Frag)(fd:FuncData)(ps:List Str)(ds:List Value):Prop :=
 ∀ (s:Shared) (us:List Value),K.In s.heap->(us ++ ds).length=ps.length->BindsTo s fd ⟨us,[]⟩ (ps.zip (us ++ ds))
theorem Binds.all {K:PySem.W.Frag}{fd:FuncData}{ps:List Str}(h : ∀ us:List Value,us.length=ps.length->bindArgs fd ⟨us,[]⟩=pure (ps.zip us)):Binds K fd ps []:=fun s us _ hl=>by
 rw [List.append_nil] at hl ⊢
 exact .of_eq (h us hl)
def Passes (CX:CXT)(X:Cx)(E:XK):Prop:=∀ (pins:List (Addr × Obj)) (σ:St) (H:Hp) (s:Shared) (e:Value) (s':Shared),Inv X pins σ H s->CX X.stack H s E e s'->X.xe e s'
section
variable {X:Cx}{CX:CXT}{k:Nat}{f C:Addr}{fd:FuncData}{ps:List Str}{sp:Sp}{dvs:List V}{ds:List Value}{E:XK}{x m:Str}{p pos apos:Pos}{e o:Expr}{es:List Expr}{ta:TE}{t:TA}
theorem run_fn {pins:List (Addr × Obj)}{σ:St}{H:Hp}{s:Shared}{Q:VK}{us:List Value}{vs:List V}(F:FnOk X.prog X.w X.K X.mg X.base CX k f fd ps sp)(hr:Room k X.A)(hb:Binds X.K fd ps ds)(hd:Vals dvs ds)(hx:Passes CX X E)
  (I:Inv X pins σ H s) (r:Vals vs us) (h:sp (vs ++ dvs) H Q E):wpAny (model X.prog X.w) X.A (call (.ref f) us) (EP X pins σ Q) X.xe s:=by
 have r2:Vals (vs ++ dvs) (us ++ ds):=r.append hd
 have hl:(us ++ ds).length=ps.length:=by rw [<- r2.length]; exact F.len _ _ _ _ h
 refine wpAny_call (codeAny_mono (F.run X.A X.stack s H ⟨us,[]⟩ (us ++ ds) (vs ++ dvs) Q E hr I.env0 (hb s us I.kIn hl) r2 h) fun r s' hq => ?_)
 cases r with
 | error e=>exact hx pins σ H s e s' I hq
 | ok fl =>
  cases fl with
  | ret u=>exact I.after hq
  | next=>exact False.elim hq
  | brk=>exact False.elim hq
  | cont=>exact False.elim hq
theorem pe_call (F:FnOk X.prog X.w X.K X.mg X.base CX k f fd ps sp)(hr:Room k X.A)(hg:Gl X x)(hm:X.mg x=some (.ref f))(hk:PySem.W.keepIn X.K (.ref f)=true)(hb:Binds X.K fd ps ds)(hd:Vals dvs ds)(hx:Passes CX X E)
  (ha:PA X (e :: es) t) (hdb:(x == ("__debug__" : Str))=false:=by decide) (he:starEach (e :: es) X.env=(false,eval e X.env) :: starEach es X.env:=by rfl) (hpl:(backTo pos (starEach es X.env)).any (·.1)=false:=by rfl) :
  PE X (.Call (.Name x p) (e :: es) [] pos) (tCall sp dvs E t):=by
 intro pins s σ H Q I h
 refine wpAny_Call_Name_kw (ld_glob I hg hm ?_ hdb)
 refine PySem.W.callWith_K (h₀:=X.base) I.ok.mod.kin hk (thn (ha pos pins s σ H _ I h) fun us s1 ⟨vs,H1,I1,r,q⟩=>⟨I1.kIn,?_⟩) he hpl
 exact run_fn F hr hb hd hx I1 r q
theorem pe_meth {pl:Sem Bool}(he:PE X o ta)(c:Cls X.K C)(hm:Meth X.K C m f)(F:FnOk X.prog X.w X.K X.mg X.base CX k f fd ps sp)(hr:Room k X.A)(hb:Binds X.K fd ps ds)(hd:Vals dvs ds)(hx:Passes CX X E)(ha:PA X (e :: es) t)
  (hst:starEach (e :: es) X.env=(false,eval e X.env) :: starEach es X.env:=by rfl) (hpl:(backTo pos (starEach es X.env)).any (·.1)=false:=by rfl)
  (ht:eval (.Call (.Attribute o m apos) (e :: es) [] pos) X.env=(do
   let ov <- eval o X.env
   standAt apos.atName
   let (f,first) <- holding [ov] (getMethod ov m pl)
   callWith pos f first (backTo pos (starEach (e :: es) X.env)) (backToKw pos (keywordEach [] X.env))):=by rfl) :
  PE X (.Call (.Attribute o m apos) (e :: es) [] pos) (tMeth C m sp dvs E ta t):=by
 intro pins s σ H Q I h
 refine PySem.W.methodCall_KW (pl:=pl) (thn (he pins s σ H _ I h) fun u s1 ⟨x,H1,I1,rx,a,dx,fs,ex,ea,l,q⟩ => ?_) ht
 subst ex
 obtain rfl:u=Value.ref a:=rx
 refine getmeth_ok I1 ea c hm l ?_
 refine PySem.W.callWith_K (first:=[.ref a]) (h₀:=X.base) I.ok.mod.kin hm.kp (thn (ha pos pins s1 σ H1 _ I1 q) fun us s2 ⟨vs,H2,I2,r,q2⟩=>⟨I2.kIn,?_⟩) hst hpl
 exact run_fn (us:=.ref a :: us) (vs:=.ref a :: vs) F hr hb hd hx I2 (.cons rfl r) q2
structure Mk (K:PySem.W.Frag)(C f:Addr):Prop where
 makes:PySem.W.makesIn K C=true
 init:PySem.W.findIn K (.ref C) "__init__" = some (some (.ref f))
 fn:PySem.W.isFn K (.ref f)=true
 kp:PySem.W.keepIn K (.ref C)=true
theorem run_make {pins:List (Addr × Obj)}{σ:St}{H:Hp}{s:Shared}{Q:VK}{us:List Value}{vs:List V}(M:Mk X.K C f)(F:FnOk X.prog X.w X.K X.mg X.base CX k f fd ps sp)(hr:Room (k+1) X.A)(hb:Binds X.K fd ps ds)(hd:Vals dvs ds)
  (hx:Passes CX X E) (I:Inv X pins σ H s) (r:Vals vs us)
  (h : ∀ x dx,H x=none->H dx=none->dx ≠ x->sp (.ref x :: (vs ++ dvs)) (upd (upd H dx (.own x)) x (.ins C dx [])) (fun v H2=>v = .non/\Q (.ref x) H2) E) :
  wpAny (model X.prog X.w) X.A (call (.ref C) us) (EP X pins σ Q) X.xe s:=by
 have hq:=h (s.heap.objs.size+1) s.heap.objs.size (I.hok.fresh (Nat.le_succ _)) (I.hok.fresh (Nat.le_refl _)) (Nat.ne_of_lt (Nat.lt_succ_self _))
 have I2:=Inv.made (C:=C) I
 have r2:Vals (V.ref (s.heap.objs.size+1) :: (vs ++ dvs)) (Value.ref (s.heap.objs.size+1) :: (us ++ ds)):=.cons rfl (r.append hd)
 have hl:(Value.ref (s.heap.objs.size+1) :: us ++ ds).length=ps.length:=by
  have e:=r2.length
  rw [F.len _ _ _ _ hq] at e
  exact e.symm
 refine wpAny_call (make_map (f:=f) I.kIn M.makes M.init (beq_iff_eq.mp M.fn) (codeAny_mono (F.run _ X.stack _ _ ⟨Value.ref (s.heap.objs.size+1) :: us,[]⟩ (Value.ref (s.heap.objs.size+1) :: (us ++ ds)) _ _ E (hr.make C us [])
  (I2.env0.make C us []) (hb _ (Value.ref (s.heap.objs.size+1) :: us) I2.kIn hl) r2 hq) fun r s' hq' => ?_))
 cases r with
 | error e=>exact hx pins σ _ _ e s' I2 hq'
 | ok fl =>
  cases fl with
  | ret u =>
   obtain ⟨v,H',I3,rv,ev,q3⟩:=I2.after hq'
   subst ev
   exact ⟨rv,⟨V.ref (s.heap.objs.size+1),H',I3,rfl,q3⟩⟩
  | next=>exact False.elim hq'
  | brk=>exact False.elim hq'
  | cont=>exact False.elim hq'
theorem pe_make0 (M:Mk X.K C f)(F:FnOk X.prog X.w X.K X.mg X.base CX k f fd ps sp)(hr:Room (k+1) X.A)(hg:Gl X x)(hm:X.mg x=some (.ref C))(hb:Binds X.K fd ps ds)(hd:Vals dvs ds)(hx:Passes CX X E)
  (hdb:(x == ("__debug__" : Str))=false:=by decide):PE X (.Call (.Name x p) [] [] pos) (tMake C sp dvs E tNil):=by
 intro pins s σ H Q I h
 refine wpAny_Call_Name_kw (ld_glob I hg hm ?_ hdb)
 exact PySem.W.callWith_K0 I.kIn M.kp (run_make (us:=[]) M F hr hb hd hx I .nil h)
end
def PK (X:Cx)(kws:List Keyword)(t:TA):Prop :=
 ∀ (pos:Pos) (pins:List (Addr × Obj)) (s:Shared) (σ:St) (H:Hp) (Q:List V->Hp->Prop),Inv X pins σ H s->t σ H Q->wpAny (model X.prog X.w) X.A (evalAll ((backToKw pos (keywordEach kws X.env)).map (·.2))) (AP X pins σ Q) X.xe s
section
variable {X:Cx}{CX:CXT}{k:Nat}{f C:Addr}{fd:FuncData}{ps ks:List Str}{sp:Sp}{E:XK}{x m:Str}{p pos apos kpos:Pos}{e o:Expr}{es:List Expr}{kws:List Keyword}{te ta:TE}{t tk:TA}{nm:Option Str}
structure KBinds (K:PySem.W.Frag)(fd:FuncData)(ps ks:List Str)(g:List Value->List Value->List Value)(gV:List V->List V->List V):Prop where
 to : ∀ (s:Shared) (us ws:List Value),K.In s.heap->(g us ws).length=ps.length->BindsTo s fd ⟨us,ks.zip ws⟩ (ps.zip (g us ws))
 rel : ∀ {vs:List V} {us:List Value} {zs:List V} {ws:List Value},Vals vs us->Vals zs ws->Vals (gV vs zs) (g us ws)
def tCallK (sp:Sp)(gV:List V->List V->List V)(E:XK)(t tk:TA):TE:=fun σ H Q=>t σ H fun vs H1=>tk σ H1 fun zs H2=>sp (gV vs zs) H2 Q E
variable {g:List Value->List Value->List Value}{gV:List V->List V->List V}
end
structure FnScope (N P:List Str)(sc:Scope):Prop where
 kind:sc.kind = .function
 co:sc.isCoroutine=false
 gen:sc.isGenerator=false
 nd:N.Nodup
 pre:N.take P.length=P
 par : ∀ x ∈ P,sc.names.lookup x=some .local\/sc.names.lookup x=some .cell
 nofree : ∀ y ∈ sc.names,y.2 ≠ .free
theorem bindL_out {kindOf:Str->Option NameKind}{x:Str} : ∀ {binds:List (Str × Value)} {m:Str->Option Value},(∀ v,(x,v) ∉ binds)->bindL kindOf binds m x=m x
  | [],_,_=>rfl
  | (n,v) :: r,m,h=>by
    unfold bindL
    rw [bindL_out fun w hw=>h w (List.mem_cons_of_mem _ hw)]
    split
    · have:x ≠ n:=by rintro rfl; exact h v List.mem_cons_self
      simp [this]
    · rfl
theorem bindC_out {kindOf:Str->Option NameKind}{x:Str} : ∀ {binds:List (Str × Value)} {m:Str->Option Value},(∀ v,(x,v) ∉ binds)->bindC kindOf binds m x=m x
  | [],_,_=>rfl
  | (n,v) :: r,m,h=>by
    unfold bindC
    rw [bindC_out fun w hw=>h w (List.mem_cons_of_mem _ hw)]
    split
    · rfl
    · have:x ≠ n:=by rintro rfl; exact h v List.mem_cons_self
      simp [this]
theorem bindL_get {kindOf:Str->Option NameKind}{x:Str}{v:Value} : ∀ {P:List Str} {vs:List Value} {i:Nat} {m:Str->Option Value},P.Nodup->P[i]?=some x->vs[i]?=some v->kindOf x=some .local ->
  bindL kindOf (P.zip vs) m x=some v
 | [],_,_,_,_,h,_,_=>by simp at h
 | _ :: _,[],_,_,_,_,h,_=>by simp at h
 | p :: P,w :: vs,0,m,nd,h1,h2,hk=>by
  simp at h1 h2; subst h1; subst h2
  show bindL kindOf ((p,w) :: P.zip vs) m p=_
  unfold bindL
  rw [bindL_out fun v hv=>(List.nodup_cons.mp nd).1 (List.of_mem_zip hv).1,if_pos hk]
  simp
 | p :: P,w :: vs,i+1,m,nd,h1,h2,hk=>by
  show bindL kindOf ((p,w) :: P.zip vs) m x=_
  unfold bindL
  exact bindL_get (i:=i) (List.nodup_cons.mp nd).2 (by simpa using h1) (by simpa using h2) hk
theorem bindC_get {kindOf:Str->Option NameKind}{x:Str}{v:Value} : ∀ {P:List Str} {vs:List Value} {i:Nat} {m:Str->Option Value},P.Nodup->P[i]?=some x->vs[i]?=some v->kindOf x ≠ some .local ->
  bindC kindOf (P.zip vs) m x=some v
 | [],_,_,_,_,h,_,_=>by simp at h
 | _ :: _,[],_,_,_,_,h,_=>by simp at h
 | p :: P,w :: vs,0,m,nd,h1,h2,hk=>by
  simp at h1 h2; subst h1; subst h2
  show bindC kindOf ((p,w) :: P.zip vs) m p=_
  unfold bindC
  rw [bindC_out fun v hv=>(List.nodup_cons.mp nd).1 (List.of_mem_zip hv).1,if_neg hk]
  simp
 | p :: P,w :: vs,i+1,m,nd,h1,h2,hk=>by
  show bindC kindOf ((p,w) :: P.zip vs) m x=_
  unfold bindC
  exact bindC_get (i:=i) (List.nodup_cons.mp nd).2 (by simpa using h1) (by simpa using h2) hk
def start (N:List Str)(vs:List V):St:=vs.map some ++ List.replicate (N.length - vs.length) none
def cxOf (CX:CXT)(P:Program)(w:World)(K:PySem.W.Frag)(mg:Str->Option Value)(base:Heap)(N:List Str)(qual:Str)(scope:Scope)(f:Addr)(cd:Value)(A:Around)(outer:List Env)(s:Shared)(H:Hp)(E:XK):Cx where
 prog:=P
 w:=w
 K:=K
 mg:=mg
 base:=base
 A:=A.deeper (envOfC qual scope s.heap.objs.size f cd)
 N:=N
 s₀:=s
 H₀:=H
 env:=envOfC qual scope s.heap.objs.size f cd
 outer:=outer
 stack:=envOfC qual scope s.heap.objs.size f cd :: outer
 ex:=[]
 calm:=true
 fn:=fun _=>true
 pn:=[]
 xe:=fun e s'=>wpAny (model P w) (A.deeper (envOfC qual scope s.heap.objs.size f cd)) (leaving (envOfC qual scope s.heap.objs.size f cd) e) (fun _ s''=>CX outer H s E e s'') (fun e' s''=>CX outer H s E e' s'') s'
theorem cell_has {sc:Scope}{n:Nat}{x:Str}(h:sc.names.lookup x=some .cell) : ∃ c,(cellsFrom n sc.names []).lookup x=some c:=by
 have q:=PySem.W.cellsFrom_some sc.names n [] (.inl h)
 exact Option.isSome_iff_exists.mp q
theorem inv_start {CX:CXT}{P:Program}{w:World}{K:PySem.W.Frag}{mg:Str->Option Value}{base:Heap}{N ps:List Str}{qual:Str}{scope:Scope}{f:Addr}{cd:Value}{A:Around}{outer:List Env}{s s1:Shared}{H:Hp}{E:XK}{us:List Value}{vs:List V}
  (S:FnScope N ps scope) (hd:A.handled=none) (e0:Env0 P w K mg base A outer s H) (hl:vs.length=ps.length) (r:Vals vs us)
  (x:InCallC s s.heap.objs.size (bindL (envOfC qual scope s.heap.objs.size f cd).kindOf (ps.zip us) fun _=>none) (cellsFrom (s.heap.objs.size+1) scope.names []) (bindC (envOfC qual scope s.heap.objs.size f cd).kindOf (ps.zip us) fun _=>none) s1) :
  Inv (cxOf CX P w K mg base N qual scope f cd A outer s H E) [] (start N vs) H s1:=by
 have hpl:ps.length<=N.length:=by have:=congrArg List.length S.pre; rw [List.length_take] at this; omega
 obtain ⟨h1,tk,rfl,hk⟩:=x.done
 have noA : ∀ b:Addr,b ∉ (cxOf CX P w K mg base N qual scope f cd A outer s H E).ex:=fun b z=>absurd (show b ∈ ([]:List Addr) from z) (by simp)
 refine ⟨⟨e0.mod,S.kind,rfl,rfl,Nat.le_refl _,fun y z c h1 h2 => ?_,fun y hy => ?_,fun y c _ h => ?_,fun _=>hd,Around.frames_deeper e0.frames,.inr ⟨rfl,rfl⟩,fun b z=>absurd z (noA b),e0.bs,e0.bsz,fun b _ _=>noA b,fun b z=>absurd z (noA b),e0.funs,e0.frf⟩,
  rfl,e0.bare,Un.kept hk,⟨_,x.toInCall.ns,fun i y v h1 h2 h3 => ?_⟩,fun y c h=>⟨_,x.cell y c h⟩,e0.hok.fresh (Nat.le_refl _),fun y c h => ?_,fun p hp=>absurd (show p ∈ ([]:List (Addr × Obj)) from hp) (by simp),e0.hok.kept hk,?_⟩
 ·exact name_of_addr x.apart (PySem.mem_of_lookup h1) (PySem.mem_of_lookup h2)
 ·have hy:scope.names.lookup y=some .cell\/scope.names.lookup y=some .free:=hy
  rcases hy with hy | hy
  ·exact cell_has hy
  ·exact absurd rfl (S.nofree _ (PySem.mem_of_lookup hy))
 ·exact Nat.le_of_lt (x.above y c (PySem.mem_of_lookup h))
 ·have hi:i < vs.length:=by
   unfold start at h2
   by_cases hi:i < vs.length
   ·exact hi
   ·rw [List.getElem?_append_right (by simpa using hi)] at h2
    rw [List.getElem?_replicate] at h2
    split at h2 <;> cases h2
  have ha:vs[i]?=some v:=by
   unfold start at h2
   rw [List.getElem?_append_left (by simpa using hi),List.getElem?_map] at h2
   cases e:vs[i]? with
   | none=>rw [e] at h2; cases h2
   | some a=>rw [e] at h2; cases h2; rfl
  obtain ⟨u,hu,rv⟩:=r.get ha
  have hp:ps[i]?=some y:=by
   rw [<- S.pre,List.getElem?_take_of_lt (by omega)]; exact h1
  have ndP:ps.Nodup:=by rw [<- S.pre]; exact S.nd.sublist (List.take_sublist _ _)
  refine ⟨u,rv,?_⟩
  rcases S.par y (List.mem_of_getElem? hp) with k | k
  ·exact .inl ⟨k,bindL_get ndP hp hu k⟩
  ·obtain ⟨c,e⟩:=cell_has (n:=s.heap.objs.size+1) k
   refine .inr ⟨.inl k,c,e,?_⟩
   have q:=x.cell y c e
   rw [bindC_get ndP hp hu (by show scope.names.lookup y ≠ _; rw [k]; decide)] at q
   exact q
 ·exact e0.hok.fresh (Nat.le_of_lt (x.above y c (PySem.mem_of_lookup h)))
 ·unfold start
  show _=N.length
  rw [List.length_append,List.length_map,List.length_replicate]
  omega
theorem fn_of {CX:CXT}{P:Program}{w:World}{K:PySem.W.Frag}{mg:Str->Option Value}{base:Heap}{k:Nat}{f:Addr}{name qual:Str}{params:Arguments}{body:List Stmt}{scope:Scope}{dV kV doc pm cdv ct oc:Value}{an od:Option Addr}
  {osl:Array (Option Value)} {N ps:List Str} {sp:Sp} (lk:K.lookup f=some ⟨oc,od,.func (PySem.W.fnOf name qual params body scope dV kV doc pm an cdv ct),osl⟩) (hcd:PySem.W.codeIn K cdv qual=true) (S:FnScope N ps scope)
  (len : ∀ vs H Q E,sp vs H Q E->vs.length=ps.length)
  (hbody : ∀ (A:Around) (outer:List Env) (s:Shared) (H:Hp) (vs:List V) (Q:VK) (E:XK),Room k (A.deeper (envOfC qual scope s.heap.objs.size f cdv))->sp vs H Q E ->
   ∃ t,PSs (cxOf CX P w K mg base N qual scope f cdv A outer s H E) body t/\t { nx:=fun _ H'=>Q .non H',rt:=Q } (start N vs) H) :
  FnOk P w K mg base CX (k+1) f (PySem.W.fnOf name qual params body scope dV kV doc pm an cdv ct) ps sp:=by
 refine ⟨len,fun A outer s H args us vs Q E hr e0 hb r hsp => ?_⟩
 have hl:=len _ _ _ _ hsp
 have KX:K.In s.heap:=e0.mod.kin.keeps fun b o e=>(e0.bs b o e).1
 have lim:s.heap.NoLimit:=e0.mod.nolimit.keeps fun b o e=>(e0.bs b o e).1
 have hkind : ∀ y ∈ ps.zip us,scope.names.lookup y.1=some .local\/(scope.names.lookup y.1=some .cell/\((cellsFrom (s.heap.objs.size+1) scope.names []).lookup y.1).isSome=true):=fun ⟨n,v⟩ hy=>by
  rcases S.par n (List.of_mem_zip hy).1 with q | q
  ·exact .inl q
  ·exact .inr ⟨q,PySem.W.cellsFrom_some _ _ _ (.inl q)⟩
 refine codeAny_call_function hr.depth (KX _ _ lk) rfl S.co S.gen rfl (PySem.W.codeRec_of KX hcd) (hb _ _ _ _ ?_)
 refine wpAny_newFunctionEnv_cells S.kind hkind fun env he s1 x => ?_
 subst he
 refine ⟨lim.keeps x.toInCall.keep,codeAny_func ?_⟩
 obtain ⟨t,ht,hq⟩:=hbody A outer s H vs Q E (hr.deeper _) hsp
 have I:Inv (cxOf CX P w K mg base N qual scope f cdv A outer s H E) [] (start N vs) H s1:=inv_start S hr.hd e0 hl r x
 refine wpAny_mono (ht [] s1 (start N vs) H _ I hq) (fun fl s' hs => ?_) fun e s' hs=>hs
 have fin : ∀ {σ':St} {H':Hp} {v:V} {u:Value},Inv (cxOf CX P w K mg base N qual scope f cdv A outer s H E) [] σ' H' s'->RelV v u->Q v H'->CE outer P w H s Q u s' :=
  fun {σ' H' v u} J rv q=>⟨v,H',J.os,J.bare,J.base,J.hok,rv,q⟩
 cases fl with
 | ret u =>
  obtain ⟨v,σ',H',J,rv,q⟩:=hs
  exact fin J rv q
 | next =>
  obtain ⟨σ',H',J,q⟩:=hs
  exact fin (v:=V.non) (u:=Value.none) J rfl q
 | brk =>
  obtain ⟨_,_,_,q⟩:=hs
  exact False.elim q
 | cont =>
  obtain ⟨_,_,_,q⟩:=hs
  exact False.elim q
end L2
namespace L2
open PySem PySem.Spec PyProof.Rows
section
variable {X:Cx}{x:Str}{p pos:Pos}{e:Expr}{es:List Expr}{t:TA}{id T:String}{r:List V->Hp->VK->Prop}
def tCB (r:List V->Hp->VK->Prop)(t:TA):TE:=fun σ H Q=>t σ H fun vs H1=>r vs H1 Q
theorem pe_callB (hc:CallR X (.builtin id) r)(hg:Gl X x)(hm:X.mg x=none)(hv:bootBuiltins x=some (.builtin id))(ha:PA X (e :: es) t)(hn:x ≠ "__name__" := by decide)(hdb:(x == ("__debug__" : Str))=false:=by decide)
  (he:starEach (e :: es) X.env=(false,eval e X.env) :: starEach es X.env:=by rfl) (hpl:(backTo pos (starEach es X.env)).any (·.1)=false:=by rfl):PE X (.Call (.Name x p) (e :: es) [] pos) (tCB r t):=by
 intro pins s σ H Q I h
 refine wpAny_Call_Name_kw (ld_blt I hg hm hv ?_ hn hdb)
 exact PyProof.Rows.callWith_builtin1 (thn (ha pos pins s σ H _ I h) fun us s1 ⟨vs,H1,I1,r1,q1⟩=>hc pins s1 σ H1 vs us Q I1 r1 q1) he hpl
theorem pe_callTy (hc:CallR X (.type T) r)(hg:Gl X x)(hm:X.mg x=none)(hv:bootBuiltins x=some (.type T))(ha:PA X (e :: es) t)(hn:x ≠ "__name__" := by decide)(hdb:(x == ("__debug__" : Str))=false:=by decide)
  (he:starEach (e :: es) X.env=(false,eval e X.env) :: starEach es X.env:=by rfl) (hpl:(backTo pos (starEach es X.env)).any (·.1)=false:=by rfl):PE X (.Call (.Name x p) (e :: es) [] pos) (tCB r t):=by
 intro pins s σ H Q I h
 refine wpAny_Call_Name_kw (ld_blt I hg hm hv ?_ hn hdb)
 exact PyProof.Rows.callWith_type1 (thn (ha pos pins s σ H _ I h) fun us s1 ⟨vs,H1,I1,r1,q1⟩=>hc pins s1 σ H1 vs us Q I1 r1 q1) he hpl
end
end L2
namespace HT
open PySem PyProof.Rows
def lexLt:List Int->List Int->Bool
 | [],[]=>false
 | [],_ :: _=>true
 | _ :: _,[]=>false
 | x :: xs,y :: ys=>if x=y then lexLt xs ys else decide (x < y)
section
open PySem.SeqAt
open PySem.AutoSeq1 (wpAny_loadPart')
open PySem.MeetsSeq PySem.MeetsSeq2 PySem.MeetsSeq3
end
section
variable {prog:Program}{w:World}{A:Around}{E:Value->Shared->Prop}{s:Shared}
theorem cat_tup {t b:Addr}{vs ws:List Value}{Q:Value->Shared->Prop}(ht:IsTup s.heap t vs.toArray)(hb:IsTup s.heap b ws.toArray)(hv:vs ≠ [])
  (h1:ws=[]->Q (.ref t) s) (h2:ws ≠ []->Q (.ref s.heap.objs.size) { s with heap:=s.heap.push { cls:=.type "tuple",data:=.seq (vs ++ ws).toArray } })
  (hsz:vs.length+ws.length<=sizeLine):wpAny (model prog w) A (binaryOp .Add (.ref t) (.ref b)) Q E s:=by
 obtain ⟨⟨cls,dd,data,sl⟩,ho,hc,n,hd⟩:=id ht
 obtain ⟨⟨cls2,dd2,data2,sl2⟩,ho2,hc2,n2,hd2⟩:=id hb
 simp only at hc hd hc2 hd2
 subst hc hd hc2 hd2
 have e:vs.toArray ++ ws.toArray=(vs ++ ws).toArray:=by simp
 by_cases hw:ws=[]
 ·exact concat_meets ⟨_,ho,rfl⟩ ⟨_,ho2,rfl⟩ noFill_tuple_add seq_tuple_add PySem.F.slot_tuple_add PySem.F.entry_tuple_add (PySem.F.args_tuple_add_2 _ _)
   (tuple_addW1 t b vs.toArray ws.toArray n n2 dd dd2 sl sl2 (by simpa using hv) (by simp [hw])) ⟨ho,ho2,h1 hw⟩
 ·refine concat_meets ⟨_,ho,rfl⟩ ⟨_,ho2,rfl⟩ noFill_tuple_add seq_tuple_add PySem.F.slot_tuple_add PySem.F.entry_tuple_add (PySem.F.args_tuple_add_2 _ _)
   (tuple_addW2 t b vs.toArray ws.toArray n n2 dd dd2 sl sl2 (by simpa using hv) (by simpa using hw) (by rw [List.size_toArray,List.size_toArray]; exact hsz)) ⟨ho,ho2,?_⟩
  rw [e]
  exact h2 hw
def sIx (n d:Nat):Option Int->Nat
 | none=>d
 | some v=>if v < 0 then (v+(n:Int)).toNat else min v.toNat n
end
end HT
namespace L2
open PySem PySem.Spec PyProof.Rows
abbrev TO:=St->Hp->(Option Int->Hp->Prop)->Prop
def PO (X:Cx)(e:Option Expr)(t:TO):Prop :=
 ∀ (pins:List (Addr × Obj)) (s:Shared) (σ:St) (H:Hp) (Q:Option Int->Hp->Prop),Inv X pins σ H s->t σ H Q ->
  wpAny (model X.prog X.w) X.A (evalPart e X.env) (fun u s'=>∃ o H',Inv X pins σ H' s'/\IsPart u o/\Q o H') X.xe s
def tNoPart:TO:=fun _ H Q=>Q none H
def tPart (t:TE):TO:=fun σ H Q=>t σ H fun x H1=>∃ i,x = .int i/\Q (some i) H1
theorem intsAre_of {ns:List Int} : ∀ {us:List Value},Vals (ns.map V.int) us->IntsAre us ns:=by
 induction ns with
 | nil=>intro us r; rw [List.map_nil] at r; cases r; exact .nil
 | cons n ns ih =>
  intro us r
  rw [List.map_cons] at r
  cases r with
  | cons r1 r2 =>
   obtain ⟨t,e⟩:=r1
   subst e
   exact .cons n t (ih r2)
section
variable {X:Cx}{e:Expr}{te:TE}{lo hi:Option Expr}{tl th:TO}{pos p2:Pos}
theorem po_none:PO X none tNoPart:=by
 intro pins s σ H Q I h
 rw [evalPart_none]
 exact wpAny_pure ⟨none,H,I,.none,h⟩
theorem po_some (h:PE X e te):PO X (some e) (tPart te):=by
 intro pins s σ H Q I hw
 rw [evalPart_some]
 refine thn (h pins s σ H _ I hw) fun u s1 ⟨x,H1,I1,r1,q1⟩ => ?_
 obtain ⟨i,rfl,q⟩:=q1
 obtain ⟨t,rfl⟩:=r1
 exact ⟨some i,H1,I1,.int i t,q⟩
def SlR (X:Cx)(r:V->Option Int->Option Int->Hp->VK->Prop):Prop :=
 ∀ (pins:List (Addr × Obj)) (s:Shared) (σ:St) (H:Hp) (x:V) (v vl vu:Value) (lo hi:Option Int) (sl:Addr) (Q:VK),Inv X pins σ H s->RelV x v->s.heap.IsSliceOf sl vl vu .none->IsPart vl lo->IsPart vu hi->r x lo hi H Q ->
  ∃ T id,typeLookup (.type T) "__getitem__" = pure (some (.builtin id))/\s.TypeIs v T/\wpAny (model X.prog X.w) X.A (getItem v (.ref sl)) (EP X pins σ Q) X.xe s
def tSl (r:V->Option Int->Option Int->Hp->VK->Prop)(te:TE)(tl th:TO):TE:=fun σ H Q=>te σ H fun x H1=>tl σ H1 fun l H2=>th σ H2 fun u H3=>r x l u H3 Q
theorem pe_slice {r:V->Option Int->Option Int->Hp->VK->Prop}(hr:SlR X r)(he:PE X e te)(hl:PO X lo tl)(hu:PO X hi th):PE X (.Subscript e (.Slice lo hi none p2) pos) (tSl r te tl th):=by
 intro pins s σ H Q I h
 refine Subscript_ (thn (he pins s σ H _ I h) fun v s1 ⟨x,H1,I1,r1,q1⟩ => ?_)
 refine wpAny_Slice (thn (hl pins s1 σ H1 _ I1 q1) fun vl s2 ⟨l,H2,I2,pl,q2⟩=>thn (hu pins s2 σ H2 _ I2 q2) fun vu s3 ⟨u,H3,I3,pu,q3⟩ => ?_)
 rw [evalPart_none]
 refine wpAny_pure ?_
 have I4:Inv X pins σ H3 { s3 with heap:=s3.heap.push { cls:=.type "slice",data:=.fields #[vl,vu,.none] } }:=I3.kept (t':=s3.toks) fun b ob q=>Heap.get?_push_of_some _ q
 obtain ⟨T,id,hT,ht,hg⟩:=hr pins { s3 with heap:=s3.heap.push { cls:=.type "slice",data:=.fields #[vl,vu,.none] } } σ H3 x v vl vu l u s3.heap.objs.size Q I4 r1 (Heap.IsSliceOf.new ..) pl pu q3
 show wpAny (model X.prog X.w) X.A (subscriptTail e (.Slice lo hi none p2) v (.ref s3.heap.objs.size)) (EP X pins σ Q) X.xe { s3 with heap:=s3.heap.push { cls:=.type "slice",data:=.fields #[vl,vu,.none] } }
 exact tail_any (ops:=[.ref s3.heap.objs.size,v]) ht hT hg (by with_unfolding_all rfl)
def cutV (xs:List V)(lo hi:Option Int):List V:=(xs.drop (HT.sIx xs.length 0 lo)).take (HT.sIx xs.length xs.length hi - HT.sIx xs.length 0 lo)
theorem cutV_length (xs:List V)(lo hi:Option Int):(cutV xs lo hi).length<=xs.length:=by
 unfold cutV
 rw [List.length_take,List.length_drop]
 omega
def rSlT (K:PySem.W.Frag):V->Option Int->Option Int->Hp->VK->Prop:=fun x lo hi H Q=>∃ a xs,x = .ref a/\SqT K H a xs /\
 ¬ (HT.sIx xs.length 0 lo=0/\HT.sIx xs.length xs.length hi=xs.length)/\∀ p,H p=none->Q (.ref p) (upd H p (.tup (cutV xs lo hi)))
def rLtT (K:PySem.W.Frag):R2:=fun x y H Q=>∃ a b ns ms,x = .ref a/\y = .ref b/\SqT K H a (ns.map V.int)/\SqT K H b (ms.map V.int)/\Q (.bl (HT.lexLt ns ms)) H
def rCatT (K:PySem.W.Frag):R2:=fun x y H Q=>∃ a b xs ys,x = .ref a/\y = .ref b/\SqT K H a xs/\SqT K H b ys/\xs ≠ []/\xs.length+ys.length<=sizeLine /\
 (ys=[]->Q (.ref a) H)/\(ys ≠ []->∀ p,H p=none->Q (.ref p) (upd H p (.tup (xs ++ ys))))
theorem Vals.nil_iff {xs:List V}{us:List Value}(r:Vals xs us):us=[] ↔ xs=[]:=by
 cases r with
 | nil=>simp
 | cons _ _=>simp
theorem op_catT:OpR X (binaryOp .Add) (rCatT X.K):=by
 intro pins s σ H x y v u Q I rx ry h
 obtain ⟨a,b,xs,ys,rfl,rfl,ha,hb,hx,hz,q1,q2⟩:=h
 cases rx
 cases ry
 obtain ⟨its,r1,p1,_⟩:=I.tuple ha
 obtain ⟨its2,r2,p2,_⟩:=I.tuple hb
 refine HT.cat_tup p1 p2 (fun z=>hx (r1.nil_iff.mp z)) (fun z=>⟨.ref a,H,I,rfl,q1 (r2.nil_iff.mp z)⟩) (fun z => ?_) (by rw [<- r1.length,<- r2.length]; exact hz)
 refine ⟨.ref s.heap.objs.size,_,I.laid (t':=s.toks) (o:=.tup (xs ++ ys)) (fun b ob q=>Heap.get?_push_of_some _ q) (Nat.le_refl _) ?_,rfl,q2 (fun w=>z (r2.nil_iff.mpr w)) _ (I.hok.fresh (Nat.le_refl _))⟩
 exact ⟨⟨by rw [List.length_append]; exact hz,_,Heap.get?_push_size _ rfl,rfl⟩,_,r1.append r2,IsTup.new _ _⟩
end
end L2
namespace L2
open PySem PySem.Spec PyProof.Rows
def ixN (n:Nat)(i:Int):Option Nat:=if 0<=i then (if i < n then some i.toNat else none) else if -(n:Int)<=i then some (i+n).toNat else none
def atI {α:Type}(xs:List α)(i:Int):Option α:=(ixN xs.length i).bind fun j=>xs[j]?
theorem ixN_seq {n:Nat}{i:Int}{j:Nat}(h:ixN n i=some j):seqIndex? i n=some j/\j < n /\ -(n:Int)<=i/\i < n:=by
 unfold ixN at h
 by_cases h0:0<=i
 ·rw [if_pos h0] at h
  by_cases h1:i < n
  ·rw [if_pos h1] at h
   have e:i.toNat=j:=Option.some.inj h
   exact ⟨by rw [seqIndex_of h0 h1,e],by omega,by omega,h1⟩
  ·rw [if_neg h1] at h; cases h
 ·rw [if_neg h0] at h
  by_cases h1 : -(n:Int)<=i
  ·rw [if_pos h1] at h
   have e:(i+n).toNat=j:=Option.some.inj h
   exact ⟨by rw [seqIndex_neg (by omega) h1,e],by omega,h1,by omega⟩
  ·rw [if_neg h1] at h; cases h
theorem atI_get {α:Type}{xs:List α}{i:Int}{v:α}(h:atI xs i=some v) : ∃ j,seqIndex? i xs.length=some j/\xs[j]?=some v/\j < xs.length /\ -(xs.length:Int)<=i/\i < xs.length:=by
 unfold atI at h
 cases e:ixN xs.length i with
 | none=>rw [e] at h; cases h
 | some j =>
  rw [e] at h
  obtain ⟨h1,h2,h3,h4⟩:=ixN_seq e
  exact ⟨j,h1,h,h2,h3,h4⟩
theorem atI_nat {α:Type}{xs:List α}{j:Nat}{v:α}(h:xs[j]?=some v):atI xs (j:Int)=some v:=by
 have hj:j < xs.length:=(List.getElem?_eq_some_iff.mp h).1
 have e:ixN xs.length (j:Int)=some j:=by
  unfold ixN
  rw [if_pos (by omega),if_pos (by omega)]; simp
 unfold atI; rw [e]; exact h
theorem atI_last {α:Type}(xs:List α)(v:α):atI (xs ++ [v]) (-1)=some v:=by
 have hl:(xs ++ [v]).length=xs.length+1:=by simp
 have e:ixN (xs ++ [v]).length (-1)=some xs.length:=by
  unfold ixN
  rw [hl,if_neg (by decide),if_pos (by omega)]
  congr 1
  omega
 unfold atI
 rw [e]
 show (xs ++ [v])[xs.length]?=some v
 simp
def PlainIx (b:Expr):Prop:=∀ o i,subscripted b false o i=operate [o,i] (getItem o i)
def IxR (X:Cx)(r:R2):Prop :=
 ∀ (value slice:Expr) (pins:List (Addr × Obj)) (s:Shared) (σ:St) (H:Hp) (x y:V) (v u:Value) (Q:VK),Inv X pins σ H s->RelV x v->RelV y u->r x y H Q ->
  subscripted slice false v u=operate [v,u] (getItem v u)->wpAny (model X.prog X.w) X.A (subscriptTail value slice v u) (EP X pins σ Q) X.xe s
def MtR (X:Cx)(id:String)(r:V->List V->Hp->VK->Prop):Prop :=
 ∀ (pins:List (Addr × Obj)) (s:Shared) (σ:St) (H:Hp) (x:V) (xs:List V) (v:Value) (us:List Value) (Q:VK),Inv X pins σ H s->RelV x v->Vals xs us->r x xs H Q ->
  wpAny (model X.prog X.w) X.A (call (.builtin id) (v :: us)) (EP X pins σ Q) X.xe s
section
variable {X:Cx}{a b:Expr}{ta tb:TE}{pos:Pos}
theorem pe_ix {r:R2}(hr:IxR X r)(ha:PE X a ta)(hb:PE X b tb)(hs:PlainIx b):PE X (.Subscript a b pos) (tOp r ta tb):=by
 intro pins s σ H Q I h
 exact Subscript_ (binT ha hb I h fun v u s2 x y H2 I2 rx ry q=>hr a b pins s2 σ H2 x y v u Q I2 rx ry q (hs _ _))
def rIxL (K:PySem.W.Frag):R2:=fun x y H Q=>∃ p xs i v,x = .ref p/\y = .int i/\SqL K H p xs/\atI xs i=some v/\Q v H
def rIxT (K:PySem.W.Frag):R2:=fun x y H Q=>∃ p xs i v,x = .ref p/\y = .int i/\SqT K H p xs/\atI xs i=some v/\Q v H
def rIxS:R2:=fun x y H Q=>∃ z i c,x = .str z/\y = .int i/\z.length<=sizeLine/\atI z.cps.toList i=some c/\Q (.str ⟨#[c]⟩) H
theorem ix_list:IxR X (rIxL X.K):=by
 intro value slice pins s σ H x y v u Q I rx ry h hs
 obtain ⟨p,xs,i,z,rfl,rfl,hq,he,q⟩:=h
 cases rx
 obtain ⟨t,rfl⟩:=ry
 obtain ⟨its,r,pl,hz⟩:=I.list hq
 obtain ⟨j,h1,h2,h3,h4,h5⟩:=atI_get he
 obtain ⟨w,ew,rw'⟩:=r.get h2
 have hl:=r.length
 have hn:=line63
 have fin:EP X pins σ Q w s:=⟨z,H,I,rw',q⟩
 by_cases h0:0<=i
 ·have hj:i.toNat=j:=by
   rw [seqIndex_of h0 h5] at h1
   exact Option.some.inj h1
  exact item_listR pl.isList h0 (by omega) (by rw [hj]; simpa using ew) fin hs
 ·have hj:(i+(its.toArray.size:Int)).toNat=j:=by
   rw [seqIndex_neg (by omega) h4] at h1
   rw [List.size_toArray,<- hl]
   exact Option.some.inj h1
  exact subscriptTail_builtinR (x:=w) pl.isList.typeIs slot_list_getitem.lookup
   (wpAny_getItem_list_neg (Q:=fun r s'=>r=w/\EP X pins σ Q r s') pl.isList (by omega) (by rw [List.size_toArray] <;> omega) (by omega) (by rw [hj]; simpa using ew) ⟨rfl,fin⟩) hs
theorem ix_tup:IxR X (rIxT X.K):=by
 intro value slice pins s σ H x y v u Q I rx ry h hs
 obtain ⟨p,xs,i,z,rfl,rfl,hq,he,q⟩:=h
 cases rx
 obtain ⟨t,rfl⟩:=ry
 obtain ⟨its,r,pl,hz⟩:=I.tuple hq
 obtain ⟨j,h1,h2,h3,h4,h5⟩:=atI_get he
 obtain ⟨w,ew,rw'⟩:=r.get h2
 have hl:=r.length
 have hn:=line63
 have fin:EP X pins σ Q w s:=⟨z,H,I,rw',q⟩
 exact subscriptTail_builtinR (x:=w) pl.typeIs slot_tuple_getitem.lookup
  (getItem_tuple (j:=j) (Q:=fun r s'=>r=w/\EP X pins σ Q r s') pl (by omega) (by omega) (by rw [List.size_toArray,<- hl]; exact h1) (by simpa using ew) ⟨rfl,fin⟩) hs
theorem ix_str:IxR X rIxS:=by
 intro value slice pins s σ H x y v u Q I rx ry h hs
 obtain ⟨z,i,c,rfl,rfl,hz,he,q⟩:=h
 obtain ⟨t,rfl⟩:=rx
 obtain ⟨t',rfl⟩:=ry
 obtain ⟨j,h1,h2,h3,h4,h5⟩:=atI_get he
 have hl:z.cps.toList.length=z.length:=by simp [Str.length]
 rw [hl] at h1 h4 h5
 have hn:=line63
 exact tail_any (typeIs_str s z t) slot_str_getitem.lookup (getItem_str (c:=c) (by
  have e1:decide (i < -(2 ^ 63:Int))=false:=decide_eq_false (by omega)
  have e2:decide (i ≥ 2 ^ 63)=false:=decide_eq_false (by omega)
  rw [e1,e2,Bool.or_false]) (by rw [h1]; simpa using h2) ⟨.str ⟨#[c]⟩,H,I.tok _,⟨_,rfl⟩,q⟩) hs
def rIx (K:PySem.W.Frag):R2:=fun x y H Q=>rIxL K x y H Q\/rIxT K x y H Q\/rIxS x y H Q
def rSetL:V->V->V->Hp->(Hp->Prop)->Prop:=fun o i v H Q=>∃ p xs k j,o = .ref p/\i = .int k/\H p=some (.lst xs)/\ixN xs.length k=some j/\Q (upd H p (.lst (xs.set j v)))
theorem slice_bounds (lo hi:Option Int)(n:Nat):(sliceBounds lo hi none n).1=((HT.sIx n 0 lo:Nat):Int)/\(sliceBounds lo hi none n).2.1=((HT.sIx n n hi:Nat):Int)/\(sliceBounds lo hi none n).2.2=1:=by
 refine ⟨?_,?_,rfl⟩
 ·cases lo with
  | none=>simp [sliceBounds,HT.sIx]
  | some i =>
   simp only [sliceBounds,HT.sIx,Option.getD_none,show (1:Int) > 0 by decide,if_true]
   by_cases h:i < 0
   ·simp only [h,if_true] <;> omega
   ·simp only [h,if_false] <;> omega
 ·cases hi with
  | none=>simp [sliceBounds,HT.sIx]
  | some i =>
   simp only [sliceBounds,HT.sIx,Option.getD_none,show (1:Int) > 0 by decide,if_true]
   by_cases h:i < 0
   ·simp only [h,if_true] <;> omega
   ·simp only [h,if_false] <;> omega
theorem slicePick_cut (its:List Value)(lo hi:Option Int):slicePick its.toArray lo hi none=((its.drop (HT.sIx its.length 0 lo)).take (HT.sIx its.length its.length hi - HT.sIx its.length 0 lo)).toArray:=by
 obtain ⟨h1,h2,h3⟩:=slice_bounds lo hi its.toArray.size
 unfold slicePick
 rw [h1,h2,h3]
 simp only [sliceRange_one,pick_run,List.size_toArray] <;> rfl
def rSlL (K:PySem.W.Frag):V->Option Int->Option Int->Hp->VK->Prop:=fun x lo hi H Q=>∃ a xs,x = .ref a/\SqL K H a xs/\∀ p,H p=none->Q (.ref p) (upd H p (.lst (cutV xs lo hi)))
theorem sl_list:SlR X (rSlL X.K):=by
 intro pins s σ H x v vl vu lo hi sl Q I rx hs pl pu h
 obtain ⟨a,xs,rfl,hx,q⟩:=h
 cases rx
 obtain ⟨its,r,ht,hz⟩:=I.list hx
 have hlen:=r.length
 refine ⟨"list",_,slot_list_getitem.lookup,ht.isList.typeIs,?_⟩
 refine wpAny_getItem_list_slice ht.isList hs pl pu .none (by simp) ?_ (by rw [List.size_toArray] <;> omega)
 rw [slicePick_cut,<- hlen]
 refine ⟨.ref s.heap.objs.size,_,I.laid (t':=s.toks) (o:=.lst (cutV xs lo hi)) (fun b ob q=>Heap.get?_push_of_some _ q) (Nat.le_refl _) ?_,rfl,q _ (I.hok.fresh (Nat.le_refl _))⟩
 exact ⟨Nat.le_trans (cutV_length xs lo hi) hz,_,0,(r.drop (HT.sIx xs.length 0 lo)).take (HT.sIx xs.length xs.length hi - HT.sIx xs.length 0 lo),Heap.get?_push_size _ rfl⟩
def flatV:V->Bool
 | .non=>true
 | .bl _=>true
 | .int _=>true
 | .str _=>true
 | _=>false
def eqV:V->V->Bool
 | .non,.non=>true
 | .bl a,.bl b=>a == b
 | .bl a,.int b=>(if a then 1 else 0) == b
 | .int a,.bl b=>a == (if b then 1 else 0)
 | .int a,.int b=>a == b
 | .str a,.str b=>a == b
 | _,_=>false
theorem eqAt_V {A:Around}{s:Shared}{y x:V}{u v:Value}(ry:RelV y u)(rx:RelV x v)(fy:flatV y=true)(fx:flatV x=true):SeqAt.EqAt A s u v (eqV y x):=by
 cases y with
 | non =>
  cases ry
  cases x with
  | non=>cases rx; exact SeqAt.EqAt.same _
  | bl b=>cases rx; exact SeqAt.EqAt.none_bool b
  | int b=>obtain ⟨t,rfl⟩:=rx; exact SeqAt.EqAt.none_int b t
  | str b=>obtain ⟨t,rfl⟩:=rx; exact SeqAt.EqAt.none_str b t
  | _=>exact absurd (show false=true from fx) Bool.false_ne_true
 | bl a =>
  cases ry
  cases x with
  | non=>cases rx; exact SeqAt.EqAt.bool_none a
  | bl b=>cases rx; exact SeqAt.EqAt.bool_bool a b
  | int b=>obtain ⟨t,rfl⟩:=rx; exact SeqAt.EqAt.bool_int a b t
  | str b=>obtain ⟨t,rfl⟩:=rx; exact SeqAt.EqAt.bool_str a b t
  | _=>exact absurd (show false=true from fx) Bool.false_ne_true
 | int a =>
  obtain ⟨t',rfl⟩:=ry
  cases x with
  | non=>cases rx; exact SeqAt.EqAt.int_none a t'
  | bl b=>cases rx; exact SeqAt.EqAt.int_bool a t' b
  | int b=>obtain ⟨t,rfl⟩:=rx; exact SeqAt.EqAt.int_int a t' b t
  | str b=>obtain ⟨t,rfl⟩:=rx; exact SeqAt.EqAt.int_str a t' b t
  | _=>exact absurd (show false=true from fx) Bool.false_ne_true
 | str a =>
  obtain ⟨t',rfl⟩:=ry
  cases x with
  | non=>cases rx; exact SeqAt.EqAt.str_none a t'
  | bl b=>cases rx; exact SeqAt.EqAt.str_bool a t' b
  | int b=>obtain ⟨t,rfl⟩:=rx; exact SeqAt.EqAt.str_int a t' b t
  | str b=>obtain ⟨t,rfl⟩:=rx; exact SeqAt.EqAt.str_str a t' b t
  | _=>exact absurd (show false=true from fx) Bool.false_ne_true
 | _=>exact absurd (show false=true from fy) Bool.false_ne_true
def eqU (x:V)(u:Value):Bool:=match u with
 | .none=>eqV .non x
 | .bool b=>eqV (.bl b) x
 | .int i _=>eqV (.int i) x
 | .str z _=>eqV (.str z) x
 | _=>false
theorem eqU_of {x y:V}{u:Value}(r:RelV y u)(f:flatV y=true):eqU x u=eqV y x:=by
 cases y with
 | non=>cases r; rfl
 | bl b=>cases r; rfl
 | int i=>obtain ⟨t,rfl⟩:=r; rfl
 | str z=>obtain ⟨t,rfl⟩:=r; rfl
 | _=>exact absurd (show false=true from f) Bool.false_ne_true
theorem any_eqU {x:V} : ∀ {xs:List V} {us:List Value},Vals xs us->xs.all flatV=true->us.any (eqU x)=xs.any fun y=>eqV y x
 | _,_,.nil,_=>rfl
 | y :: xs,u :: us,.cons r t,f=>by
  rw [List.all_cons,Bool.and_eq_true] at f
  rw [List.any_cons,List.any_cons,eqU_of r f.1,any_eqU t f.2]
theorem mem_eqAt {A:Around}{s:Shared}{x:V}{v:Value}(rx:RelV x v)(fx:flatV x=true) : ∀ {xs:List V} {us:List Value},Vals xs us->xs.all flatV=true->∀ u ∈ us,SeqAt.EqAt A s u v (eqU x u)
 | _,_,.nil,_=>fun u hu=>by cases hu
 | y :: xs,u :: us,.cons r t,f=>fun u' hu=>by
  rw [List.all_cons,Bool.and_eq_true] at f
  rcases List.mem_cons.mp hu with rfl | hu
  ·rw [eqU_of r f.1]; exact eqAt_V r rx f.1 fx
  ·exact mem_eqAt rx fx t f.2 u' hu
def inV (x:V)(xs:List V):Bool:=xs.any fun y=>eqV y x
def rIn (K:PySem.W.Frag)(neg:Bool):R2:=fun x y H Q=>∃ p xs,y = .ref p/\(SqL K H p xs\/SqT K H p xs)/\flatV x=true/\xs.all flatV=true/\Q (.bl (if neg then !inV x xs else inV x xs)) H
theorem op_in_seq:OpR X (compareOp .In) (rIn X.K false):=by
 intro pins s σ H x y v u Q I rx ry h
 obtain ⟨p,xs,rfl,hq,fx,fs,q⟩:=h
 cases ry
 rcases hq with hq | hq
 ·obtain ⟨its,r,pl,hz⟩:=I.list hq
  refine SeqAt.in_listAt (eqU x) pl.isList (fun w hw=>mem_eqAt rx fx r fs w (by simpa using hw)) ⟨.bl _,H,I,rfl,?_⟩
  rw [show its.toArray.any (eqU x)=its.any (eqU x) by simp,any_eqU r fs]
  exact q
 ·obtain ⟨its,r,pl,hz⟩:=I.tuple hq
  refine SeqAt.in_tupleAt (eqU x) pl (fun w hw=>mem_eqAt rx fx r fs w (by simpa using hw)) ⟨.bl _,H,I,rfl,?_⟩
  rw [show its.toArray.any (eqU x)=its.any (eqU x) by simp,any_eqU r fs]
  exact q
theorem op_notIn_seq:OpR X (compareOp .NotIn) (rIn X.K true):=by
 intro pins s σ H x y v u Q I rx ry h
 obtain ⟨p,xs,rfl,hq,fx,fs,q⟩:=h
 cases ry
 rcases hq with hq | hq
 ·obtain ⟨its,r,pl,hz⟩:=I.list hq
  refine SeqAt.notIn_listAt (eqU x) pl.isList (fun w hw=>mem_eqAt rx fx r fs w (by simpa using hw)) ⟨.bl _,H,I,rfl,?_⟩
  rw [show its.toArray.any (eqU x)=its.any (eqU x) by simp,any_eqU r fs]
  exact q
 ·obtain ⟨its,r,pl,hz⟩:=I.tuple hq
  refine SeqAt.notIn_tupleAt (eqU x) pl (fun w hw=>mem_eqAt rx fx r fs w (by simpa using hw)) ⟨.bl _,H,I,rfl,?_⟩
  rw [show its.toArray.any (eqU x)=its.any (eqU x) by simp,any_eqU r fs]
  exact q
theorem call_len_seq:CallR X (.builtin "len") (fun xs H Q=>∃ p ys,xs=[.ref p]/\(SqL X.K H p ys\/SqT X.K H p ys)/\Q (.int ys.length) H):=by
 intro pins s σ H xs us Q I r h
 obtain ⟨p,ys,rfl,hq,q⟩:=h
 obtain ⟨u,rfl,rx⟩:=vals1 r
 cases rx
 have hn:=line63
 rcases hq with hq | hq
 ·obtain ⟨its,r',pl,hz⟩:=I.list hq
  have hlen:=r'.length
  exact Calls.call_len_list pl.isList (by simp only [List.size_toArray] <;> omega) ⟨.int ys.length,H,I.tok _,⟨s.toks+1,by rw [List.size_toArray,hlen]⟩,q⟩
 ·obtain ⟨its,r',pl,hz⟩:=I.tuple hq
  have hlen:=r'.length
  exact len_tuple pl (by simp only [List.size_toArray] <;> omega) ⟨.int ys.length,H,I.tok _,⟨s.toks+1,by rw [List.size_toArray,hlen]⟩,q⟩
theorem call_len_str:CallR X (.builtin "len") (fun xs H Q=>∃ z,xs=[.str z]/\z.length<=sizeLine/\Q (.int z.length) H):=by
 intro pins s σ H xs us Q I r h
 obtain ⟨z,rfl,hz,q⟩:=h
 obtain ⟨u,rfl,t,rfl⟩:=vals1 r
 have hn:=line63
 exact len_str (by omega) ⟨.int z.length,H,I.tok _,⟨_,rfl⟩,q⟩
theorem call_list_of:CallR X (.type "list") (fun xs H Q=>∃ p ys,xs=[.ref p]/\(SqL X.K H p ys\/SqT X.K H p ys)/\∀ l,H l=none->Q (.ref l) (upd H l (.lst ys))):=by
 intro pins s σ H xs us Q I r h
 obtain ⟨p,ys,rfl,hq,q⟩:=h
 obtain ⟨u,rfl,rx⟩:=vals1 r
 cases rx
 have fin : ∀ (its:List Value),Vals ys its->ys.length<=sizeLine->∀ (h':Heap) (c':Nat),(∀ b o',s.heap.get? b=some o'->h'.get? b=some o') ->
   h'.get? s.heap.objs.size=some { cls:=.type "list",dict:=none,data:=.seq its.toArray c',slots := #[] }->EP X pins σ Q (.ref s.heap.objs.size) { s with heap:=h' }:=fun its r' hz h' c' kp e =>
  ⟨.ref s.heap.objs.size,_,I.laid (t':=s.toks) kp (Nat.le_refl _) (show ObjOk X.prog X.w _ h' _ (.lst ys) from ⟨hz,its,c',r',e⟩),rfl,q _ (I.hok.fresh (Nat.le_refl _))⟩
 rcases hq with hq | hq
 ·obtain ⟨its,r',pl,hz⟩:=I.list hq
  have hlen:=r'.length
  obtain ⟨o,ho,hc,n,hd⟩:=pl.isList
  exact call_list_seq p (.inl rfl) ho hc hd (fun h' c' kp e=>fin its r' hz h' c' kp e) (by simp only [List.size_toArray] <;> omega)
 ·obtain ⟨its,r',pl,hz⟩:=I.tuple hq
  have hlen:=r'.length
  obtain ⟨o,ho,hc,n,hd⟩:=pl
  exact call_list_seq p (.inr rfl) ho hc hd (fun h' c' kp e=>fin its r' hz h' c' kp e) (by simp only [List.size_toArray] <;> omega)
def tyV (K:PySem.W.Frag)(T:String)(x:V)(H:Hp):Prop:=match x with
 | .str _=>T = "str"
 | .int _=>T = "int"
 | .ref p=>(T = "list" /\ ∃ xs,SqL K H p xs)\/(T = "tuple" /\ ∃ o,K.lookup p=some o/\o.cls = .type "tuple" /\ o.dict=none) \/
   (T = "dict" /\ ((∃ kvs,H p=some (.dK kvs))\/∃ kvs,H p=some (.dT kvs)))\/(T = "set" /\ ∃ S n,H p=some (.set S n))
 | _=>False
theorem tyV_is {pins:List (Addr × Obj)}{σ:St}{H:Hp}{s:Shared}{T:String}{x:V}{v:Value}(I:Inv X pins σ H s)(r:RelV x v)(ty:tyV X.K T x H) :
  s.TypeIs v T/\∀ a,v = .ref a->∃ ob,s.heap.get? a=some ob/\ob.dict=none:=by
 cases x with
 | str z =>
  obtain ⟨t,rfl⟩:=r
  cases (show T = "str" from ty)
  exact ⟨typeIs_str s z t,fun _ e=>nomatch e⟩
 | int i =>
  obtain ⟨t,rfl⟩:=r
  cases (show T = "int" from ty)
  exact ⟨typeIs_int s i t,fun _ e=>nomatch e⟩
 | ref p =>
  cases r
  rcases ty with ⟨rfl,xs,hq⟩ | ⟨rfl,o,hk,hc,hd⟩ | ⟨rfl,hk⟩ | ⟨rfl,S,n,hk⟩
  ·obtain ⟨its,_,pl,_⟩:=I.list hq
   refine ⟨pl.isList.typeIs,fun a e => ?_⟩
   cases e
   obtain ⟨o,n,e,c,hd,_⟩:=pl
   exact ⟨o,e,hd⟩
  ·refine ⟨⟨o,I.kIn p o hk,hc⟩,fun a e => ?_⟩
   cases e
   exact ⟨o,I.kIn _ o hk,hd⟩
  ·have z : ∃ o,s.heap.get? p=some o/\o.ExactDict:=by
    rcases hk with ⟨kvs,hk⟩ | ⟨kvs,hk⟩
    ·obtain ⟨_,_,_,_,o,_,_,e,ex,_⟩:=I.hok p _ hk
     exact ⟨o,e,ex⟩
    ·obtain ⟨_,_,_,_,o,_,_,e,ex,_⟩:=I.hok p _ hk
     exact ⟨o,e,ex⟩
   obtain ⟨o,e,ex⟩:=z
   refine ⟨⟨o,e,ex.1⟩,fun a e2 => ?_⟩
   cases e2
   exact ⟨o,e,ex.2.1⟩
  ·obtain ⟨o,_,_,_,e,ex,_⟩:=I.hok p _ hk
   refine ⟨⟨o,e,ex.1⟩,fun a e2 => ?_⟩
   cases e2
   exact ⟨o,e,ex.2.1⟩
 | _=>exact False.elim ty
def tBM0 (K:PySem.W.Frag)(T:String)(r:V->List V->Hp->VK->Prop)(to:TE):TE:=fun σ H Q=>to σ H fun x H1=>tyV K T x H1/\r x [] H1 Q
def tBM (K:PySem.W.Frag)(T:String)(r:V->List V->Hp->VK->Prop)(to:TE)(t:TA):TE:=fun σ H Q=>to σ H fun x H1=>tyV K T x H1/\t σ H1 fun xs H2=>r x xs H2 Q
variable {o e:Expr}{es:List Expr}{to:TE}{t:TA}{name:Str}{apos cpos:Pos}{T id:String}{r:V->List V->Hp->VK->Prop}
theorem pe_bm (pa:PlainAttrs T)(slot:Slot T name id)(hty:typeOf (.builtin id)=pure (.type "method_descriptor"))(hm:MtR X id r)(ho:PE X o to)(ha:PA X (e :: es) t)
  (hbase:attributeBase o name X.env (eval o X.env)=eval o X.env:=by rfl)
  (hfew:((backTo cpos (starEach (e :: es) X.env)).all (fun x => !x.1) && (backToKw cpos (keywordEach [] X.env)).all (fun x=>x.1.isSome)
   && decide ((e :: es).length+([]:List Keyword).length+(if ([]:List Keyword).isEmpty then 0 else 1) < 30))=true:=by rfl)
  (hline:(apos.endLine == cpos.line)=true:=by rfl) (hs:starEach (e :: es) X.env=(false,eval e X.env) :: starEach es X.env:=by rfl) (hplain:(backTo cpos (starEach es X.env)).any (·.1)=false:=by rfl) :
  PE X (.Call (.Attribute o name apos) (e :: es) [] cpos) (tBM X.K T r to t):=by
 intro pins s σ H Q I h
 refine wpAny_Call_method_late hbase hfew hline rfl (thn (ho pins s σ H _ I h) fun v s1 ⟨x,H1,I1,r1,ty,q1⟩ => ?_)
 obtain ⟨h1,h2⟩:=tyV_is I1 r1 ty
 refine ⟨T,id,pa,slot,hty,h1,h2,?_⟩
 have hA:=ha cpos pins s1 σ H1 _ I1 q1
 rw [hs] at hA ⊢
 refine Calls.callWith_builtin (by show (false || (backTo cpos (starEach es X.env)).any (·.1))=false; rw [hplain] <;> rfl) (Calls.evalArgs_plain ?_)
 exact thn hA fun us s2 ⟨vs,H2,I2,r2,q2⟩=>hm pins s2 σ H2 x vs v us Q I2 r1 r2 q2
end
end L2
namespace L2
open PySem PySem.Spec PyProof.Rows
def MtM (X:Cx)(id:String)(r:V->List V->Hp->VK->Prop):Prop :=
 ∀ (pins:List (Addr × Obj)) (s:Shared) (σ:St) (H:Hp) (x:V) (xs:List V) (v:Value) (us:List Value) (Q:VK),Inv X pins σ H s->RelV x v->Vals xs us->r x xs H Q ->
  wpAny (model X.prog X.w) X.A (call (.builtin id) (v :: us)) (EP X pins σ Q) X.xe s
theorem Vals.one : ∀ {x:V} {us:List Value},Vals [x] us->∃ u,us=[u]/\RelV x u
 | _,_,.cons r .nil=>⟨_,rfl,r⟩
section
variable {X:Cx}{pins:List (Addr × Obj)}{σ:St}{H:Hp}{s:Shared}{l b:Addr}{xs ys zs:List V}
theorem Inv.lset {its its':List Value}{n:Nat}{f:Array Value->Array Value}{t':Nat}(I:Inv X pins σ H s)(hH:H l=some (.lst xs))
  (e:s.heap.get? l=some { cls:=.type "list",data:=.seq its.toArray n }) (hf:f its.toArray=its'.toArray) (hv:Vals ys its') (hz:ys.length<=sizeLine) :
  Inv X pins σ (upd H l (.lst ys)) { s with heap:=s.heap.update l (Obj.mapSeq f),toks:=t' }:=by
 have q:=PySem.IsL.update e f
 rw [hf] at q
 refine I.write (x:=l) (e:=l) (by rw [hH]; exact trivial) (.inl rfl) (fun b' u hb hu=>(Heap.get?_update_other s.heap (Obj.mapSeq f) (Ne.symm hb)).trans hu) ⟨_,q⟩ ?_
 exact ⟨hz,its',_,hv,q⟩
theorem Inv.lnew {its:List Value}{t':Nat}(I:Inv X pins σ H s)(hv:Vals ys its)(hz:ys.length<=sizeLine) :
  Inv X pins σ (upd H s.heap.objs.size (.lst ys)) { s with heap:=s.heap.push { cls:=.type "list",data:=.seq its.toArray },toks:=t' } :=
 I.laid (fun _ _ q=>Heap.get?_push_of_some _ q) (Nat.le_refl _) ⟨hz,its,0,hv,Heap.get?_push_size _ rfl⟩
theorem Inv.fresh (I:Inv X pins σ H s):H s.heap.objs.size=none:=I.hok.fresh (Nat.le_refl _)
theorem Inv.lstM (I:Inv X pins σ H s)(hH:H l=some (.lst xs)):xs.length<=sizeLine/\∃ (its:List Value) (n:Nat),Vals xs its/\xs.length=its.length/\s.heap.get? l=some { cls:=.type "list",data:=.seq its.toArray n }:=by
 obtain ⟨z,its,n,r,e⟩:=I.hok l _ hH
 exact ⟨z,its,n,r,r.length,e⟩
end
section
variable {X:Cx}
def rAppend:V->List V->Hp->VK->Prop:=fun x vs H Q=>∃ l xs y,x = .ref l/\vs=[y]/\H l=some (.lst xs)/\xs.length < sizeLine/\Q .non (upd H l (.lst (xs ++ [y])))
theorem mt_append:MtM X "list.append" rAppend:=by
 intro pins s σ H x vs v us Q I rx rv h
 obtain ⟨l,xs,y,rfl,rfl,hH,hz,q⟩:=h
 cases rx
 obtain ⟨u,rfl,ru⟩:=rv.one
 obtain ⟨z,its,n,r,hl,e⟩:=I.lstM hH
 refine call_meets F.slot_list_append ⟨_,e,rfl⟩ F.entry_list_append (F.args_list_append_2 _ _) (PySem.list_append l its.toArray n u (by rw [List.size_toArray]; omega)) ⟨e,?_⟩
 refine ⟨.non,_,I.lset (its':=its ++ [u]) hH e (by simp) (r.append (.cons ru .nil)) ?_,rfl,q⟩
 rw [List.length_append,List.length_singleton]
 omega
def rExtend:V->List V->Hp->VK->Prop:=fun x vs H Q=>∃ l b xs zs,x = .ref l/\vs=[.ref b]/\H l=some (.lst xs)/\H b=some (.lst zs)/\xs.length+zs.length<=sizeLine/\Q .non (upd H l (.lst (xs ++ zs)))
def rPop:V->List V->Hp->VK->Prop:=fun x vs H Q=>∃ l xs y,x = .ref l/\vs=[]/\H l=some (.lst xs)/\xs[xs.length - 1]?=some y/\Q y (upd H l (.lst xs.dropLast))
def rPopAt:V->List V->Hp->VK->Prop:=fun x vs H Q=>∃ l xs i k y,x = .ref l/\vs=[.int i]/\H l=some (.lst xs) /\ -(2 ^ 63)<=i/\i < 2 ^ 63/\seqIndex? i xs.length=some k/\xs[k]?=some y/\Q y (upd H l (.lst (xs.eraseIdx k)))
def rReverse:V->List V->Hp->VK->Prop:=fun x vs H Q=>∃ l xs,x = .ref l/\vs=[]/\H l=some (.lst xs)/\Q .non (upd H l (.lst xs.reverse))
def rClear:V->List V->Hp->VK->Prop:=fun x vs H Q=>∃ l xs,x = .ref l/\vs=[]/\H l=some (.lst xs)/\Q .non (upd H l (.lst []))
def rCat:R2:=fun x y H Q=>∃ l b xs zs,x = .ref l/\y = .ref b/\H l=some (.lst xs)/\H b=some (.lst zs)/\xs.length+zs.length<=sizeLine/\∀ p,H p=none->Q (.ref p) (upd H p (.lst (xs ++ zs)))
theorem op_cat:OpR X (binaryOp .Add) rCat:=by
 intro pins s σ H x y v u Q I rx ry h
 obtain ⟨l,b,xs,zs,rfl,rfl,hH,hB,hz,q⟩:=h
 cases rx
 cases ry
 obtain ⟨z,its,n,r,hl,e⟩:=I.lstM hH
 obtain ⟨z2,its2,n2,r2,hl2,e2⟩:=I.lstM hB
 refine PySem.P.add_list e e2 ?_ (by rw [List.size_toArray,List.size_toArray]; omega)
 have ea:its.toArray ++ its2.toArray=(its ++ its2).toArray:=by simp
 rw [ea]
 exact ⟨.ref _,_,I.lnew (t':=s.toks) (r.append r2) (by rw [List.length_append]; omega),rfl,q _ I.fresh⟩
def rRep:R2:=fun x y H Q=>∃ l k xs,x = .ref l/\y = .int k/\H l=some (.lst xs) /\ -(2 ^ 63)<=k/\k < 2 ^ 63/\xs.length*k.toNat<=sizeLine /\
 ∀ p,H p=none->Q (.ref p) (upd H p (.lst (List.replicate k.toNat xs).flatten))
end
section
variable {prog:Program}{w:World}{A:Around}{E:Value->Shared->Prop}{s:Shared}
set_option maxRecDepth 100000 in
end
section
variable {X:Cx}
end
end L2
namespace Att
open PySem PySem.W PySem.Calls PyProof.Rows
theorem ints_of_wellAll {P:Params}{h:Heap} : ∀ (ns:List Int) (vs:List Value),WellAll P h vs (ns.map WData.int)->IntsAre vs ns:=by
 intro ns
 induction ns with
 | nil =>
  intro vs w
  rw [List.map_nil] at w
  cases w
  exact .nil
 | cons n ns ih =>
  intro vs w
  rw [List.map_cons] at w
  cases w with
  | cons a b =>
   cases a
   exact .cons _ _ (ih _ b)
theorem script_of {l:OpenLaw}{n:Nat}(hn:l.most=some n){P:Params}{h:Heap}{args:List WData}{vals:List Value}
  (hpre:l.row.toRowW.claim.pre args=true) (hwl:WellAll P h vals args) :
  ∃ a vs ns,vals=[Value.ref a]/\args=[WData.list (ns.map WData.int)]/\h.get? a=some { cls:=.type "list",data:=.seq vs.toArray }/\IntsAre vs ns/\ns.length<=n:=by
 have hsh:WShape.hasAll [] args [.list .int]=true:=(pre_splitW hpre).1
 have hc:l.pre.holds [] { args:=args }=true:=(pre_splitW hpre).2
 obtain ⟨d,r,rfl,h1,h2⟩:=hasAllW_cons hsh
 obtain rfl:=hasAllW_nil h2
 obtain ⟨xs,rfl,h3⟩:=hasW_list h1
 obtain ⟨ns,rfl⟩:=items_int h3
 have hlen:ns.length<=n:=by
  unfold OpenLaw.pre at hc
  have h4:(WTm.not (.lt (.lit (.int (n:Int))) (.len (.arg 0)))).holds [] { args:=[.list (ns.map .int)] }=true:=by
   have h4:=(holds_andW hc).1
   rw [hn] at h4
   exact h4
  have h5:=condW_of h4 (w_not (w_lt w_lit (w_len_list (w_arg rfl))))
  rw [List.length_map] at h5
  refine Nat.le_of_not_lt fun q => ?_
  have q':(n:Int) < ((ns.length:Nat):Int):=by omega
  first
   | (rw [decide_eq_true q'] at h5; exact absurd h5 (by decide))
   | (simp at h5; omega)
 cases hwl with
 | cons w1 w2 =>
  cases w2
  cases w1 with
  | list ho hall=>exact ⟨_,_,ns,rfl,rfl,ho,ints_of_wellAll ns _ hall,hlen⟩
theorem post_true (l:OpenLaw)(args:List WData):l.row.toRowW.claim.post args (.bool true) args=true :=
 postW_of (r:=l.row.toRowW) (X:=(true == true))
  (show WShape.has [] (.bool true) .bool=true by first | rfl | decide | simp [WShape.has,WShape.arms,WShape.armsAll])
  (show (WTm.eq .res (.lit (.bool true))).value [] { args:=args,res:=some (.bool true),after:=args }=some (.bool (true == true)) from w_eq_bool (w_res rfl) w_lit) rfl
theorem attach_call {l:OpenLaw}{n:Nat}{q:Program}{loose:List Str}{XP:(Str->Option Value)->Heap->Prop}{YP:World->Heap->Prop}{d:DefRec}
  (hn:l.most=some n) (hdf:d.params.defaults=[])
  (call : ∀ (w:World) (s₀ s₁:Shared) (mg mb:Str->Option Value) (fa:Addr) (o:Obj) (pm cd doc:Value) (a:Addr) (vs:List Value) (ns:List Int),
   Ground q loose [] XP w s₀ mg mb s₁.heap->YP w s₁.heap ->
   s₁.heap.get? fa=some o->o.data = .func (docDef d.name d.params d.body d.scope pm cd doc)->s₁.heap.CodeRec cd d.name->mg d.name=some (.ref fa) ->
   s₁.heap.get? a=some { cls:=.type "list",data:=.seq vs.toArray }->IntsAre vs ns->ns.length<=n->s₁.gens = #[] ->
   codeAny (model l.prog w) callerA (.call (.ref fa) ⟨[.ref a],[]⟩) (fun r s'=>r = .ok (.ret (.bool true))/\OldK s₁.heap s'.heap/\s'.os=s₁.os/\AllBare s'.gens) s₁) :
  WalkO q loose XP YP l.row.toRowW d [] (fun f vs=>PySem.call f vs):=by
 intro w s₀ s₁ mg mb G Y fa o pm cd doc dV kV ho hd hcd hD hmg hg args vals as hpre hlay hrd hwl hlo
 obtain rfl:dV = .none:=Dflts.none hD hdf
 obtain rfl:kV = .none:=Dflts.noKw hD
 obtain ⟨a,vs,ns,rfl,rfl,hobj,hints,hlen⟩:=script_of hn hpre hwl
 refine enter_call (codeAny_mono (call w s₀ s₁ mg mb fa o pm cd doc a vs ns G Y ho (fd_plain hd) hcd hmg hobj hints hlen hg) fun r s' hq => ?_)
 obtain ⟨rfl,h2,h3,h4⟩:=hq
 exact ⟨.inl ⟨.bool true,.bool true,[],rfl,fun _=>rfl,.bool true,post_true l _,fun _=>⟨List.Pairwise.nil,fun _ hm=>(nomatch hm)⟩⟩,h2,h3,h4⟩
section
variable {prog:Program}{w:World}{A:Around}{E:Value->Shared->Prop}{s:Shared}{K:Frag}
def noObjs (h:Heap):Heap:={ h with objs := #[] }
def ledger (h:Heap)(L d:Addr):List (Addr × Obj):=(List.range h.objs.size).filterMap fun a=>if a=L\/a=d then none else (h.get? a).map fun o=>(a,o)
end
end Att
namespace L2
open PySem PySem.Spec PyProof.Rows
theorem vals_ints : ∀ {vs:List Value} {ns:List Int},IntsAre vs ns->Vals (ns.map V.int) vs
 | _,_,.nil=>.nil
 | _,_,.cons n t h=>.cons ⟨t,rfl⟩ (vals_ints h)
def Only (H:Hp):Prop:=∀ b,H b=none\/∃ o xs,H b=some (.frz o (.lst xs))
theorem law_call {P:Program}{w:World}{K:PySem.W.Frag}{mg mb:Str->Option Value}{CX:CXT}{k:Nat}{fa a:Addr}{fd:FuncData}{x:Str}{sp:Sp}{s₁:Shared}{vs:List Value}{ns:List Int}
  (KX:K.In s₁.heap) (hns:s₁.heap.Ns mainGlobals mg) (hb:s₁.heap.Ns builtinsNs mb) (hbb : ∀ x:Str,x ≠ "__name__" -> mb x=bootBuiltins x) (hlim:s₁.heap.NoLimit) (hg:s₁.gens = #[])
  (ha:s₁.heap.get? a=some { cls:=.type "list",data:=.seq vs.toArray }) (hi:IntsAre vs ns) (hl:ns.length<=sizeLine) (hr:Room k callerA)
  (F : ∀ base:Heap,K.In base->base.Ns mainGlobals mg->FnOk P w K mg base CX k fa fd [x] sp) (hbind : ∀ (s:Shared) (u:Value),BindsTo s fd ⟨[u],[]⟩ [(x,u)])
  (hsp : ∀ H:Hp,Only H->SqL K H a (ns.map V.int)->sp [.ref a] H (fun v _=>v = .bl true) fun _ _ _=>False)
  (hCX : ∀ H e s',CX [] H s₁ (fun _ _ _=>False) e s'->False) :
  codeAny (model P w) callerA (.call (.ref fa) ⟨[.ref a],[]⟩) (fun r s'=>r = .ok (.ret (.bool true))/\OldK s₁.heap s'.heap/\s'.os=s₁.os/\AllBare s'.gens) s₁:=by
 have rv:=vals_ints hi
 have lenV:=hi.length
 have core : ∀ H:Hp,Only H->SqL K H a (ns.map V.int)->HOk P w H s₁.heap->(∀ b,H b ≠ none->b=a)->(H a ≠ none->K.lookup a=none) ->
   codeAny (model P w) callerA (.call (.ref fa) ⟨[.ref a],[]⟩) (fun r s'=>r = .ok (.ret (.bool true))/\OldK s₁.heap s'.heap/\s'.os=s₁.os/\AllBare s'.gens) s₁:=by
  intro H hO hS hok hA hK
  have base_of : ∀ {b:Addr} {o:Obj},s₁.heap.get? b=some o->H b=none->(hidT s₁.heap H).get? b=some o:=fun e n=>hidT_get e n
  have noA : ∀ {b:Addr} {o:Obj} {es:Array DictEntry} {ep:Nat},s₁.heap.get? b=some o->o.data = .dict es ep->H b=none:=fun {b o es ep} e d=>by
   cases q:H b with
   | none=>rfl
   | some u =>
    have e':b=a:=hA b (by rw [q]; simp)
    subst e'
    rw [ha] at e; cases e
    have d':Data.seq vs.toArray _=Data.dict es ep:=d
    cases d'
  have nsK : ∀ {b:Addr} {m:Str->Option Value},s₁.heap.Ns b m->(hidT s₁.heap H).Ns b m:=fun {b m} ⟨o,es,ep,e,d,r⟩=>⟨o,es,ep,base_of e (noA e d),d,r⟩
  have hKb:K.In (hidT s₁.heap H):=fun b o e=>base_of (KX b o e) (by
   cases q:H b with
   | none=>rfl
   | some u =>
    have e':b=a:=hA b (by rw [q]; simp)
    subst e'
    rw [hK (by rw [q]; simp)] at e; cases e)
  have hM:Mod K mg (hidT s₁.heap H):=⟨hKb,nsK hns,⟨mb,nsK hb,hbb⟩,let ⟨mc,h1,h2⟩:=hlim; ⟨mc,nsK h1,h2⟩⟩
  have e0:Env0 P w K mg (hidT s₁.heap H) callerA [] s₁ H:=⟨rfl,hM,fun b o e=>of_hidT e,Nat.le_of_eq (hidT_size _ _),trivial,fun b hb=>absurd (show b ∈ ([]:List Addr) from hb) (by simp),hok,.of_eq hg⟩
  refine codeAny_mono ((F _ hKb (nsK hns)).run callerA [] s₁ H ⟨[.ref a],[]⟩ [.ref a] [.ref a] _ _ hr e0 (hbind s₁ (.ref a)) (.cons rfl .nil) (hsp H hO hS)) fun r s' h => ?_
  cases r with
  | error e=>exact (hCX H e s' h).elim
  | ok fl =>
   cases fl with
   | next=>exact False.elim h
   | brk=>exact False.elim h
   | cont=>exact False.elim h
   | ret u =>
    obtain ⟨v,H',os,bare,un,hok',r',q⟩:=h
    have q':v = .bl true:=q
    subst q'
    obtain rfl:u=Value.bool true:=r'
    refine ⟨rfl,OldK.of_keep fun b o e => ?_,os,bare⟩
    cases q:H b with
    | none=>exact un.keep b o e q (by intro z; exact absurd (show b ∈ ([]:List Addr) from z) (by simp)) (by simp)
    | some u =>
     rcases hO b with z | ⟨ob,xs,z⟩
     ·rw [q] at z; cases z
     ·have z2:=un.frzs b ob _ z
      obtain ⟨e1,_⟩:=hok b _ z
      obtain ⟨e2,_⟩:=hok' b _ z2
      rw [e] at e1; cases e1
      exact e2
 cases hk:K.lookup a with
 | some o =>
  have e:=KX a o hk
  rw [ha] at e
  cases e
  refine core (fun _=>none) (fun _=>.inl rfl) (.inr ⟨_,vs.toArray,_,hk,rfl,rfl,rfl,by rw [List.size_toArray,lenV]; exact hl,by simpa using rv⟩) (fun b u z=>by have z':(none:Option HO)=some u:=z; cases z') (fun b z=>absurd rfl z) fun z=>absurd rfl z
 | none =>
  refine core (fun b=>if b=a then some (.frz { cls:=.type "list",data:=.seq vs.toArray } (.lst (ns.map V.int))) else none) (fun b => ?_) (.inl (.inr ⟨{ cls:=.type "list",data:=.seq vs.toArray },if_pos rfl⟩)) (fun b u z => ?_) (fun b z => ?_) fun _=>hk
  ·by_cases hb:b=a
   ·exact .inr ⟨_,_,if_pos hb⟩
   ·exact .inl (if_neg hb)
  ·by_cases hb:b=a
   ·have z':=(if_pos hb).symm.trans z
    cases z'
    subst hb
    exact ⟨ha,by rw [List.length_map]; exact hl,vs,_,rv,ha⟩
   ·have z':=(if_neg hb).symm.trans z
    cases z'
  ·by_cases hb:b=a
   ·exact hb
   ·exact absurd (if_neg hb) z
end L2
namespace L2
open PySem PySem.Spec PyProof.Rows
abbrev KOf {K:PySem.W.Frag}{h:Heap}(_:K.In h):PySem.W.Frag:=K
theorem walk_of {l:PySem.W.OpenLaw}{n k:Nat}{q:Program}{loose:List Str}{XP:(Str->Option Value)->Heap->Prop}{YP:World->Heap->Prop}{d:DefRec}{K:Params->PySem.W.Frag}{CX:World->CXT}{sp:World->Sp}{x:Str}
  (hn:l.most=some n) (hn2:n<=sizeLine) (hdf:d.params.defaults=[]) (hr:Room k callerA)
  (hY : ∀ (w:World) (h:Heap),YP w h->(K w.params).In h)
  (F : ∀ (w:World) (mg:Str->Option Value) (fa:Addr) (h:Heap),(K w.params).In h->h.Ns mainGlobals mg->mg d.name=some (.ref fa) ->
   ∃ fd:FuncData,(∀ (s:Shared) (u:Value),BindsTo s fd ⟨[u],[]⟩ [(x,u)]) /\
    ∀ base:Heap,(K w.params).In base->base.Ns mainGlobals mg->FnOk l.prog w (K w.params) mg base (CX w) k fa fd [x] (sp w))
  (hsp : ∀ (w:World) (H:Hp) (a:Addr) (ns:List Int),ns.length<=n->Only H->SqL (K w.params) H a (ns.map V.int)->sp w [.ref a] H (fun v _=>v = .bl true) fun _ _ _=>False)
  (hCX : ∀ (w:World) (H:Hp) (s:Shared) (e:Value) (s':Shared),CX w [] H s (fun _ _ _=>False) e s'->False) :
  PySem.W.WalkO q loose XP YP l.row.toRowW d [] (fun f vs=>PySem.call f vs):=by
 refine Att.attach_call hn hdf fun w s₀ s₁ mg mb fa o pm cd doc a vs ns G Y ho hd hcd hmg hobj hints hlen hg => ?_
 have KX:=hY w _ Y
 obtain ⟨fd,hb,hF⟩:=F w mg fa _ KX G.T.g hmg
 exact law_call KX G.T.g G.T.b G.T.builtins G.T.nolimit hg hobj hints (Nat.le_trans hlen hn2) hr hF hb (fun H hO hS=>hsp w H a ns hlen hO hS) fun H e s'=>hCX w H s₁ e s'
end L2
namespace L2
open PySem PySem.Spec PyProof.Rows
def inClass (s:Stmt)(j:Nat):Stmt:=match s with
 | .ClassDef _ _ _ body _ _ _ _ _ _ _=>body.getD j (.Pass ⟨0,0,0,0⟩)
 | _=>.Pass ⟨0,0,0,0⟩
def defArgs (s:Stmt):Arguments:=match s with
 | .FunctionDef _ a _ _ _ _ _ _ _ _=>a
 | _=>{ posonlyargs:=[],args:=[],vararg:=none,kwonlyargs:=[],kw_defaults:=[],kwarg:=none,defaults:=[] }
def defBody (s:Stmt):List Stmt:=match s with
 | .FunctionDef _ _ b _ _ _ _ _ _ _=>b
 | _=>[]
def defScope (s:Stmt):Scope:=match s with
 | .FunctionDef _ _ _ _ _ _ sc _ _ _=>sc
 | _=>{ kind:=.function,names:=[],isGenerator:=false,isCoroutine:=false }
abbrev CX0:CXT:=fun _ _ _ _ _ _=>False
abbrev E0:XK:=fun _ _ _=>False
theorem pass0 {X:Cx}:Passes CX0 X E0:=fun _ _ _ _ _ _ _ h=>h.elim
structure Fun (K:PySem.W.Frag)(x qual:Str)(st:Stmt)(f:Addr)(fd:FuncData):Prop where
 ex : ∃ (oc:Value) (od:Option Addr) (kV doc pm:Value) (an:Option Addr) (cdv ct:Value) (osl:Array (Option Value)),
  fd=PySem.W.fnOf x qual (defArgs st) (defBody st) (defScope st) .none kV doc pm an cdv ct/\K.lookup f=some ⟨oc,od,.func fd,osl⟩/\PySem.W.codeIn K cdv qual=true
 kp:PySem.W.keepIn K (.ref f)=true
section
variable {P:Program}{w:World}{K:PySem.W.Frag}{mg:Str->Option Value}{base:Heap}
theorem Fun.ok {x qual:Str}{st:Stmt}{f:Addr}{fd:FuncData}{N ps:List Str}{k:Nat}{sp:Sp}(F:Fun K x qual st f fd)(S:FnScope N ps (defScope st))(len : ∀ vs H Q E,sp vs H Q E->vs.length=ps.length)
  (hbody : ∀ (cdv:Value) (A:Around) (outer:List Env) (s:Shared) (H:Hp) (vs:List V) (Q:VK) (E:XK),Room k (A.deeper (envOfC qual (defScope st) s.heap.objs.size f cdv))->sp vs H Q E ->
   ∃ t,PSs (cxOf CX0 P w K mg base N qual (defScope st) f cdv A outer s H E).nox (defBody st) t/\t { nx:=fun _ H'=>Q .non H',rt:=Q } (start N vs) H):FnOk P w K mg base CX0 (k+1) f fd ps sp:=by
 obtain ⟨oc,od,kV,doc,pm,an,cdv,ct,osl,rfl,lk,hcd⟩:=F.ex
 refine fn_of lk hcd S len fun A outer s H vs Q E hr hsp => ?_
 obtain ⟨t,h,q⟩:=hbody cdv A outer s H vs Q E hr hsp
 exact ⟨t,h.nox,q⟩
theorem Fun.binds {x qual:Str}{st:Stmt}{f:Addr}{fd:FuncData}{ps:List Str}(F:Fun K x qual st f fd)
  (h : ∀ (kV doc pm:Value) (an:Option Addr) (cdv ct:Value) (us:List Value),us.length=ps.length->bindArgs (PySem.W.fnOf x qual (defArgs st) (defBody st) (defScope st) .none kV doc pm an cdv ct) ⟨us,[]⟩=pure (ps.zip us)):Binds K fd ps []:=by
 obtain ⟨oc,od,kV,doc,pm,an,cdv,ct,osl,rfl,lk,hcd⟩:=F.ex
 exact .all (h kV doc pm an cdv ct)
theorem fun_mk {x qual:Str}{st:Stmt}{f:Addr}{oc:Value}{od an:Option Addr}{osl:Array (Option Value)}{kV doc pm cdv ct:Value}(l:K.lookup f=some ⟨oc,od,.func (PySem.W.fnOf x qual (defArgs st) (defBody st) (defScope st) .none kV doc pm an cdv ct),osl⟩)
  (c:PySem.W.codeIn K cdv qual=true) (k:PySem.W.keepIn K (.ref f)=true):Fun K x qual st f (PySem.W.fnOf x qual (defArgs st) (defBody st) (defScope st) .none kV doc pm an cdv ct):=⟨⟨oc,od,kV,doc,pm,an,cdv,ct,osl,rfl,l,c⟩,k⟩
end
theorem hu_of {A:Around}{k:Nat}(hr:Room k A):A.units+1 < cLine:=Nat.lt_of_le_of_lt (Nat.add_le_add_left (by decide:1<=64) _) hr.units
theorem small1000 {n:Nat}(h:n<=1000):n < sizeLine:=Nat.lt_of_le_of_lt h (by decide)
section
variable {X:Cx}
theorem pv (i:Nat){x:Str}{pos:Pos}(hN:X.N[i]?=some x:=by rfl)(hv:Vis X.env.scope x:=by first | exact Or.inl rfl | exact Or.inr (Or.inl rfl) | exact Or.inr (Or.inr rfl))(hd:(x == ("__debug__" : Str))=false:=by decide)
  (hcd:(x == ("__classdict__" : Str))=false:=by decide):PE X (.Name x pos) (tVar i):=pe_var hN hv hd hcd
end
theorem iteF {A B:Prop}(h:B):if false=true then A else B:=by
 rw [if_neg Bool.false_ne_true]
 exact h
theorem iteT {A B:Prop}(h:A):if true=true then A else B:=by
 rw [if_pos rfl]
 exact h
theorem ite2 {c A B:Prop}[Decidable c](h1:c->A)(h2 : ¬ c->B):if c then A else B:=by
 by_cases h:c
 ·rw [if_pos h]
  exact h1 h
 ·rw [if_neg h]
  exact h2 h
def Same (H H':Hp):Prop:=∀ b o,H b=some o->H' b=some o
theorem Same.refl (H:Hp):Same H H:=fun _ _ h=>h
theorem Same.trans {H H1 H2:Hp}(a:Same H H1)(b:Same H1 H2):Same H H2:=fun c o h=>b c o (a c o h)
theorem Same.seq {K:PySem.W.Frag}{H H':Hp}{a:Addr}{xs:List V}(e:Same H H')(h:SqL K H a xs):SqL K H' a xs:=by
 rcases h with (h | ⟨o,h⟩) | h
 ·exact .inl (.inl (e _ _ h))
 ·exact .inl (.inr ⟨o,e _ _ h⟩)
 ·exact .inr h
end L2
namespace GM
def G (a b:Int):Int:=(Int.gcd a b:Int)
theorem G_zero {a:Int}(h:0<=a):G a 0=a:=by
 unfold G
 rw [Int.gcd_zero_right]
 omega
theorem G_step (a b:Int):G b (a % b)=G a b:=by
 unfold G
 congr 1
 have e:a % b=a - b*(a / b):=by
  have:=Int.emod_add_mul_ediv a b
  omega
 rw [e,Int.gcd_sub_mul_left_right,Int.gcd_comm]
theorem G_pos {a b:Int}(h:0 < b):0 < G a b:=by
 unfold G
 have:0 < Int.gcd a b:=Int.gcd_pos_of_ne_zero_right a (by omega)
 omega
theorem G_dvd_l (a b:Int):G a b ∣ a:=Int.gcd_dvd_left a b
theorem G_dvd_r (a b:Int):G a b ∣ b:=Int.gcd_dvd_right a b
theorem G_le_r {a b:Int}(h:0 < b):G a b<=b:=Int.le_of_dvd h (G_dvd_r a b)
structure Amt (t b:Int):Prop where
 t0:0<=t
 b1:1<=b
 g:G t b=1
theorem low_amt {t b:Int}(h0:0<=t)(h1:1<=b):Amt (t / G t b) (b / G t b):=by
 have gp:=G_pos (a:=t) (b:=b) (by omega)
 refine ⟨Int.ediv_nonneg h0 (by omega),Int.ediv_pos_of_pos_of_dvd (by omega) (by omega) (G_dvd_r t b),?_⟩
 unfold G at *
 have:=Int.gcd_ediv_gcd_ediv_gcd (i:=t) (j:=b) (by omega)
 omega
theorem low_l (t b:Int):t / G t b*G t b=t:=Int.ediv_mul_cancel (G_dvd_l t b)
theorem low_r (t b:Int):b / G t b*G t b=b:=Int.ediv_mul_cancel (G_dvd_r t b)
theorem dvd_cop {t b x:Int}(h:Amt t b)(d:b ∣ t*x):b ∣ x:=by
 have g1:Int.gcd b t=1:=by have:=h.g; unfold G at this; rw [Int.gcd_comm]; omega
 have:=Int.dvd_gcd_mul_iff_dvd_mul.mpr d
 rw [g1] at this
 simpa using this
theorem amt_unique {t b t' b':Int}(h:Amt t b)(h':Amt t' b')(e:t*b'=t'*b):t=t'/\b=b':=by
 have d1:b ∣ b':=dvd_cop h ⟨t',by rw [e,Int.mul_comm]⟩
 have d2:b' ∣ b:=dvd_cop h' ⟨t,by rw [<- e,Int.mul_comm]⟩
 have p:=h.b1
 have p':=h'.b1
 have eb:b=b':=Int.dvd_antisymm (by omega) (by omega) d1 d2
 subst eb
 exact ⟨Int.eq_of_mul_eq_mul_right (by omega) e,rfl⟩
theorem low_cross (t b:Int):t / G t b*b=t*(b / G t b):=by
 have e1:=low_l t b
 have e2:=low_r t b
 calc t / G t b*b=t / G t b*(b / G t b*G t b):=by rw [e2]
  _=t / G t b*G t b*(b / G t b):=by rw [Int.mul_comm (b / G t b),Int.mul_assoc]
  _=t*(b / G t b):=by rw [e1]
theorem amt_one {t:Int}(h:0<=t):Amt t 1:=by
 refine ⟨h,by omega,?_⟩
 unfold G
 rw [Int.gcd_one_right]
 rfl
theorem low_unique {t b x y:Int}(h0:0<=t)(h1:1<=b)(h:Amt x y)(e:x*b=t*y):t / G t b=x/\b / G t b=y:=by
 have a:=low_amt h0 h1
 refine amt_unique a h ?_
 have c:=low_cross t b
 have gp:=G_pos (a:=t) (b:=b) (by omega)
 have e1:=low_l t b
 have e2:=low_r t b
 refine Int.eq_of_mul_eq_mul_right (a:=G t b) (by omega) ?_
 calc t / G t b*y*G t b=t / G t b*G t b*y:=by rw [Int.mul_assoc,Int.mul_comm y,<- Int.mul_assoc]
  _=x*b:=by rw [e1,e]
  _=x*(b / G t b)*G t b:=by rw [Int.mul_assoc,e2]
end GM
namespace L2
open PySem PySem.Spec PyProof.Rows
inductive Isi (K:PySem.W.Frag)(H:Hp):V->String->Bool->Prop where
 | int_int {n}:Isi K H (.int n) "int" true
 | int_bool {n}:Isi K H (.int n) "bool" false
 | int_tuple {n}:Isi K H (.int n) "tuple" false
 | int_str {n}:Isi K H (.int n) "str" false
 | int_list {n}:Isi K H (.int n) "list" false
 | bl_int {b}:Isi K H (.bl b) "int" true
 | bl_bool {b}:Isi K H (.bl b) "bool" true
 | bl_tuple {b}:Isi K H (.bl b) "tuple" false
 | bl_str {b}:Isi K H (.bl b) "str" false
 | str_int {x}:Isi K H (.str x) "int" false
 | str_bool {x}:Isi K H (.str x) "bool" false
 | str_tuple {x}:Isi K H (.str x) "tuple" false
 | str_str {x}:Isi K H (.str x) "str" true
 | non_int:Isi K H .non "int" false
 | non_str:Isi K H .non "str" false
 | non_tuple:Isi K H .non "tuple" false
 | tup_tuple {a xs}:SqT K H a xs->Isi K H (.ref a) "tuple" true
 | tup_int {a xs}:SqT K H a xs->Isi K H (.ref a) "int" false
 | tup_str {a xs}:SqT K H a xs->Isi K H (.ref a) "str" false
 | tup_list {a xs}:SqT K H a xs->Isi K H (.ref a) "list" false
 | lst_tuple {a xs}:SqL K H a xs->Isi K H (.ref a) "tuple" false
 | lst_int {a xs}:SqL K H a xs->Isi K H (.ref a) "int" false
 | lst_str {a xs}:SqL K H a xs->Isi K H (.ref a) "str" false
 | lst_list {a xs}:SqL K H a xs->Isi K H (.ref a) "list" true
section
variable {X:Cx}
theorem call_isi:CallR X (.builtin "isinstance") (fun xs H Q=>∃ x T b,xs=[x,.ty T]/\Isi X.K H x T b/\Q (.bl b) H):=by
 intro pins s σ H xs us Q I r h
 obtain ⟨x,T,b,rfl,hi,q⟩:=h
 obtain ⟨u,w',rfl,rx,ry⟩:=vals2 r
 cases ry
 have f1:EP X pins σ Q (.bool b) s:=⟨.bl b,H,I,rfl,q⟩
 have f2:EP X pins σ Q (.bool b) { s with toks:=s.toks+1 }:=⟨.bl b,H,I.tok _,rfl,q⟩
 cases hi with
 | int_int=>obtain ⟨t,rfl⟩:=rx; exact IsiPair.int_int f1
 | int_bool=>obtain ⟨t,rfl⟩:=rx; exact IsiPair.int_bool f2
 | int_tuple=>obtain ⟨t,rfl⟩:=rx; exact IsiPair.int_tuple f2
 | int_str=>obtain ⟨t,rfl⟩:=rx; exact IsiPair.int_str f2
 | int_list=>obtain ⟨t,rfl⟩:=rx; exact IsiPair.int_list f2
 | bl_int=>cases rx; exact IsiPair.bool_int f1
 | bl_bool=>cases rx; exact IsiPair.bool_bool f1
 | bl_tuple=>cases rx; exact IsiPair.bool_tuple f2
 | bl_str=>cases rx; exact IsiPair.bool_str f2
 | str_int=>obtain ⟨t,rfl⟩:=rx; exact IsiPair.str_int f2
 | str_bool=>obtain ⟨t,rfl⟩:=rx; exact IsiPair.str_bool f2
 | str_tuple=>obtain ⟨t,rfl⟩:=rx; exact IsiPair.str_tuple f2
 | str_str=>obtain ⟨t,rfl⟩:=rx; exact IsiPair.str_str f1
 | non_int=>cases rx; exact IsiPair.NoneType_int f2
 | non_str=>cases rx; exact IsiPair.NoneType_str f2
 | non_tuple=>cases rx; exact IsiPair.NoneType_tuple f2
 | tup_tuple hq=>cases rx; obtain ⟨its,_,⟨o,e,c,_⟩,_⟩:=I.tuple hq; exact IsiPair.tuple_tuple e c f1
 | tup_int hq=>cases rx; obtain ⟨its,_,⟨o,e,c,_⟩,_⟩:=I.tuple hq; exact IsiPair.tuple_int e c f2
 | tup_str hq=>cases rx; obtain ⟨its,_,⟨o,e,c,_⟩,_⟩:=I.tuple hq; exact IsiPair.tuple_str e c f2
 | tup_list hq=>cases rx; obtain ⟨its,_,⟨o,e,c,_⟩,_⟩:=I.tuple hq; exact IsiPair.tuple_list e c f2
 | lst_tuple hq=>cases rx; obtain ⟨its,_,⟨o,n,e,c,_⟩,_⟩:=I.list hq; exact IsiPair.list_tuple e c f2
 | lst_int hq=>cases rx; obtain ⟨its,_,⟨o,n,e,c,_⟩,_⟩:=I.list hq; exact IsiPair.list_int e c f2
 | lst_str hq=>cases rx; obtain ⟨its,_,⟨o,n,e,c,_⟩,_⟩:=I.list hq; exact IsiPair.list_str e c f2
 | lst_list hq=>cases rx; obtain ⟨its,_,⟨o,n,e,c,_⟩,_⟩:=I.list hq; exact IsiPair.list_list e c f1
inductive DEq (K:PySem.W.Frag)(H:Hp):Nat->V->V->Bool->Prop where
 | flat {n x y}:flatV x=true->flatV y=true->DEq K H n x y (eqV x y)
 | same {n a}:DEq K H n (.ref a) (.ref a) true
 | tup {n a b xs ys} {e:Nat->Bool}:a ≠ b->SqT K H a xs->SqT K H b ys->(∀ (j:Nat) x y,xs[j]?=some x->ys[j]?=some y->DEq K H n x y (e j)) ->
   DEq K H (n+1) (.ref a) (.ref b) ((List.range (min xs.length ys.length)).all e && xs.length == ys.length)
 | lst {n a b xs ys} {e:Nat->Bool}:a ≠ b->SqL K H a xs->SqL K H b ys->(∀ (j:Nat) x y,xs[j]?=some x->ys[j]?=some y->DEq K H n x y (e j)) ->
   DEq K H (n+1) (.ref a) (.ref b) ((List.range (min xs.length ys.length)).all e && xs.length == ys.length)
theorem tups_at {pins:List (Addr × Obj)}{σ:St}{H:Hp}{s:Shared}(I:Inv X pins σ H s){A:Around}{a b:Addr}{xs ys:List V}{e:Nat->Bool}(hx:SqT X.K H a xs)(hy:SqT X.K H b ys)(hu:A.units < cLine)
  (hd : ∀ (j:Nat) x y u v,xs[j]?=some x->ys[j]?=some y->RelV x u->RelV y v->SeqAt.EqAt A.in1 s u v (e j)) :
  SeqAt.RcAt A s (.ref a) (.ref b) ((List.range (min xs.length ys.length)).all e && xs.length == ys.length):=by
 obtain ⟨its,r,tx,_⟩:=I.tuple hx
 obtain ⟨its',r',ty,_⟩:=I.tuple hy
 have l1:=r.length
 have l2:=r'.length
 have q:=SeqAt.RcAt.tuples (A:=A) (e:=e) tx ty hu (fun j h1 h2 => ?_)
 ·rw [List.size_toArray,List.size_toArray,<- l1,<- l2] at q
  exact q
 ·rw [List.size_toArray] at h1 h2
  obtain ⟨x,hxj⟩ : ∃ x,xs[j]?=some x:=⟨_,List.getElem?_eq_getElem (by omega)⟩
  obtain ⟨y,hyj⟩ : ∃ y,ys[j]?=some y:=⟨_,List.getElem?_eq_getElem (by omega)⟩
  obtain ⟨u1,hu1,ru1⟩:=r.get hxj
  obtain ⟨u2,hu2,ru2⟩:=r'.get hyj
  have e1:its.toArray[j]=u1:=by
   have:=(List.getElem?_eq_some_iff.mp hu1).2
   simpa using this
  have e2:its'.toArray[j]=u2:=by
   have:=(List.getElem?_eq_some_iff.mp hu2).2
   simpa using this
  rw [e1,e2]
  exact hd j x y u1 u2 hxj hyj ru1 ru2
theorem isList_of {h:Heap}{a:Addr}{its:Array Value}(p:PlainL h a its):h.IsList a its:=by
 obtain ⟨o,n,e,c,_,d⟩:=p
 exact ⟨o,e,c,n,d⟩
theorem lsts_at {pins:List (Addr × Obj)}{σ:St}{H:Hp}{s:Shared}(I:Inv X pins σ H s){A:Around}{a b:Addr}{xs ys:List V}{e:Nat->Bool}(hx:SqL X.K H a xs)(hy:SqL X.K H b ys)(hu:A.units < cLine)
  (hd : ∀ (j:Nat) x y u v,xs[j]?=some x->ys[j]?=some y->RelV x u->RelV y v->SeqAt.EqAt A.in1 s u v (e j)) :
  SeqAt.RcAt A s (.ref a) (.ref b) ((List.range (min xs.length ys.length)).all e && xs.length == ys.length):=by
 obtain ⟨its,r,tx,_⟩:=I.list hx
 obtain ⟨its',r',ty,_⟩:=I.list hy
 have l1:=r.length
 have l2:=r'.length
 by_cases hl:xs.length=ys.length
 ·have q:=SeqAt.RcAt.lists (A:=A) (e:=e) (isList_of tx) (isList_of ty) (by rw [List.size_toArray,List.size_toArray]; omega) hu (fun j h1 h2 => ?_)
  ·rw [List.size_toArray,<- l1] at q
   have e1:((List.range (min xs.length ys.length)).all e && xs.length == ys.length)=(List.range xs.length).all e:=by
    rw [<- hl,Nat.min_self,beq_self_eq_true,Bool.and_true]
   rw [e1]
   exact q
  ·rw [List.size_toArray] at h1 h2
   obtain ⟨x,hxj⟩ : ∃ x,xs[j]?=some x:=⟨_,List.getElem?_eq_getElem (by omega)⟩
   obtain ⟨y,hyj⟩ : ∃ y,ys[j]?=some y:=⟨_,List.getElem?_eq_getElem (by omega)⟩
   obtain ⟨u1,hu1,ru1⟩:=r.get hxj
   obtain ⟨u2,hu2,ru2⟩:=r'.get hyj
   have e1:its.toArray[j]=u1:=by
    have:=(List.getElem?_eq_some_iff.mp hu1).2
    simpa using this
   have e2:its'.toArray[j]=u2:=by
    have:=(List.getElem?_eq_some_iff.mp hu2).2
    simpa using this
   rw [e1,e2]
   exact hd j x y u1 u2 hxj hyj ru1 ru2
 ·have q:=SeqAt.RcAt.lists_lengths (A:=A) (isList_of tx) (isList_of ty) (by rw [List.size_toArray,List.size_toArray,<- l1,<- l2,bne_iff_ne]; exact hl) hu
  have e1:((List.range (min xs.length ys.length)).all e && xs.length == ys.length)=false:=by
   rw [beq_eq_false_iff_ne.mpr hl,Bool.and_false]
  rw [e1]
  exact q
theorem DEq.at {pins:List (Addr × Obj)}{σ:St}{H:Hp}{s:Shared}(I:Inv X pins σ H s){n:Nat}{x y:V}{k:Bool}(d:DEq X.K H n x y k) : ∀ {A:Around} {u v:Value},A.units+n < cLine->RelV x u->RelV y v->SeqAt.EqAt A s u v k:=by
 induction d with
 | flat fx fy=>intro A u v _ rx ry; exact eqAt_V rx ry fx fy
 | same=>intro A u v _ rx ry; cases rx; cases ry; exact SeqAt.EqAt.same _
 | @tup n a b xs ys e hne hx hy hd ih =>
  intro A u v hu rx ry
  cases rx; cases ry
  exact SeqAt.EqAt.of_refs hne (tups_at I hx hy (by omega) fun j x y u v h1 h2 r1 r2=>ih j x y h1 h2 (by show A.units+1+n < cLine; omega) r1 r2)
 | @lst n a b xs ys e hne hx hy hd ih =>
  intro A u v hu rx ry
  cases rx; cases ry
  exact SeqAt.EqAt.of_refs hne (lsts_at I hx hy (by omega) fun j x y u v h1 h2 r1 r2=>ih j x y h1 h2 (by show A.units+1+n < cLine; omega) r1 r2)
def rEqT (K:PySem.W.Frag):R2:=fun x y H Q=>∃ a b xs ys,∃ e:Nat->Bool,x = .ref a/\y = .ref b/\SqT K H a xs/\SqT K H b ys/\(∀ (j:Nat) x y,xs[j]?=some x->ys[j]?=some y->DEq K H 40 x y (e j)) /\
 Q (.bl ((List.range (min xs.length ys.length)).all e && xs.length == ys.length)) H
def rNeT (K:PySem.W.Frag):R2:=fun x y H Q=>∃ a b xs ys,∃ e:Nat->Bool,x = .ref a/\y = .ref b/\SqT K H a xs/\SqT K H b ys/\(∀ (j:Nat) x y,xs[j]?=some x->ys[j]?=some y->DEq K H 40 x y (e j)) /\
 Q (.bl (!((List.range (min xs.length ys.length)).all e && xs.length == ys.length))) H
theorem op_eqT (hu:X.A.units+64 < cLine):OpR X (compareOp .Eq) (rEqT X.K):=by
 intro pins s σ H x y v u Q I rx ry h
 obtain ⟨a,b,xs,ys,e,rfl,rfl,hx,hy,hd,q⟩:=h
 cases rx; cases ry
 exact tups_at I hx hy (by omega) (fun j x y u v h1 h2 r1 r2=>(hd j x y h1 h2).at I (by show X.A.units+1+40 < cLine; omega) r1 r2) X.prog X.w X.xe _ ⟨.bl _,H,I,rfl,q⟩
end
end L2
namespace L2
open PySem PySem.Spec PyProof.Rows
theorem compLoop_gen {prog:Program}{w:World}{A:Around}{R:Result->Shared->Prop}{s:Shared}{elt target iter:Expr}{ifs:List Expr}{scope:Scope}{pos:Pos}{it acc:Value}{env:Env}(I:Nat->Shared->Prop)
  (turn : ∀ n s,I n s->wpAny (model prog w) A (pyNext it) (fun r s₁=>match r with
   | none=>R (.ok .next) s₁
   | some v=>wpAny (model prog w) A (letOwnedTupleGo target it v) (fun _ s₁'=>wpAny (model prog w) A (assign target env v) (fun _ s₂ =>
     wpAny (model prog w) A (forIn ifs true fun c r=>if r=true then do let ok <- isTrue c env (eval c env); pure (ForInStep.yield ok) else pure (ForInStep.yield r)) (fun ok s₃ =>
      if ok=true then wpAny (model prog w) A (eval elt env) (fun x s₄ =>
       wpAny (model prog w) A (call (.builtin "list.append") [acc,x]) (fun _ s₅=>∃ m,m < n/\I m s₅) (fun _ _=>False) s₄) (fun _ _=>False) s₃
      else ∃ m,m < n/\I m s₃) (fun _ _=>False) s₂) (fun _ _=>False) s₁') (fun _ _=>False) s₁) (fun _ _=>False) s)
  (n:Nat) (h:I n s):codeAny (model prog w) A (.compLoop (.ListComp elt [⟨target,iter,ifs,0⟩] scope pos) 0 it acc env) R s:=by
 refine codeAny_loop rfl I (fun n s hI => ?_) n h
 show wpAny _ A ((compTurn (.ListComp elt [⟨target,iter,ifs,0⟩] scope pos) 0 it acc env).onRaise (fun x=>do noteFrame x env; theTreesLotGoes x)) _ _ s
 refine wpAny_noted ?_
 rw [compTurn_list]
 refine wpAny_bind (wpAny_standAt (wpAny_bind (wpAny_mono (turn n s hI) (fun r s₁ h₁ => ?_) fun _ _ z=>z.elim)))
 cases r with
 | none=>exact wpAny_pure h₁
 | some v =>
  refine wpAny_bind (wpAny_mono h₁ (fun _ s₁' h₁' => ?_) fun _ _ z=>z.elim)
  refine wpAny_bind (wpAny_mono h₁' (fun _ s₂ h₂=>wpAny_bind (wpAny_mono h₂ (fun ok s₃ h₃ => ?_) fun _ _ z=>z.elim)) fun _ _ z=>z.elim)
  cases ok with
  | false=>exact wpAny_pure ⟨rfl,h₃⟩
  | true =>
   exact wpAny_bind (wpAny_bind (wpAny_mono h₃ (fun x s₄ h₄=>wpAny_bind (wpAny_mono h₄ (fun _ s₅ h₅=>wpAny_pure (wpAny_pure ⟨rfl,h₅⟩)) fun _ _ z=>z.elim)) fun _ _ z=>z.elim))
def blk (X:Cx)(N':List Str)(scope:Scope)(cl:List (Str × Addr))(C:Addr)(s₀:Shared)(H₀:Hp)(ex:List Addr)(pn:List (Addr × Obj)):Cx where
 prog:=X.prog
 w:=X.w
 K:=X.K
 mg:=X.mg
 base:=X.base
 A:=X.A
 N:=N'
 s₀:=s₀
 H₀:=H₀
 env:=compEnvC scope cl C X.env
 outer:=X.stack
 stack:=X.stack
 ex:=ex
 fn:=fun _=>false
 calm:=X.calm
 pn:=pn
 xe:=fun _ _=>False
structure ClOk (X:Cx)(scope:Scope)(cl:List (Str × Addr)):Prop where
 run:closureFor scope X.env=pure cl
 sub : ∀ x c,cl.lookup x=some c->X.env.cells.lookup x=some c
 has : ∀ x,((relabel scope X.env).names.lookup x=some .cell\/(relabel scope X.env).names.lookup x=some .free)->∃ c,cl.lookup x=some c
structure BlkN (X:Cx)(N':List Str)(scope:Scope)(cl:List (Str × Addr))(σ σ':St):Prop where
 len:σ'.length=N'.length
 from' : ∀ (i:Nat) (x:Str) (v:V),N'[i]?=some x->σ'[i]?=some (some v)->∃ j:Nat,X.N[j]?=some x/\σ[j]?=some (some v)/\Vis X.env.scope x/\X.env.kindOf x ≠ some .local /\
  ((relabel scope X.env).names.lookup x=some .cell\/(relabel scope X.env).names.lookup x=some .free)
section
variable {X:Cx}{pins:List (Addr × Obj)}{σ σ':St}{H:Hp}{s:Shared}
theorem blk_start {N':List Str}{scope:Scope}{cl:List (Str × Addr)}{fp:List Addr}{h₁:Heap}{t':Nat}(I:Inv X pins σ H s)(hkind:scope.kind = .function)(hcl:ClOk X scope cl)(hN:BlkN X N' scope cl σ σ')(hf : ∀ b ∈ fp,FpOk X pins H b)(hfo : ∀ b ∈ fp,b < s.heap.objs.size)
  (hns:h₁.Ns s.heap.objs.size (fun _=>none)) (hk : ∀ b o,s.heap.get? b=some o->h₁.get? b=some o) :
  Inv (blk X N' scope cl s.heap.objs.size s H fp (X.pn ++ pins)) [] σ' H { s with heap:=h₁,toks:=t' }:=by
 have hfs : ∀ b,b ∉ (X.env.locals :: X.fs)->b ∉ frs X.stack:=fun b hb z=>hb (I.stkSub b z)
 refine ⟨⟨I.ok.mod,hkind,I.ok.glob,I.ok.blt,Nat.le_refl _,?_,hcl.has,fun _ _ h=>absurd h (by intro z; cases z),I.ok.hd,I.ok.frames,.inl rfl,?_,I.bs,Nat.le_trans I.ok.bsz I.sz,?_,?_,I.stack,I.stkFree⟩,
  rfl,I.bare,Un.kept hk,⟨_,hns,?_⟩,?_,I.hok.fresh (Nat.le_refl _),fun x c e=>I.freeC x c (hcl.sub x c e),?_,I.hok.kept hk,hN.len⟩
 ·intro x y c h1 h2
  exact I.ok.inj x y c (hcl.sub x c h1) (hcl.sub y c h2)
 ·intro b hb
  exact ⟨Nat.ne_of_lt (hfo b hb),fun x c e=>(hf b hb).2.2.2.2.1 x c (hcl.sub x c e)⟩
 ·intro b o e hb
  rcases (hf b hb).2.2.2.1 with q | q
  ·exact I.ok.noex b o e q
  ·exact absurd (Nat.lt_of_lt_of_le (Heap.lt_size e) (Nat.le_trans I.ok.bsz q)) (Nat.lt_irrefl _)
 ·intro b hb
  refine hfs b fun z => ?_
  rcases List.mem_cons.mp z with z | z
  ·exact (hf b hb).2.1 z
  ·exact (hf b hb).2.2.1 z
 ·intro i x v h1 h2 _
  obtain ⟨j,hj,hσ,hv,hnl,hk'⟩:=hN.from' i x v h1 h2
  obtain ⟨m,hn,hl⟩:=I.loc
  obtain ⟨u,r,l⟩:=hl j x v hj hσ hv
  refine ⟨u,r,.inr ⟨hk',?_⟩⟩
  obtain ⟨c,hc⟩:=hcl.has x hk'
  rcases l with ⟨hloc,_⟩ | ⟨_,c',hc',hcell⟩
  ·exact absurd hloc hnl
  ·have e:=hcl.sub x c hc
   rw [hc'] at e
   cases e
   obtain ⟨o,ho,hd⟩:=hcell
   exact ⟨_,hc,o,hk _ _ ho,hd⟩
 ·intro x c e
  obtain ⟨v,o,ho,hd⟩:=I.cell x c (hcl.sub x c e)
  exact ⟨v,o,hk _ _ ho,hd⟩
 ·intro p hp
  rw [show (blk X N' scope cl s.heap.objs.size s H fp (X.pn ++ pins)).pn=X.pn ++ pins from rfl,List.append_nil] at hp
  obtain ⟨a1,a2,a3,a4,a5⟩:=I.pin p hp
  refine ⟨hk _ _ a1,a2,Nat.ne_of_lt (Heap.lt_size a1),hfs _ fun z => ?_,a5⟩
  rcases List.mem_cons.mp z with z | z
  ·exact a3 z
  ·exact a4 z
theorem blk_end {N':List Str}{scope:Scope}{cl:List (Str × Addr)}{fp:List Addr}{pl:List (Addr × Obj)}{H':Hp}{s':Shared}{h'':Heap}(I:Inv X pins σ H s)(hf : ∀ b ∈ fp,FpOk X pins H b)
  (J:Inv (blk X N' scope cl s.heap.objs.size s H fp (X.pn ++ pins)) pl σ' H' s') (hs:Heap.SameBut s.heap.objs.size s'.heap h''):Inv X pins σ H' { s' with heap:=h'' }:=by
 have hne : ∀ b o,s.heap.get? b=some o->b ≠ s.heap.objs.size:=fun b o e=>Nat.ne_of_lt (Heap.lt_size e)
 have hC:H' s.heap.objs.size=none:=J.free
 have ub:Un (frs X.stack) fp H H' s.heap s'.heap:=J.base
 have u:Un (frs X.stack) fp H H' s.heap h'':={
  keep:=fun b o e n hb hx=>hs.extBut b o (hne b o e) (ub.keep b o e n hb hx)
  slot:=fun b o e n hb hx=>by
   obtain ⟨sl,q⟩:=ub.slot b o e n hb hx
   exact ⟨sl,hs.extBut b _ (hne b o e) q⟩
  free:=ub.free
  there:=fun b o e hx=>by
   obtain ⟨o',q⟩:=ub.there b o e hx
   exact ⟨o',hs.extBut b _ (hne b o e) q⟩
  tups:=ub.tups
  frzs:=ub.frzs
  tbls:=ub.tbls }
 have hok:HOk X.prog X.w H' h'':=fun a o e=>(J.hok a o e).stay (fun b ob hb q=>hs.extBut b ob (fun z=>by
  rw [z] at hb
  rcases hb with hb | hb
  ·rw [<- hb,hC] at e; cases e
  ·rw [hC] at hb; cases hb) q) (fun _ h=>h) (fun _ _ h=>h)
 exact I.call' (s':={ s' with heap:=h'' }) J.os u hok J.bare fun b hb=>by
  obtain ⟨f0,f1,f2,f3,f4,f5⟩:=hf b hb
  exact ⟨f3,f1,f4,f5⟩
end
end L2
namespace L2
open PySem PySem.Spec PyProof.Rows
def PIfs (X:Cx)(ifs:List Expr)(t:TT):Prop :=
 ∀ (pins:List (Addr × Obj)) (s:Shared) (σ:St) (H:Hp) (Q:Bool->Hp->Prop),Inv X pins σ H s->t σ H Q ->
  wpAny (model X.prog X.w) X.A (forIn ifs true fun c r=>if r=true then do let ok <- isTrue c X.env (eval c X.env); pure (ForInStep.yield ok) else pure (ForInStep.yield r)) (TP X pins σ Q) X.xe s
def tNoIf:TT:=fun _ H Q=>Q true H
theorem pifs_nil {X:Cx}:PIfs X [] tNoIf:=fun _ _ _ H _ I h=>wpAny_tests_nil ⟨H,I,h⟩
theorem pifs_one {X:Cx}{c:Expr}{t:TT}(h:PT X c t):PIfs X [c] t:=fun pins s σ H Q I hw=>wpAny_tests_one (h pins s σ H Q I hw)
structure Keep (σa σb:St):Prop where
 len:σb.length=σa.length
 at' : ∀ (i:Nat) (v:V),σa[i]?=some (some v)->σb[i]?=some (some v)
theorem Keep.refl (σ:St):Keep σ σ:=⟨rfl,fun _ _ h=>h⟩
theorem Keep.set {σa σb:St}{i:Nat}{v:V}(k:Keep σa σb)(h:σa[i]?=some none):Keep σa (σb.set i (some v)):=by
 refine ⟨by rw [List.length_set]; exact k.len,fun j u e => ?_⟩
 have hj:i ≠ j:=by
  rintro rfl
  rw [h] at e
  cases e
 rw [List.getElem?_set_ne hj]
 exact k.at' j u e
def tComp (σf:St->St)(wi:TI)(g:TG)(tt:TT)(te:TE):TE:=fun σ H Q=>wi σ H fun J H1=>∀ D,H1 D=none->∃ W:Nat->Nat->List V->Hp->Prop,(∃ m,W 0 m [] (upd H1 D (.lst []))) /\
 ∀ i m ys H,W i m ys H->H D=some (.lst ys)/\ys.length < sizeLine /\
  ((J.stop i H/\Q (.ref D) H)\/(J.go i H/\∀ x H',J.yld i H x H'->g x (σf σ) H' fun σ2 H2=>Keep (σf σ) σ2/\tt σ2 H2 fun b H3 =>
   if b=true then te σ2 H3 fun y H4=>H4 D=some (.lst ys)/\∃ m',m' < m/\W (i+1) m' (ys ++ [y]) (upd H4 D (.lst (ys ++ [y]))) else ∃ m',m' < m/\W (i+1) m' ys H3))
theorem pe_comp {X:Cx}{elt tg iter:Expr}{ifs:List Expr}{scope:Scope}{pos:Pos}{N':List Str}{cl:List (Str × Addr)}{wi:TI}{g:TG}{tt:TT}{te:TE}(σf:St->St)
  (hc:X.calm=true) (hkind:scope.kind = .function) (hcell : ∀ y ∈ scope.names,y.2 ≠ .cell) (hnames : ∀ y ∈ scope.names,y.2 = .local->scope.names.lookup y.1=some .local) (hcl:ClOk X scope cl)
  (hN : ∀ σ:St,σ.length=X.N.length->BlkN X N' scope cl σ (σf σ)) (hi:PI X tg iter wi)
  (hg : ∀ C s₀ H₀ ex pn,PG (blk X N' scope cl C s₀ H₀ ex pn) tg g) (ht : ∀ C s₀ H₀ ex pn,PIfs (blk X N' scope cl C s₀ H₀ ex pn) ifs tt) (he : ∀ C s₀ H₀ ex pn,PE (blk X N' scope cl C s₀ H₀ ex pn) elt te)
  (hs : ∀ x,foldedSetIterable iter X.env x=pure x:=by intro _; rfl):PE X (.ListComp elt [⟨tg,iter,ifs,0⟩] scope pos) (tComp σf wi g tt te):=by
 intro pins s σ H Q I h
 rw [eval_ListComp]
 refine wpAny_comprehension_free (use:=none) rfl hs hcl.run hkind hnames (thn (hi pins s σ H _ I h) fun v s1 h1=>thn h1 fun itv s2 h2 => ?_)
 obtain ⟨it,fp,tn,J,H2,rfl,I2,T,st2,f2,q⟩:=h2
 refine wpAny_newObj_type (wpAny_newFunctionEnv hcell (by intro y hy; simp at hy) (fun h₁ hns₁ hsb₁ => ?_) hkind)
 dsimp only at hns₁ hsb₁ ⊢
 have hfo : ∀ b ∈ fp,b < s2.heap.objs.size:=fun b hb=>by
  obtain ⟨o,e,_⟩:=T.obj _ _ st2 b hb
  exact Heap.lt_size e
 have hDf:H2 s2.heap.objs.size=none:=I2.hok.fresh (Nat.le_refl _)
 obtain ⟨W,⟨m0,w0⟩,turn⟩:=q s2.heap.objs.size hDf
 have I3:Inv X pins σ (upd H2 s2.heap.objs.size (.lst [])) { s2 with heap:=s2.heap.push { cls:=.type "list",data:=.seq ([]:List Value).toArray } }:=I2.lnew (its:=[]) (t':=s2.toks) .nil (Nat.zero_le _)
 have f3 : ∀ b ∈ fp,FpOk X pins (upd H2 s2.heap.objs.size (.lst [])) b:=fun b hb=>⟨by rw [upd_ne (Nat.ne_of_lt (hfo b hb))]; exact (f2 b hb).1,(f2 b hb).2⟩
 generalize hD:s2.heap.objs.size=D at *
 generalize hs3:({ s2 with heap:=s2.heap.push { cls:=.type "list",data:=.seq ([]:List Value).toArray } }:Shared)=s3 at *
 have hh3:s3.heap=s2.heap.push { cls:=.type "list",data:=.seq ([]:List Value).toArray }:=by rw [<- hs3]
 have hsz3:s2.heap.objs.size < s3.heap.objs.size:=by rw [hh3,Heap.size_push]; exact Nat.lt_succ_self _
 have e3 : ∀ h t,({ s2 with heap:=h,toks:=t }:Shared)={ s3 with heap:=h,toks:=t }:=fun h t=>by rw [<- hs3]
 rw [<- hh3] at hns₁ hsb₁ ⊢
 have hk3 : ∀ b o,s3.heap.get? b=some o->h₁.get? b=some o:=fun b o e=>hsb₁.extBut b o (Nat.ne_of_lt (Heap.lt_size e)) (Heap.get?_push_of_some _ e)
 have I4:=blk_start (t':=s3.toks) I3 hkind hcl (hN σ I.len) f3 (fun b hb=>Nat.lt_trans (hfo b hb) (hD ▸ hsz3)) (hns:=by simpa using hns₁) hk3
 generalize hB:blk X N' scope cl s3.heap.objs.size s3 (upd H2 D (.lst [])) fp (X.pn ++ pins)=B at *
 have hBp:B.prog=X.prog:=by rw [<- hB]; rfl
 have hBw:B.w=X.w:=by rw [<- hB]; rfl
 have hBK:B.K=X.K:=by rw [<- hB]; rfl
 have hBA:B.A=X.A:=by rw [<- hB]; rfl
 have hBc:B.calm=true:=by rw [<- hB]; exact hc
 have hBe:B.env=compEnvC scope cl s3.heap.objs.size X.env:=by rw [<- hB]; rfl
 have hBx:B.xe=fun _ _=>False:=by rw [<- hB]; rfl
 have hGB:PG B tg g:=hB ▸ hg _ _ _ _ _
 have hTB:PIfs B ifs tt:=hB ▸ ht _ _ _ _ _
 have hEB:PE B elt te:=hB ▸ he _ _ _ _ _
 have stat : ∀ {H':Hp},(∀ b ∈ fp,H' b=none)->∀ b ∈ fp,FpOk B [] H' b:=fun {H'} hn b hb=>by
  obtain ⟨f0,f1,f2',f3',f4,f5⟩:=f3 b hb
  rw [<- hB]
  refine ⟨hn b hb,Nat.ne_of_lt (Nat.lt_trans (hfo b hb) (hD ▸ hsz3)),fun z => ?_,.inl hb,fun x c e=>f4 x c (hcl.sub x c e),fun p hp => ?_⟩
  ·rcases List.mem_cons.mp (I.stkSub b z) with z | z
   ·exact f1 z
   ·exact f2' z
  ·rw [show (blk X N' scope cl s3.heap.objs.size s3 (upd H2 D (.lst [])) fp (X.pn ++ pins)).pn=X.pn ++ pins from rfl,List.append_nil] at hp
   exact f5 p hp
 have loop : ∀ s4:Shared,Inv B [] (σf σ) (upd H2 D (.lst [])) s4->tn 0 s4.heap ->
   codeAny (model X.prog X.w) X.A (.compLoop (.ListComp elt [⟨tg,iter,ifs,0⟩] scope pos) 0 (.ref it) (.ref D) (compEnvC scope cl s3.heap.objs.size X.env)) (compPost (model X.prog X.w) X.A X.xe none (EP X pins σ Q) (.ref D) s3.heap.objs.size) s4:=by
  intro s4 I4 st4
  refine compLoop_gen (I:=fun n s'=>∃ i ys H',Inv B [] (σf σ) H' s'/\tn i s'.heap/\(∀ b ∈ fp,H' b=none)/\W i n ys H') ?_ m0 ⟨0,[],_,I4,st4,fun b hb=>(f3 b hb).1,w0⟩
  rintro n s5 ⟨i,ys,H5,I5,st5,fr5,w5⟩
  obtain ⟨hD5,hlen5,alt⟩:=turn i n ys H5 w5
  rcases alt with ⟨stop,qn⟩ | ⟨go,step⟩
  ·have z:=T.done B hBp hBw hBK hBc i [] s5 (σf σ) H5 (fun _ _=>False) I5 (stat fr5) st5 stop
   rw [hBA] at z
   refine thn z fun r s6 ⟨hr,I6⟩ => ?_
   subst hr
   obtain ⟨m6,hn6,_⟩:=I6.loc
   rw [hBe] at hn6
   refine ⟨m6,hn6,fun h' hs' => ?_⟩
   subst hB
   exact ⟨.ref D,H5,blk_end I3 f3 I6 hs',rfl,qn⟩
  ·have z:=T.item B hBp hBw hBK hBc i [] s5 (σf σ) H5 (fun _ _=>False) I5 (stat fr5) st5 go
   rw [hBA] at z
   refine thn z fun r s6 ⟨u,hr,h6⟩ => ?_
   subst hr
   refine thn h6 fun _ s7 ⟨x,H7,I7,r7,y7,st7,fr7⟩ => ?_
   have I7':=I7.pinned (stat fr7) (T.obj _ _ st7)
   have z8:=hGB _ s7 (σf σ) H7 x u _ I7' r7 (step x H7 y7)
   rw [hBp,hBw,hBA,hBe,hBx] at z8
   refine thn z8 fun _ s8 ⟨σ8,H8,I8,k8,q8⟩ => ?_
   have z9:=hTB _ s8 σ8 H8 _ I8 q8
   rw [hBp,hBw,hBA,hBe,hBx] at z9
   refine thn z9 fun ok s9 ⟨H9,I9,q9⟩ => ?_
   have again : ∀ {ys':List V} {H':Hp} {s':Shared},Inv B ([] ++ pinsAt fp s7.heap) σ8 H' s'->(∃ m',m' < n/\W (i+1) m' ys' H')->∃ m,m < n/\∃ i ys H',Inv B [] (σf σ) H' s'/\tn i s'.heap/\(∀ b ∈ fp,H' b=none)/\W i m ys H':=fun {ys' H' s'} J ⟨m',hm,w'⟩=>by
    refine ⟨m',hm,i+1,ys',H',J.unpinned.weak k8.len.symm k8.at',T.keep _ _ _ st7 fun b hb o e=>(J.pin (b,o) (List.mem_append_right _ (List.mem_append_right _ (mem_pinsAt hb e)))).1,fun b hb => ?_,w'⟩
    obtain ⟨o,e,d⟩:=T.obj _ _ st7 b hb
    exact (J.pin (b,o) (List.mem_append_right _ (List.mem_append_right _ (mem_pinsAt hb e)))).2.1
   cases ok with
   | false=>exact again I9 q9
   | true =>
    have z10:=hEB _ s9 σ8 H9 _ I9 q9
    rw [hBp,hBw,hBA,hBe,hBx] at z10
    refine thn z10 fun y10 s10 ⟨y,H10,I10,r10,hD10,q10⟩ => ?_
    have z11:=mt_append (X:=B) _ s10 σ8 H10 (.ref D) [y] (.ref D) [y10] (fun _ H'=>∃ m',m' < n/\W (i+1) m' (ys ++ [y]) H') I10 rfl (.cons r10 .nil) ⟨D,ys,y,rfl,rfl,hD10,hlen5,q10⟩
    rw [hBp,hBw,hBA,hBx] at z11
    refine thn z11 fun _ s11 ⟨_,H11,I11,_,q11⟩=>again I11 q11
 have st4:tn 0 ({ s3 with heap:=h₁,toks:=s3.toks }:Shared).heap:=T.keep _ _ _ st2 fun b hb o e=>hk3 b o (by rw [hh3]; exact Heap.get?_push_of_some _ e)
 have L4:=loop _ I4 st4
 subst hs3
 exact codeAny_compStart_list L4 (T.self _ 0 _ _ _ st4 L4)
end L2
namespace L2
open PySem PySem.Spec PyProof.Rows
def Bt (n:Nat)(x:Int):Prop:=x.natAbs < 2 ^ n
theorem Bt.bits {n:Nat}{x:Int}(h:Bt n x):Builtin.Int.intBits x<=n:=intBits_le_iff.mpr h
theorem Bt.of_bits {n:Nat}{x:Int}(h:Builtin.Int.intBits x<=n):Bt n x:=intBits_le_iff.mp h
theorem Bt.mono {m n:Nat}{x:Int}(h:Bt m x)(hn:m<=n):Bt n x:=Nat.lt_of_lt_of_le h (Nat.pow_le_pow_right (by decide) hn)
theorem Bt.mul {m n:Nat}{x y:Int}(h:Bt m x)(h':Bt n y):Bt (m+n) (x*y):=.of_bits (intBits_mul_le h.bits h'.bits)
theorem Bt.add {m:Nat}{x y:Int}(h:Bt m x)(h':Bt m y):Bt (m+1) (x+y):=.of_bits (by have:=intBits_add_le h.bits h'.bits; rwa [Nat.max_self] at this)
theorem Bt.le {m:Nat}{x y:Int}(h:Bt m y)(h0:0<=x)(hy:x<=y):Bt m x:=by
 unfold Bt at *
 omega
theorem log_of {n:Nat}{x:Int}(h:Bt n x)(hp:0 < x)(hn:n<=9000):x.natAbs.log2 < 9000:=by
 have:x.natAbs.log2 < n:=(Nat.log2_lt (by omega)).mpr h
 omega
def CMulB (i j:Int):Prop:=Bt 1000000 i/\Bt 1000000 j
def CDivB (_i j:Int):Prop:=0 < j/\Bt 9000 j
def CPowB (i j:Int):Prop:=0<=j/\j<=1000/\Bt 1000 i
section
variable {X:Cx}
theorem op_mulB:OpR X (binaryOp .Mult) (rI CMulB fun i j=>.int (i*j)):=opI fun _ _ _ _ _ _ _ hc q=>mul_int q (.of_bits (Nat.le_trans hc.1.bits (by decide)) (Nat.le_trans hc.2.bits (by decide)))
theorem op_fdivB:OpR X (binaryOp .FloorDiv) (rI CDivB fun i j=>.int (i / j)):=opI fun i j _ _ _ _ _ hc q=>by
 have h1:(0:Int) < j:=hc.1
 rw [<- Int.fdiv_eq_ediv_of_nonneg i (Int.le_of_lt h1)] at q
 exact floordiv_int (by omega) q (.inl (PyProof.noPylong_of_log2 (log_of hc.2 h1 (Nat.le_refl _))))
theorem op_powB:OpR X (binaryOp .Pow) (rI CPowB fun i j=>.int (i ^ j.toNat)):=opI fun i j _ _ _ _ _ hc q=>by
 obtain ⟨h0,h1,h2⟩:=hc
 refine PyProof.Rows.pow_int h0 ?_ q
 have b:=h2.bits
 have e:(2:Int) ^ 27=134217728:=by decide
 have:=Int.mul_le_mul (show (Builtin.Int.intBits i:Int)<=1000 by omega) h1 h0 (by decide)
 omega
theorem deq_ints {K:PySem.W.Frag}{H:Hp}{n:Nat}(ns ms:List Int) : ∀ (j:Nat) x y,(ns.map V.int)[j]?=some x->(ms.map V.int)[j]?=some y->DEq K H n x y (ns[j]? == ms[j]?):=by
 intro j x y h1 h2
 rw [List.getElem?_map] at h1 h2
 cases e1:ns[j]? with
 | none=>rw [e1] at h1; cases h1
 | some a =>
  cases e2:ms[j]? with
  | none=>rw [e2] at h2; cases h2
  | some b =>
   rw [e1] at h1
   rw [e2] at h2
   cases h1
   cases h2
   have:(some a == some b)=eqV (V.int a) (V.int b):=by
    show (a == b)=(a == b)
    rfl
   rw [this]
   exact DEq.flat rfl rfl
theorem all_ints : ∀ (ns ms:List Int),((List.range (min ns.length ms.length)).all (fun j=>ns[j]? == ms[j]?) && ns.length == ms.length)=decide (ns=ms):=by
 intro ns ms
 rw [Bool.eq_iff_iff]
 simp only [Bool.and_eq_true,List.all_eq_true,List.mem_range,beq_iff_eq,decide_eq_true_eq]
 constructor
 ·rintro ⟨h,hl⟩
  refine List.ext_getElem? fun i => ?_
  by_cases hi:i < ns.length
  ·exact h i (by omega)
  ·rw [List.getElem?_eq_none (by omega),List.getElem?_eq_none (by omega)]
 ·rintro rfl
  exact ⟨fun _ _=>rfl,rfl⟩
def rEqI (K:PySem.W.Frag):R2:=fun x y H Q=>∃ a b,∃ ns ms:List Int,x = .ref a/\y = .ref b/\SqT K H a (ns.map V.int)/\SqT K H b (ms.map V.int)/\Q (.bl (decide (ns=ms))) H
def rNeI (K:PySem.W.Frag):R2:=fun x y H Q=>∃ a b,∃ ns ms:List Int,x = .ref a/\y = .ref b/\SqT K H a (ns.map V.int)/\SqT K H b (ms.map V.int)/\Q (.bl (!decide (ns=ms))) H
theorem op_eqI (hu:X.A.units+64 < cLine):OpR X (compareOp .Eq) (rEqI X.K):=by
 intro pins s σ H x y v u Q I rx ry h
 obtain ⟨a,b,ns,ms,rfl,rfl,hx,hy,q⟩:=h
 refine op_eqT hu pins s σ H _ _ v u Q I rx ry ⟨a,b,_,_,fun j=>ns[j]? == ms[j]?,rfl,rfl,hx,hy,deq_ints ns ms,?_⟩
 rw [List.length_map,List.length_map,all_ints]
 exact q
theorem nes_at {pins:List (Addr × Obj)}{σ:St}{H:Hp}{s:Shared}(I:Inv X pins σ H s){A:Around}{a b:Addr}{xs ys:List V}{e:Nat->Bool}(hx:SqT X.K H a xs)(hy:SqT X.K H b ys)(hu:A.units < cLine)
  (hd : ∀ (j:Nat) x y u v,xs[j]?=some x->ys[j]?=some y->RelV x u->RelV y v->SeqAt.EqAt A.in1 s u v (e j)) :
  SeqAt.RcNeAt A s (.ref a) (.ref b) (!((List.range (min xs.length ys.length)).all e && xs.length == ys.length)):=by
 obtain ⟨its,r,tx,_⟩:=I.tuple hx
 obtain ⟨its',r',ty,_⟩:=I.tuple hy
 have l1:=r.length
 have l2:=r'.length
 have q:=SeqAt.RcNeAt.tuples (A:=A) (e:=e) tx ty hu (fun j h1 h2 => ?_)
 ·rw [List.size_toArray,List.size_toArray,<- l1,<- l2] at q
  exact q
 ·rw [List.size_toArray] at h1 h2
  obtain ⟨x,hxj⟩ : ∃ x,xs[j]?=some x:=⟨_,List.getElem?_eq_getElem (by omega)⟩
  obtain ⟨y,hyj⟩ : ∃ y,ys[j]?=some y:=⟨_,List.getElem?_eq_getElem (by omega)⟩
  obtain ⟨u1,hu1,ru1⟩:=r.get hxj
  obtain ⟨u2,hu2,ru2⟩:=r'.get hyj
  have e1:its.toArray[j]=u1:=by
   have:=(List.getElem?_eq_some_iff.mp hu1).2
   simpa using this
  have e2:its'.toArray[j]=u2:=by
   have:=(List.getElem?_eq_some_iff.mp hu2).2
   simpa using this
  rw [e1,e2]
  exact hd j x y u1 u2 hxj hyj ru1 ru2
theorem op_neT (hu:X.A.units+64 < cLine):OpR X (compareOp .NotEq) (rNeT X.K):=by
 intro pins s σ H x y v u Q I rx ry h
 obtain ⟨a,b,xs,ys,e,rfl,rfl,hx,hy,hd,q⟩:=h
 cases rx; cases ry
 exact nes_at I hx hy (by omega) (fun j x y u v h1 h2 r1 r2=>(hd j x y h1 h2).at I (by show X.A.units+1+40 < cLine; omega) r1 r2) X.prog X.w X.xe _ ⟨.bl _,H,I,rfl,q⟩
theorem op_neI (hu:X.A.units+64 < cLine):OpR X (compareOp .NotEq) (rNeI X.K):=by
 intro pins s σ H x y v u Q I rx ry h
 obtain ⟨a,b,ns,ms,rfl,rfl,hx,hy,q⟩:=h
 refine op_neT hu pins s σ H _ _ v u Q I rx ry ⟨a,b,_,_,fun j=>ns[j]? == ms[j]?,rfl,rfl,hx,hy,deq_ints ns ms,?_⟩
 rw [List.length_map,List.length_map,all_ints]
 exact q
end
end L2
namespace L2
open PySem PySem.Spec PyProof.Rows
section
variable {X:Cx}
theorem call_sum (hc:X.calm=true):CallR X (.builtin "sum") (fun xs H Q=>∃ p,∃ ns:List Int,xs=[.ref p]/\SqL X.K H p (ns.map V.int)/\Q (.int ns.sum) H):=by
 intro pins s σ H xs us Q I r h
 obtain ⟨p,ns,rfl,hq,q⟩:=h
 obtain ⟨u,rfl,rx⟩:=vals1 r
 cases rx
 obtain ⟨its,r',pl,hz⟩:=I.list hq
 have hi:=intsAre_of r'
 obtain ⟨ys,e⟩:=(hi.allInts).items
 have hl:s.heap.IsList p (intItems ys):=e ▸ pl.isList
 refine sum_intListG (I.ok.hd hc) hl fun h' tk t' hk => ?_
 refine ⟨.int ns.sum,H,I.kept hk,⟨t',?_⟩,q⟩
 have e1:numsOf its=ns:=hi.numsOf
 have e2:numsOf (intItems ys).toList=numsOf its:=by rw [<- e]
 rw [nums_intItems,e1] at e2
 rw [preSum_eq,List.take_of_length_le (by simp),e2]
def tIt (K:PySem.W.Frag)(i k:Nat):TE:=fun σ H Q=>∃ p xs v,σ[i]?=some (some (.ref p))/\SqT K H p xs/\xs[k]?=some v/\Q v H
theorem pit (i k:Nat){x:Str}{p q:Pos}{j:Nat}(hN:X.N[i]?=some x:=by rfl)(hv:Vis X.env.scope x:=by first | exact Or.inl rfl | exact Or.inr (Or.inl rfl) | exact Or.inr (Or.inr rfl))(hd:(x == ("__debug__" : Str))=false:=by decide)
  (hcd:(x == ("__classdict__" : Str))=false:=by decide) {pos:Pos}:PE X (.Subscript (.Name x p) (.Constant (.int (k:Int)) j q) pos) (tIt X.K i k):=by
 intro pins s σ H Q I h
 obtain ⟨a,xs,v,e,hs,hk,q⟩:=h
 exact pe_ix ix_tup (pe_var hN hv hd hcd) pe_int (fun _ _=>rfl) pins s σ H Q I ⟨_,e,a,xs,(k:Int),v,rfl,rfl,hs,atI_nat hk,q⟩
structure Cal (P:Program)(w:World)(K:PySem.W.Frag)(mg:Str->Option Value)(base:Heap)(CX:CXT)(k:Nat)(x:Str)(ps:List Str)(sp:Sp):Prop where
 ex : ∃ (f:Addr) (fd:FuncData),mg x=some (.ref f)/\PySem.W.keepIn K (.ref f)=true/\Binds K fd ps []/\FnOk P w K mg base CX k f fd ps sp
theorem pe_cal {CX:CXT}{k:Nat}{x:Str}{ps:List Str}{sp:Sp}{E:XK}{e:Expr}{es:List Expr}{t:TA}{p pos:Pos}(C:Cal X.prog X.w X.K X.mg X.base CX k x ps sp)(hr:Room k X.A)(hg:Gl X x)(hx:Passes CX X E)
  (ha:PA X (e :: es) t) (hdb:(x == ("__debug__" : Str))=false:=by decide) (he:starEach (e :: es) X.env=(false,eval e X.env) :: starEach es X.env:=by rfl) (hpl:(backTo pos (starEach es X.env)).any (·.1)=false:=by rfl) :
  PE X (.Call (.Name x p) (e :: es) [] pos) (tCall sp [] E t):=by
 obtain ⟨f,fd,hm,hk,hb,F⟩:=C.ex
 exact pe_call F hr hg hm hk hb .nil hx ha hdb he hpl
theorem Cal.mono {P:Program}{w:World}{K:PySem.W.Frag}{mg:Str->Option Value}{base:Heap}{CX:CXT}{j k:Nat}{x:Str}{ps:List Str}{sp:Sp}(C:Cal P w K mg base CX j x ps sp)(h:j<=k):Cal P w K mg base CX k x ps sp:=by
 obtain ⟨f,fd,hm,hk,hb,F⟩:=C.ex
 exact ⟨f,fd,hm,hk,hb,F.mono h⟩
end
theorem Same.tup {K:PySem.W.Frag}{H H':Hp}{a:Addr}{xs:List V}(e:Same H H')(h:SqT K H a xs):SqT K H' a xs:=by
 rcases h with (h | ⟨o,h⟩) | h
 ·exact .inl (.inl (e _ _ h))
 ·exact .inl (.inr ⟨o,e _ _ h⟩)
 ·exact .inr h
theorem Same.upd {H:Hp}{a:Addr}{o:HO}(h:H a=none):Same H (upd H a o):=fun b u e=>by
 rw [upd_ne (ne_of_none e h)]
 exact e
def RetT (H:Hp)(Q:VK)(ns:List Int):Prop:=∀ p H',Same H H'->H' p=some (.tup (ns.map V.int))->Q (.ref p) H'
end L2
namespace L2
open PySem PySem.Spec PyProof.Rows PySem.W
structure ExK (K:Frag)(C:Addr):Prop where
 ga:findIn K (.ref C) "__getattribute__" = some (some (.builtin "BaseException.__getattribute__"))
 gt:findIn K (.ref C) "__getattr__" = some none
 cl:findIn K (.ref C) "__class__" = some (some (.builtin "object.__class__"))
 sb:subIn K (.ref C) (.type "BaseException")=some true
 so:subIn K (.ref C) (.type "object")=some true
 ci:(clsIn K C).isSome=true
structure ExAt (h:Heap)(a:Addr)(o:Obj)(C:Addr):Prop where
 at_:h.get? a=some o
 cls:o.cls = .ref C
theorem ExAt.type {M:Model}{h:Heap}{a C:Addr}{o:Obj}(I:ExAt h a o C):Looks M h (typeOf (.ref a)) (.ref C):=by
 rw [<- I.cls]
 exact (Looks.ld I.at_).andThen .now
section
variable {prog:Program}{w:World}{A:Around}{E:Value->Shared->Prop}{h:Heap}{g:Array GenState}{d:Drawn}{t:Nat}{os:OsState}{a C:Addr}{o:Obj}{K:Frag}
theorem exc_class_get {R:Result->Shared->Prop}(X:K.In h)(F:ExK K C)(I:ExAt h a o C)(hq:R (.ok (.ret (.ref C))) ⟨h,g,d,t,os⟩) :
  codeAny (model prog w) A (.call (.builtin "getset_descriptor.__get__") ⟨[.builtin "object.__class__",.ref a,.ref C],[]⟩) R ⟨h,g,d,t,os⟩:=by
 have hT5:(⟨h,g,d,t,os⟩:Shared).TypeIs (.builtin "object.__class__") "getset_descriptor" := PySem.F.typeOf_object_class
 have hx:=I.at_
 have hc:=I.cls
 have L1:=looks_subIn (M:=model prog w) X F.so
 rw [<- PySem.F.owner_object_class] at L1
 refine codeAny_call_builtin PySem.F.slot_gs_get.plain PySem.F.entry_gs_get (PySem.F.slot_gs_get.check _ _ _ _ _ _ _ _ hT5 (PySem.F.args_gs_get _ _ _) ?_)
 repeat (any_goals (first | assumption | (with_reducible refine wpAny_loadPart_at hx ?_; rw [hc]) | with_reducible refine L1.at ?_ | wp_step))
 refine ⟨Code.quiet_builtin _ (by decide +kernel),codeAny_builtin PySem.F.entry_object_class ?_⟩
 repeat (any_goals (first | assumption | (with_reducible refine wpAny_loadPart_at hx ?_; rw [hc]) | wp_step))
theorem exc_class_entry {tk:Tok}{Q:Fin->Shared->Prop}(X:K.In h)(F:ExK K C)(I:ExAt h a o C)(hq:Q (.done (.ret (.ref C))) ⟨h,g,d,t,os⟩) :
  wpAny (model prog w) A (Builtin.«object.__getattribute__» ⟨[.ref a,.str "__class__" tk],[]⟩) Q E ⟨h,g,d,t,os⟩:=by
 have L1:=looks_findIn (M:=model prog w) X F.cl
 have hT5:(⟨h,g,d,t,os⟩:Shared).TypeIs (.builtin "object.__class__") "getset_descriptor" := PySem.F.typeOf_object_class
 have f5:=PySem.F.typeOf_object_class
 have f6:=PySem.F.slot_gs_get.lookup
 have f7:=PySem.F.slot_gs_set.lookup
 have hx:=I.at_
 have hc:=I.cls
 repeat (any_goals (first | assumption | (with_reducible refine wpAny_loadPart_at hx ?_; rw [hc]) | with_reducible refine L1.at ?_ | wp_step))
 refine exc_class_get X F I ?_
 repeat (any_goals (first | assumption | wp_step))
theorem exc_check_ga {M:Model}{nameV:Value}{Q:Unit->Shared->Prop}(X:K.In h)(F:ExK K C)(I:ExAt h a o C)(hq:Q () ⟨h,g,d,t,os⟩):wpAny M A (checkBuiltinCall "BaseException.__getattribute__" ⟨[.ref a,nameV],[]⟩) Q E ⟨h,g,d,t,os⟩:=by
 have hk:builtinKind "BaseException.__getattribute__" = some .slot:=by decide +kernel
 have hsplit:splitId "BaseException.__getattribute__" = some ("BaseException","__getattribute__"):=by decide +kernel
 have L2':=looks_subIn (M:=M) X F.sb
 have ha:=PySem.F.args_bexc_ga (.ref a) nameV
 have hx:=I.at_
 have hc:=I.cls
 simp only [checkBuiltinCall,hk,hsplit]
 refine wpAny_bind ?_
 ·unfold isInstance
  repeat (first | (with_reducible refine wpAny_loadPart_at hx ?_; rw [hc]) | with_reducible refine L2'.at ?_ | wp_step)
  exact hq
theorem exc_class_call {tk:Tok}{R:Result->Shared->Prop}(X:K.In h)(F:ExK K C)(I:ExAt h a o C)(hq:R (.ok (.ret (.ref C))) ⟨h,g,d,t,os⟩) :
  codeAny (model prog w) A (.call (.builtin "BaseException.__getattribute__") ⟨[.ref a,.str "__class__" tk],[]⟩) R ⟨h,g,d,t,os⟩ :=
 codeAny_call_builtin PySem.F.attr_ValueError.ga.plain PySem.F.entry_bexc_ga (exc_check_ga X F I (exc_class_entry X F I hq))
theorem exc_class_by {tk:Tok}{fill expr:Bool}{Q:Value->Shared->Prop}(X:K.In h)(F:ExK K C)(I:ExAt h a o C)(hq:Q (.ref C) ⟨h,g,d,t,os⟩) :
  wpAny (model prog w) A (getAttrBy (.ref a) (.str "__class__" tk) fill expr) Q E ⟨h,g,d,t,os⟩:=by
 have f3:=PySem.F.attr_ValueError.ga.bind (.ref a)
 have hx0:(expr && onTheHeap (Value.builtin "BaseException.__getattribute__"))=false:=by cases expr <;> rfl
 have hx2:(Value.builtin "BaseException.__getattribute__" == Value.builtin "object.__getattribute__")=false:=by decide +kernel
 have hx1:(onTheHeap (Value.ref C) && Value.builtin "BaseException.__getattribute__" == Value.builtin "object.__getattribute__")=false:=by rw [hx2]; rfl
 have L1:=looks_findIn (M:=model prog w) X F.ga
 have L2':=looks_findIn (M:=model prog w) X F.gt
 have hx:=I.at_
 have hc:=I.cls
 repeat (any_goals (first | assumption | (with_reducible refine wpAny_loadPart_at hx ?_; rw [hc]) | with_reducible refine L1.at ?_ | with_reducible refine L2'.at ?_ | wp_step))
 refine exc_class_call X F I ?_
 repeat (any_goals (first | assumption | wp_step))
theorem exc_class_attr {Q:Option Value->Shared->Prop}(X:K.In h)(F:ExK K C)(I:ExAt h a o C)(hq:Q (some (.ref C)) ⟨h,g,d,t+1,os⟩) :
  wpAny (model prog w) A (getAttr? (.ref a) "__class__") Q E ⟨h,g,d,t,os⟩:=by
 unfold getAttr? getAttrBy?
 repeat (any_goals (first | assumption | with_reducible apply exc_class_by X F I | wp_step))
end
theorem kitx_exc {K:Frag}{a C:Addr}{o:Obj}(F:ExK K C):KitX K (.ref a) (.ref C) (fun h=>ExAt h a o C) where
 ty:=fun M h X I=>I.type
 it:=fun M h X I=>by
  have hcD:=F.ci
  unfold clsIn at hcD
  split at hcD
  ·rename_i c' d' cd' sl' ho
   intro A' Q' E' s' k q
   unfold isType loadHead
   exact wpAny_bind (wpAny_loadPart (k _ _ (X _ _ ho)) (wpAny_pure q))
  ·cases hcD
 ne:=fun h tp dd its n sl X htp=>by
  have hcD:=F.ci
  refine Bool.eq_false_iff.mpr fun q => ?_
  have e:C=tp:=Value.ref.inj (beq_iff_eq.mp q)
  subst e
  unfold clsIn at hcD
  split at hcD
  ·rename_i c' d' cd' sl' ho
   have:=X _ _ ho
   rw [htp] at this
   cases this
  ·cases hcD
 ca:=fun {prog w A E Q s} X I hq=>by
  obtain ⟨hh,g,d,t,os⟩:=s
  exact exc_class_attr X F I hq
def excO (a C:Addr):HO:=.ext fun h=>∃ o,ExAt h a o C
section
variable {X:Cx}
end
end L2
namespace L2
open PySem PySem.Spec PyProof.Rows PySem.W
theorem dict_mf (o:Obj)(f:Array Value->Array Value):(Obj.mapFields f o).dict=o.dict:=by
 unfold Obj.mapFields
 split <;> rfl
def TrD (h base:Heap)(e:Addr)(cls:Value)(dd:Option Addr)(fl:Value):Prop :=
 ∃ (ob tb:Obj) (us ts:Array Value) (T:Addr),(h.get? e=some ob/\ob.data = .fields us/\ob.cls=cls/\ob.dict=dd)/\us[1]?=some (.ref T)/\(base.get? T=none/\T ≠ e)/\h.get? T=some tb/\tb.data = .fields ts/\ts[3]?=some fl
structure FlyD (base:Heap)(l:List Env)(e:Addr)(cls:Value)(dd:Option Addr)(fl:Value)(h:Heap):Prop where
 st:base.StaysIn h
 no:base.get? e=none
 fr:h.FunFrames base l
 tr:TrD h base e cls dd fl
theorem FlyD.at {base h:Heap}{l:List Env}{e:Addr}{cls fl:Value}{dd:Option Addr}(x:FlyD base l e cls dd fl h) : ∃ ob us,h.get? e=some ob/\ob.cls=cls/\ob.dict=dd/\ob.data = .fields us:=by
 obtain ⟨ob,_,us,_,_,⟨a,b,c,d⟩,_⟩:=x.tr
 exact ⟨ob,us,a,c,d,b⟩
section
variable {M:Model}{A:Around}{E:Value->Shared->Prop}{s:Shared}{base:Heap}{env:Env}{outer:List Env}{L e:Addr}{Q:Unit->Shared->Prop}{cls:Value}{dd:Option Addr}
theorem entryD {ob:Obj}{us:Array Value}{head:Value}{had:Bool}(frs:A.frames=some (env :: outer))(ff:s.heap.FunFrames base (env :: outer))(fL:env.frame=some L)
  (ge:s.heap.get? e=some ob) (st:base.StaysIn s.heap) (no:base.get? e=none) (du:ob.data = .fields us) (sz:1 < us.size)
  (k : ∀ h',FlyD base (env :: outer) e ob.cls ob.dict (rawInt L) h'->s.heap.UpToSlots h'->Q () { s with heap:=h' }) :
  wpAny M A (do let fo <- frameOf env; let pl <- entryPlaceOf L had; let row <- EntryCells.newEntry head fo .none (rawInt L) .none pl; setField (.ref e) 1 row) Q E s:=by
 have eNot:e ∉ (env :: outer).filterMap (·.frame):=fun mem=>by
  obtain ⟨_,o',g',nf⟩:=ff.mem mem
  cases ge.symm.trans g'
  exact nf us du
 refine wpAny_bind (wpAny_frameOf_fun frs ff fL fun h1 only=>wpAny_bind (wpAny_entryPlaceOf fun pl plOk => ?_))
 unfold EntryCells.newEntry newFields
 refine wpAny_bind (wpAny_newObj_type ?_ (plOk.sizeOk5 _ _ _ _ _))
 have g1:h1.get? e=some ob:=(only.2.1 e eNot).trans ge
 have st1:base.StaysIn h1:=fun b o q=>(only.2.1 b fun mem=>by
  rw [(ff.mem mem).1] at q
  cases q).trans (st b o q)
 generalize hrow:({ cls:=.type "traceback",dict:=none,data:=.fields ([head,.ref L,.none,rawInt L,.none] ++ (if pl.isEmpty then List.replicate 6 Value.none else pl)).toArray }:Obj)=row
 have g2:(h1.push row).get? e=some ob:=Heap.get?_push_of_some row g1
 have Tne:h1.objs.size ≠ e:=Nat.ne_of_gt (Heap.lt_size g1)
 have du':=Obj.data_mapFields du (·.setIfInBounds 1 (Value.ref h1.objs.size))
 have gT:(h1.push row).get? h1.objs.size=some row:=Heap.get?_push_size h1 (by rw [<- hrow]; rfl)
 have old : ∀ b o,b ≠ e->h1.get? b=some o->((h1.push row).update e (Obj.mapFields (·.setIfInBounds 1 (Value.ref h1.objs.size)))).get? b=some o:=fun b o nb q=>by
  rw [Heap.get?_update_other _ _ (Ne.symm nb)]
  exact Heap.get?_push_of_some row q
 have nofld : ∀ b o,s.heap.get? b=some o->(∀ vs,o.data ≠ .fields vs)->b ≠ e:=fun b o q nf z=>by
  subst z
  cases ge.symm.trans q
  exact nf us du
 refine wpAny_setField g2 du sz (k _ ⟨fun b o q=>old b o ?_ (st1 b o q),no,ff.of_keeps fun b o q nf => ?_,?_⟩ fun b o q nf => ?_)
 ·rintro rfl
  rw [no] at q
  cases q
 ·obtain ⟨sl,z⟩:=only.2.2 b o q
  exact ⟨_,old b _ (nofld b o q nf) z,rfl⟩
 ·refine ⟨_,row,_,([head,.ref L,.none,rawInt L,.none] ++ (if pl.isEmpty then List.replicate 6 Value.none else pl)).toArray,h1.objs.size,⟨Heap.get?_update_self _ g2 (Obj.isFreed_of_fields du'),du',Obj.cls_mapFields _ _,dict_mf _ _⟩,by simp [sz],⟨?_,Tne⟩,?_,by rw [<- hrow],by simp⟩
  ·cases z:base.get? h1.objs.size with
   | none=>rfl
   | some o=>exact absurd (Heap.lt_size (st1 _ _ z)) (Nat.lt_irrefl _)
  ·rw [Heap.get?_update_other _ _ (Ne.symm Tne)]
   exact gT
 ·obtain ⟨sl,z⟩:=only.2.2 b o q
  exact ⟨sl,old b _ (nofld b o q nf) z⟩
theorem flightD {l:List Env}{fl:Value}(F:FlyD base l e cls dd fl s.heap)(k : ∀ h',FlyD base l e cls dd .none h'->s.heap.UpToSlots h'->Q () { s with heap:=h' }):wpAny M A (setFlight (.ref e) none) Q E s:=by
 obtain ⟨st,no,ff,ob,tb,us,ts,T,⟨ge,du,cc,cd⟩,u1,⟨nT,Tne⟩,gT,dt,t3⟩:=F
 unfold setFlight
 refine wpAny_bind (wpAny_field ge du u1 ?_)
 rw [if_pos (show (Value.ref T != Value.none)=true from rfl)]
 have z3:3 < ts.size:=(Array.getElem?_eq_some_iff.mp t3).1
 have dt':=Obj.data_mapFields dt (·.setIfInBounds 3 ((none:Option Addr).elim Value.none fun f=>rawInt f))
 have old : ∀ b,b ≠ T->(s.heap.update T (Obj.mapFields (·.setIfInBounds 3 ((none:Option Addr).elim Value.none fun f=>rawInt f)))).get? b=s.heap.get? b:=fun b nb=>Heap.get?_update_other _ _ (Ne.symm nb)
 have nofld : ∀ b o,s.heap.get? b=some o->(∀ vs,o.data ≠ .fields vs)->b ≠ T:=fun b o q nf z=>by
  subst z
  cases gT.symm.trans q
  exact nf ts dt
 refine wpAny_setField gT dt z3 (k _ ⟨fun b o q => ?_,no,ff.of_keeps fun b o q nf=>⟨o,(old b (nofld b o q nf)).trans q,rfl⟩,?_⟩ fun b o q nf=>⟨o.slots,(old b (nofld b o q nf)).trans q⟩)
 ·refine (old b ?_).trans (st b o q)
  rintro rfl
  rw [nT] at q
  cases q
 ·exact ⟨ob,_,us,_,T,⟨(old e (Ne.symm Tne)).trans ge,du,cc,cd⟩,u1,⟨nT,Tne⟩,Heap.get?_update_self _ gT (Obj.isFreed_of_fields dt'),dt',by simp [z3]⟩
theorem note1D {ob:Obj}{us:Array Value}(frs:A.frames=some (env :: outer))(ff:s.heap.FunFrames base (env :: outer))(fL:env.frame=some L)
  (ge:s.heap.get? e=some ob) (st:base.StaysIn s.heap) (no:base.get? e=none) (du:ob.data = .fields us) (u1:us[1]?=some .none)
  (k : ∀ h',FlyD base (env :: outer) e ob.cls ob.dict (rawInt L) h'->s.heap.UpToSlots h'->Q () { s with heap:=h' }):wpAny M A (noteFrame (.ref e) env) Q E s:=by
 unfold noteFrame
 simp only [fL]
 refine wpAny_bind (wpAny_field ge du u1 ?_)
 rw [if_neg (by decide)]
 exact entryD frs ff fL ge st no du (Array.getElem?_eq_some_iff.mp u1).1 k
theorem noteD (frs:A.frames=some (env :: outer))(fL:env.frame=some L)(F:FlyD base (env :: outer) e cls dd .none s.heap)
  (k : ∀ h',FlyD base (env :: outer) e cls dd (rawInt L) h'->s.heap.UpToSlots h'->Q () { s with heap:=h' }):wpAny M A (noteFrame (.ref e) env) Q E s:=by
 obtain ⟨st,no,ff,ob,tb,us,ts,T,⟨ge,du,cc,cd⟩,u1,⟨nT,Tne⟩,gT,dt,t3⟩:=F
 subst cc cd
 unfold noteFrame
 simp only [fL]
 refine wpAny_bind (wpAny_field ge du u1 ?_)
 rw [if_pos (show (Value.ref T != Value.none)=true from rfl)]
 refine wpAny_bind (wpAny_field gT dt t3 ?_)
 rw [if_neg (show ¬ ((Value.none == rawInt L)=true) from by simp [rawInt])]
 have z3:3 < ts.size:=(Array.getElem?_eq_some_iff.mp t3).1
 have old : ∀ b,b ≠ T->(s.heap.update T (Obj.mapFields (·.setIfInBounds 3 Value.none))).get? b=s.heap.get? b:=fun b nb=>Heap.get?_update_other _ _ (Ne.symm nb)
 have nofld : ∀ b o,s.heap.get? b=some o->(∀ vs,o.data ≠ .fields vs)->b ≠ T:=fun b o q nf z=>by
  subst z
  cases gT.symm.trans q
  exact nf ts dt
 refine wpAny_bind (wpAny_setField gT dt z3 ?_)
 refine entryD frs (ff.of_keeps fun b o q nf=>⟨o,(old b (nofld b o q nf)).trans q,rfl⟩) fL ((old e (Ne.symm Tne)).trans ge) (fun b o q => ?_) no du (Array.getElem?_eq_some_iff.mp u1).1 fun h' F' up=>k h' F' fun b o q nf=>up b o ((old b (nofld b o q nf)).trans q) nf
 refine (old b ?_).trans (st b o q)
 rintro rfl
 rw [nT] at q
 cases q
theorem FlyD.tail {h:Heap}{fl:Value}(F:FlyD base (env :: outer) e cls dd fl h):FlyD base outer e cls dd fl h:=⟨F.st,F.no,F.fr.2.2,F.tr⟩
theorem leave1D {ob:Obj}{us:Array Value}(frs:A.frames=some (env :: outer))(ff:s.heap.FunFrames base (env :: outer))(fL:env.frame=some L)
  (ge:s.heap.get? e=some ob) (st:base.StaysIn s.heap) (no:base.get? e=none) (du:ob.data = .fields us) (u1:us[1]?=some .none)
  (k : ∀ h',FlyD base outer e ob.cls ob.dict .none h'->s.heap.UpToSlots h'->Q () { s with heap:=h' }):wpAny M A (leaving env (.ref e)) Q E s:=by
 unfold leaving
 exact wpAny_bind (note1D frs ff fL ge st no du u1 fun h' F' up=>flightD F' fun h'' F'' up'=>k h'' F''.tail (up.trans up'))
end
end L2
namespace L2
open PySem PySem.Spec PyProof.Rows PySem.W
structure Flx (P:Program)(w:World)(outer:List Env)(H:Hp)(s:Shared)(H':Hp)(ea:Addr)(cls:Value)(dd:Option Addr)(s':Shared):Prop where
 os:s'.os=s.os
 bare:AllBare s'.gens
 un:Un (frs outer) [] H H' s.heap s'.heap
 fl : ∃ B:Heap,HOk P w H' B/\FlyD B outer ea cls dd .none s'.heap/\(∀ b o,s.heap.get? b=some o->H b=none->b ∉ frs outer->B.get? b=some o)/\(∀ b o,s.heap.get? b=some o->b ∉ frs outer->∃ o',B.get? b=some o')
def CXg (P:Program)(w:World):CXT:=fun outer H s E e s'=>∃ (ea C:Addr) (dd:Option Addr) (H':Hp),e = .ref ea/\Flx P w outer H s H' ea (.ref C) dd s'/\E (.ref C) dd H'
structure OwnF (X:Cx):Prop where
 stk:X.stack=X.env :: X.outer
 fr:X.env.frame=some X.env.locals
 ex:X.ex=[]
section
variable {X:Cx}{pins:List (Addr × Obj)}{σ:St}{H H':Hp}{s s':Shared}
theorem notStk (O:OwnF X)(I:Inv X pins σ H s){b:Addr}{o:Obj}(e:X.s₀.heap.get? b=some o)(hb:b ∉ frs X.outer):b ∉ frs X.stack:=by
 rw [O.stk]
 intro z
 unfold frs at z hb
 rw [List.filterMap_cons,O.fr] at z
 rcases List.mem_cons.mp z with z | z
 ·exact absurd (Nat.lt_of_lt_of_le (Heap.lt_size e) I.ok.above) (by rw [z]; exact Nat.lt_irrefl _)
 ·exact hb z
theorem inStk (O:OwnF X){b:Addr}(hb:b ∈ frs X.outer):b ∈ frs X.stack:=by
 rw [O.stk]
 unfold frs at *
 rw [List.filterMap_cons,O.fr]
 exact List.mem_cons_of_mem _ hb
theorem un_of (O:OwnF X)(I:Inv X pins σ H s){B h':Heap}(u:Un (frs X.stack) [] H H' s.heap s'.heap)(bk : ∀ b o,X.s₀.heap.get? b=some o->X.H₀ b=none->b ∉ frs X.outer->B.get? b=some o)
  (th : ∀ b o,X.s₀.heap.get? b=some o->b ∉ frs X.outer->∃ o',B.get? b=some o') (st:B.StaysIn h') (up:s'.heap.UpToSlots h'):Un (frs X.outer) [] X.H₀ H' X.s₀.heap h':=by
 have noex : ∀ b:Addr,b ∉ X.ex:=fun b z=>by rw [O.ex] at z; cases z
 have slot : ∀ b o,X.s₀.heap.get? b=some o->X.H₀ b=none->b ∈ frs X.outer->∃ sl,h'.get? b=some { o with slots:=sl }:=fun b o e n hb=>by
  obtain ⟨sl,e1⟩:=I.base.slot b o e n hb (noex b)
  have n1:=I.base.free b o e n (noex b)
  obtain ⟨sl2,e2⟩:=u.slot b _ e1 n1 (inStk O hb) (by simp)
  obtain ⟨_,o',ho',hnf⟩:=I.ok.funs.mem hb
  rw [e] at ho'
  cases ho'
  obtain ⟨sl3,e3⟩:=up b _ e2 (fun vs q=>hnf vs q)
  exact ⟨sl3,e3⟩
 refine ⟨fun b o e n hb _=>st b o (bk b o e n hb),fun b o e n hb _=>slot b o e n hb,fun b o e n _ => ?_,fun b o e _ => ?_,fun b xs e=>u.tups _ _ (I.base.tups _ _ e),fun b o x e=>u.frzs _ _ _ (I.base.frzs _ _ _ e),fun b ps e => ?_⟩
 ·obtain ⟨o1,e1⟩:=I.base.there b o e (noex b)
  exact u.free b o1 e1 (I.base.free b o e n (noex b)) (by simp)
 ·by_cases hb:b ∈ frs X.outer
  ·obtain ⟨sl,q⟩:=slot b o e (I.ok.frf b hb) hb
   exact ⟨_,q⟩
  ·obtain ⟨o2,e2⟩:=th b o e hb
   exact ⟨o2,st b o2 e2⟩
 ·obtain ⟨m1,e1⟩:=I.base.tbls b ps e
  obtain ⟨m2,e2⟩:=u.tbls _ _ e1
  exact ⟨m1 ++ m2,by rw [e2,Array.append_assoc]⟩
theorem fly_B (I:Inv X pins σ H s){ea:Addr}(hea:H ea=none):HOk X.prog X.w H (hideAll s.heap (ea :: frs X.stack)):=fun a o e=>(I.hok a o e).stay (fun b u hb q=>hideAll_get _ q fun z=>by
 have n:H b=none:=by
  rcases List.mem_cons.mp z with z | z
  ·rw [z]; exact hea
  ·exact I.stkFree b z
 rcases hb with hb | hb
 ·rw [<- hb] at e; rw [e] at n; cases n
 ·rw [hb] at n; cases n) (fun _ h=>h) (fun _ _ h=>h)
theorem fly_raise (O:OwnF X)(I:Inv X pins σ H s){ea C:Addr}{dd:Option Addr}{ob:Obj}{us:Array Value}{E':Value->Shared->Prop}{Q:Unit->Shared->Prop}(hea:H ea=none)(n0:X.s₀.heap.get? ea=none)(ge:s.heap.get? ea=some ob)
  (hc:ob.cls = .ref C) (hdd:ob.dict=dd) (du:ob.data = .fields us) (u1:us[1]?=some .none)
  (k : ∀ h',Flx X.prog X.w X.outer X.H₀ X.s₀ H ea (.ref C) dd { s with heap:=h' }->Q () { s with heap:=h' }):wpAny (model X.prog X.w) X.A (leaving X.env (.ref ea)) Q E' s:=by
 have nfr:ea ∉ frs X.stack:=fun z=>by
  obtain ⟨_,o',ho',hnf⟩:=I.stack.mem z
  rw [ge] at ho'
  cases ho'
  exact hnf us du
 have hin : ∀ env ∈ X.stack,∀ b,env.frame=some b->b ∈ ea :: frs X.stack:=fun env he b hb=>List.mem_cons_of_mem _ (List.mem_filterMap.mpr ⟨env,he,hb⟩)
 have hfr:X.A.frames=some (X.env :: X.outer):=by rw [<- O.stk]; exact I.ok.frames
 have hl:s.heap.FunFrames (hideAll s.heap (ea :: frs X.stack)) (X.env :: X.outer):=by rw [<- O.stk]; exact funFrames_hide I.stack hin
 have nB:(hideAll s.heap (ea :: frs X.stack)).get? ea=none:=hideAll_none _ (List.mem_cons_self ..)
 have bk : ∀ b o,X.s₀.heap.get? b=some o->X.H₀ b=none->b ∉ frs X.outer->(hideAll s.heap (ea :: frs X.stack)).get? b=some o:=fun b o e n hb=>by
  refine hideAll_get _ (I.base.keep b o e n hb (by rw [O.ex]; simp)) fun z => ?_
  rcases List.mem_cons.mp z with z | z
  ·rw [z,n0] at e; cases e
  ·exact notStk O I e hb z
 have th : ∀ b o,X.s₀.heap.get? b=some o->b ∉ frs X.outer->∃ o',(hideAll s.heap (ea :: frs X.stack)).get? b=some o':=fun b o e hb=>by
  obtain ⟨o1,e1⟩:=I.base.there b o e (by rw [O.ex]; simp)
  refine ⟨o1,hideAll_get _ e1 fun z => ?_⟩
  rcases List.mem_cons.mp z with z | z
  ·rw [z,n0] at e; cases e
  ·exact notStk O I e hb z
 refine leave1D (base:=hideAll s.heap (ea :: frs X.stack)) hfr hl O.fr ge (fun b o q=>of_hideAll _ q) nB du u1 fun h' F' up=>k h' ⟨I.os,I.bare,?_,hideAll s.heap (ea :: frs X.stack),fly_B I hea,by rw [<- hc,<- hdd]; exact F',bk,th⟩
 exact un_of (s':=s) O I Un.refl bk th F'.st up
end
abbrev cxF (P:Program)(w:World)(K:Frag)(mg:Str->Option Value)(base:Heap)(N:List Str)(qual:Str)(scope:Scope)(f:Addr)(cd:Value)(A:Around)(outer:List Env)(s:Shared)(H:Hp)(E:XK):Cx:=cxOf (CXg P w) P w K mg base N qual scope f cd A outer s H E
section
variable {P:Program}{w:World}{K:Frag}{mg:Str->Option Value}{base:Heap}{N:List Str}{qual:Str}{scope:Scope}{f:Addr}{cd:Value}{A:Around}{outer:List Env}{s:Shared}{H:Hp}{E:XK}
theorem ownF_of:OwnF (cxF P w K mg base N qual scope f cd A outer s H E):=⟨rfl,rfl,rfl⟩
def XeOk (X:Cx)(E:XK):Prop:=∀ (pins:List (Addr × Obj)) (σ:St) (H:Hp) (s:Shared) (ea C:Addr) (ob:Obj) (us:Array Value),Inv X pins σ H s->H ea=none->X.s₀.heap.get? ea=none->s.heap.get? ea=some ob->ob.cls = .ref C->ob.data = .fields us->us[1]?=some .none->E (.ref C) ob.dict H->X.xe (.ref ea) s
theorem xe_f:XeOk (cxF P w K mg base N qual scope f cd A outer s H E) E:=by
 intro pins σ Hc sc ea C ob us I hea n0 ge hc du u1 hE
 exact fly_raise (X:=cxF P w K mg base N qual scope f cd A outer s H E) ownF_of I hea n0 ge hc rfl du u1 fun h'' F'=>⟨ea,C,ob.dict,Hc,rfl,F',hE⟩
theorem Fun.okF {x:Str}{st:Stmt}{fd:FuncData}{ps:List Str}{k:Nat}{sp:Sp}(F:Fun K x qual st f fd)(S:FnScope N ps (defScope st))(len : ∀ vs H Q E,sp vs H Q E->vs.length=ps.length)
  (hbody : ∀ (cdv:Value) (A:Around) (outer:List Env) (s:Shared) (H:Hp) (vs:List V) (Q:VK) (E:XK),Room k (A.deeper (envOfC qual (defScope st) s.heap.objs.size f cdv))->sp vs H Q E ->
   ∃ t,PSs (cxF P w K mg base N qual (defScope st) f cdv A outer s H E) (defBody st) t/\t { nx:=fun _ H'=>Q .non H',rt:=Q } (start N vs) H):FnOk P w K mg base (CXg P w) (k+1) f fd ps sp:=by
 obtain ⟨oc,od,kV,doc,pm,an,cdv,ct,osl,rfl,lk,hcd⟩:=F.ex
 exact fn_of lk hcd S len fun A outer s H vs Q E hr hsp=>hbody cdv A outer s H vs Q E hr hsp
end
end L2
namespace L2
open PySem PySem.Spec PyProof.Rows PySem.W
structure CtK (K:Frag)(D:Addr):Prop where
 ty:typeIn K (.ref D)=some (.type "type")
 ci:(clsIn K D).isSome=true
 sb:subIn K (.ref D) (.type "BaseException")=some true
theorem exc_matches {M:Model}{A:Around}{E:Value->Shared->Prop}{h:Heap}{g:Array GenState}{d:Drawn}{t:Nat}{os:OsState}{e C D:Addr}{o:Obj}{K:Frag}{Q:Bool->Shared->Prop}(X:K.In h)(I:ExAt h e o C)(F:CtK K D)(hs:subIn K (.ref C) (.ref D)=some true)
  (hq:Q true ⟨h,g,d,t,os⟩):wpAny M A (excMatches (.ref e) (.ref D)) Q E ⟨h,g,d,t,os⟩:=by
 have L1:=looks_typeIn (M:=M) X F.ty
 have L2':Looks M h (isType (.ref D)) true:=by
  have hcD:=F.ci
  unfold clsIn at hcD
  split at hcD
  ·rename_i c' d' cd' sl' ho
   intro A' Q' E' s' k q
   unfold isType loadHead
   exact wpAny_bind (wpAny_loadPart (k _ _ (X _ _ ho)) (wpAny_pure q))
  ·cases hcD
 have L3:=looks_subIn (M:=M) X F.sb
 have L4:=looks_subIn (M:=M) X hs
 have L5:=I.type (M:=M)
 have f:=tc_notTuple
 unfold excMatches isInstance
 repeat (first | with_reducible refine L1.at ?_ | with_reducible refine L2'.at ?_ | with_reducible refine L3.at ?_ | with_reducible refine L4.at ?_ | with_reducible refine L5.at ?_ | wp_step)
 exact hq
abbrev bmV:List Value:=[.type "ValueError",.type "Exception",.type "BaseException",.type "object"]
structure ClsObj (h:Heap)(C:Addr)(bmB:List Value)(newId:String):Prop where
 ex : ∃ (nm q:Str) (N:Addr) (bs bm:List Value) (hdct:Bool) (sn:List Str) (sub:List Value) (ab:Bool) (col:Option Bool) (dd:Option Addr) (k0 k1 k2 k3 k5:Option Value) (mN:Str->Option Value),
  h.get? C=some (excClassObj nm q C N bs bm hdct sn sub ab col dd k0 k1 k2 k3 k5 newId)/\h.Ns N mN/\mN "__init__" = none/\OwnTail h bmB bm
theorem clsObj_of {K:Frag}{h:Heap}{C:Addr}{bmB:List Value}{newId:String}(X:K.In h)(q:excIn K C bmB newId=true):ClsObj h C bmB newId:=by
 unfold excIn at q
 split at q
 case h_2=>cases q
 case h_1 dd cd sl ho =>
  split at q
  case h_2=>cases q
  case h_1 C' bm k0 k1 k2 k3 n k5 hm hs =>
   simp only [Bool.and_eq_true,beq_iff_eq,Bool.not_eq_true'] at q
   obtain ⟨⟨⟨⟨⟨e1,e2⟩,hdel⟩,ht⟩,hok⟩,hni⟩:=q
   cases e1
   cases e2
   obtain ⟨nm,bs,mro,ns,qn,hd,sn,sub,ab,col,del⟩:=cd
   obtain ⟨sl⟩:=sl
   dsimp only at hm hdel hok hni hs
   subst hm hdel hs
   exact ⟨nm,qn,ns,bs,bm,hd,sn,sub,ab,col,dd,k0,k1,k2,k3,k5,_,X _ _ ho,.of_isNs (isNs_of_in X hok),nsMap_none_of_in X hok hni,tail_of_in X ht⟩
theorem objThere {P:Program}{w:World}{H:Hp}{h:Heap}{a:Addr}{o:HO}(x:ObjOk P w H h a o) : ∃ ob,h.get? a=some ob:=by
 cases o with
 | lst xs=>obtain ⟨_,_,_,_,e⟩:=x; exact ⟨_,e⟩
 | tup xs=>obtain ⟨_,_,_,ob,e,_⟩:=x; exact ⟨_,e⟩
 | dK kvs=>obtain ⟨_,_,_,_,ob,_,_,e,_⟩:=x; exact ⟨_,e⟩
 | dT kvs=>obtain ⟨_,_,_,_,ob,_,_,e,_⟩:=x; exact ⟨_,e⟩
 | set S n=>obtain ⟨ob,_,_,_,e,_⟩:=x; exact ⟨_,e⟩
 | ins C dx fs=>obtain ⟨_,_,_,e,_⟩:=x; exact ⟨_,e⟩
 | own y=>obtain ⟨_,e⟩:=x; exact ⟨_,e⟩
 | xd fs=>obtain ⟨_,⟨_,_,_,e,_⟩,_⟩:=x; exact ⟨_,e⟩
 | rng lo hi=>obtain ⟨_,_,_,e⟩:=x; exact ⟨_,e⟩
 | frz ob u=>obtain ⟨e,_⟩:=x; exact ⟨_,e⟩
 | tbl ps=>exact ⟨_,(show h.get? a=some _ from x)⟩
 | met f y=>exact ⟨_,(show h.get? a=some _ from x)⟩
 | ext φ=>obtain ⟨_,⟨_,e⟩,_⟩:=x; exact ⟨_,e⟩
def excD (a C:Addr)(dd:Option Addr):HO:=.ext fun h=>∃ o,ExAt h a o C/\o.dict=dd/\∃ us,o.data = .fields us
theorem Inv.absent {X:Cx}{pins:List (Addr × Obj)}{σ:St}{H:Hp}{s:Shared}(I:Inv X pins σ H s){e:Addr}(n:s.heap.get? e=none):H e=none:=by
 cases q:H e with
 | none=>rfl
 | some o =>
  obtain ⟨ob,z⟩:=objThere (I.hok e o q)
  rw [n] at z
  cases z
theorem Inv.absent0 {X:Cx}{pins:List (Addr × Obj)}{σ:St}{H:Hp}{s:Shared}(I:Inv X pins σ H s){e:Addr}(hex:X.ex=[])(n:s.heap.get? e=none):X.s₀.heap.get? e=none:=by
 cases q:X.s₀.heap.get? e with
 | none=>rfl
 | some o =>
  obtain ⟨ob,z⟩:=I.base.there e o q (by rw [hex]; simp)
  rw [n] at z
  cases z
def tRaise (C:Addr)(E:XK)(t:TA):TS:=fun _ σ H=>t σ H fun vs H1=>vs.length<=sizeLine/\E (.ref C) none H1
section
variable {X:Cx}
theorem ps_raise {x:Str}{C:Addr}{e₀:Expr}{es:List Expr}{t:TA}{E:XK}{np cpos pos:Pos}(hex:X.ex=[])(hX:XeOk X E)(hc:X.calm=true)(hg:Gl X x)(hm:X.mg x=some (.ref C))(hei:excIn X.K C bmV "ValueError.__new__" = true)(ha:PA X (e₀ :: es) t)
  (hdb:(x == ("__debug__" : Str))=false:=by decide) (he:starEach (e₀ :: es) X.env=(false,eval e₀ X.env) :: starEach es X.env:=by rfl) (hplain:(backTo cpos (starEach es X.env)).any (·.1)=false:=by rfl) :
  PS X (.Raise (some (.Call (.Name x np) (e₀ :: es) [] cpos)) none pos) (tRaise C E t):=by
 intro pins s σ H D I h
 obtain ⟨nm,q,N,bs,bm,hdct,sn,sub,ab,col,dd,k0,k1,k2,k3,k5,mN,hC,hN,hni,T⟩:=(clsObj_of I.ok.mod.kin hei).ex
 have FB:=PySem.F.excBase_ValueError
 refine wpAny_Raise_call_subU (C:=C) (nm:=nm) (q:=q) (N:=N) (bs:=bs) (bm:=bm) (hdct:=hdct) (sn:=sn) (sub:=sub) (ab:=ab) (col:=col) (dd:=dd) (k0:=k0) (k1:=k1) (k2:=k2) (k3:=k3) (k5:=k5) FB FB.hasB FB (mN:=mN)
  (T.hasType FB.hasBase) (I.ok.hd hc) (by rw [he]; show (false || (backTo cpos (starEach es X.env)).any (·.1))=false; rw [hplain]; rfl) hni (ld_glob I hg hm ⟨rfl,?_⟩ hdb)
 have z:=ha cpos pins s σ H _ I h
 rw [he] at z ⊢
 refine Calls.evalArgs_plain (thn z fun us s1 ⟨vs,H1,I1,r1,hl,q1⟩=>⟨rfl,?_,I1.bk _ _ hC,hN.keeps I1.bk,T.keeps I1.bk,fun h' e hmade => ?_⟩)
 ·show us.length<=sizeLine
  rw [<- r1.length]
  exact hl
 ·obtain ⟨t',ge,_,_⟩:=hmade.there
  have hn:H1 e=none:=I1.absent hmade.new
  have n0:X.s₀.heap.get? e=none:=I1.absent0 hex hmade.new
  exact hX pins σ H1 { s1 with heap:=h' } e C _ _ (I1.kept (t':=s1.toks) hmade.keeps) hn n0 ge rfl rfl rfl q1
theorem call_isiY:CallR X (.builtin "isinstance") (fun xs H Q=>∃ a C dd c v b,xs=[.ref a,v]/\H a=some (excD a C dd)/\ExK X.K C/\RelV v c/\kitOne X.K (.ref C) c=some b/\Q (.bl b) H):=by
 intro pins s σ H xs us Q I r h
 obtain ⟨a,C,dd,c,v,b,rfl,hH,F,rc,hk,q⟩:=h
 obtain ⟨u,w',rfl,rx,ry⟩:=vals2 r
 cases rx
 obtain ⟨⟨o,hi,_⟩,_⟩:=I.hok a _ hH
 have e:w'=c:=by
  have:=ry
  cases v with
  | ref z=>cases ry; cases rc; rfl
  | ty z=>cases ry; cases rc; rfl
  | non=>cases ry; cases rc; rfl
  | bl z=>cases ry; cases rc; rfl
  | int z=>obtain ⟨_,rfl⟩:=rc; simp [kitOne,kitCls] at hk
  | str z=>obtain ⟨_,rfl⟩:=rc; simp [kitOne,kitCls] at hk
  | byt z=>obtain ⟨_,rfl⟩:=rc; simp [kitOne,kitCls] at hk
  | flt z=>obtain ⟨_,rfl⟩:=rc; simp [kitOne,kitCls] at hk
 subst e
 exact kia_one (kitx_exc F) I.kIn hi hk (by intro z; cases z) fun tk=>⟨.bl b,H,I.tok _,rfl,q⟩
end
abbrev Cx.within (X:Cx)(v:Value):Cx:={ X with A:=X.A.mark (some v),calm:=false,xe:=fun _ _=>False }
abbrev Cx.trying (X:Cx)(pins:List (Addr × Obj))(E:Value->Shared->Prop):Cx:={ X with pn:=X.pn ++ pins,xe:=E }
section
variable {X:Cx}{pins:List (Addr × Obj)}{σ:St}{H H':Hp}{s s':Shared}
theorem Inv.within (I:Inv X pins σ H s)(v:Value):Inv (X.within v) pins σ H s :=
 ⟨⟨I.ok.mod,I.ok.kind,I.ok.glob,I.ok.blt,I.ok.above,I.ok.inj,I.ok.has,I.ok.cab,(fun h=>(by cases h)),I.ok.frames,I.ok.stk,I.ok.exf,I.ok.bs,I.ok.bsz,I.ok.noex,I.ok.exfs,I.ok.funs,I.ok.frf⟩,I.os,I.bare,I.base,I.loc,I.cell,I.free,I.freeC,I.pin,I.hok,I.len⟩
theorem Inv.without {v:Value}(ok:X.Ok)(I:Inv (X.within v) pins σ H s):Inv X pins σ H s:=⟨ok,I.os,I.bare,I.base,I.loc,I.cell,I.free,I.freeC,I.pin,I.hok,I.len⟩
theorem Inv.trying (I:Inv X pins σ H s)(E:Value->Shared->Prop):Inv (X.trying pins E) [] σ H s :=
 ⟨⟨I.ok.mod,I.ok.kind,I.ok.glob,I.ok.blt,I.ok.above,I.ok.inj,I.ok.has,I.ok.cab,I.ok.hd,I.ok.frames,I.ok.stk,I.ok.exf,I.ok.bs,I.ok.bsz,I.ok.noex,I.ok.exfs,I.ok.funs,I.ok.frf⟩,I.os,I.bare,I.base,I.loc,I.cell,I.free,I.freeC,fun p hp=>I.pin p (by rwa [List.append_nil] at hp),I.hok,I.len⟩
theorem Inv.tried {E:Value->Shared->Prop}{pl:List (Addr × Obj)}(I:Inv (X.trying pins E) pl σ H s):Inv X pins σ H s :=
 ⟨⟨I.ok.mod,I.ok.kind,I.ok.glob,I.ok.blt,I.ok.above,I.ok.inj,I.ok.has,I.ok.cab,I.ok.hd,I.ok.frames,I.ok.stk,I.ok.exf,I.ok.bs,I.ok.bsz,I.ok.noex,I.ok.exfs,I.ok.funs,I.ok.frf⟩,I.os,I.bare,I.base,I.loc,I.cell,I.free,I.freeC,fun p hp=>I.pin p (List.mem_append_left _ hp),I.hok,I.len⟩
theorem SP.tried {E:Value->Shared->Prop}{D:Ends}{f:Flow}(h:SP (X.trying pins E) [] D f s):SP X pins D f s:=by
 cases f with
 | next=>obtain ⟨σ',H',I,q⟩:=h; exact ⟨σ',H',I.tried,q⟩
 | brk=>obtain ⟨σ',H',I,q⟩:=h; exact ⟨σ',H',I.tried,q⟩
 | cont=>obtain ⟨σ',H',I,q⟩:=h; exact ⟨σ',H',I.tried,q⟩
 | ret u=>obtain ⟨v,σ',H',I,r,q⟩:=h; exact ⟨v,σ',H',I.tried,r,q⟩
theorem Inv.track (I:Inv X pins σ H s){a:Addr}{u:HO}(hn:H a=none)(h0:X.s₀.heap.get? a=none)(hL:a ≠ X.env.locals)(hc : ∀ x c,X.env.cells.lookup x=some c->c ≠ a)(hp : ∀ p ∈ X.pn ++ pins,p.1 ≠ a)
  (ok:ObjOk X.prog X.w (upd H a u) s.heap a u):Inv X pins σ (upd H a u) s:=by
 have old : ∀ b o,X.s₀.heap.get? b=some o->b ≠ a:=fun b o e z=>by rw [z,h0] at e; cases e
 have trk : ∀ b o,H b=some o->b ≠ a:=fun b o e=>ne_of_none e hn
 refine ⟨I.ok,I.os,I.bare,⟨I.base.keep,I.base.slot,fun b o e n hx => ?_,I.base.there,fun b xs e => ?_,fun b o x e => ?_,fun b ps e => ?_⟩,I.loc,I.cell,?_,fun x c e => ?_,fun p q => ?_,fun b o e => ?_,I.len⟩
 ·rw [upd_ne (old b o e)]
  exact I.base.free b o e n hx
 ·have z:=I.base.tups b xs e
  rw [upd_ne (trk _ _ z)]
  exact z
 ·have z:=I.base.frzs b o x e
  rw [upd_ne (trk _ _ z)]
  exact z
 ·obtain ⟨m,z⟩:=I.base.tbls b ps e
  exact ⟨m,by rw [upd_ne (trk _ _ z)]; exact z⟩
 ·rw [upd_ne (Ne.symm hL)]
  exact I.free
 ·rw [upd_ne (hc x c e)]
  exact I.freeC x c e
 ·obtain ⟨a1,a2,a3⟩:=I.pin p q
  exact ⟨a1,by rw [upd_ne (hp p q)]; exact a2,a3⟩
 ·by_cases hb:b=a
  ·subst hb
   rw [upd_same] at e
   cases e
   exact ok
  ·rw [upd_ne hb] at e
   exact (I.hok b o e).stay (fun _ _ _ q=>q) (fun c q=>by rw [upd_ne (trk _ _ q)]; exact q) (fun c xs q=>by rw [upd_ne (trk _ _ q)]; exact q)
theorem un_here (I:Inv X pins σ H s){B h':Heap}(u:Un (frs X.stack) [] H H' s.heap s'.heap)(bk : ∀ b o,s.heap.get? b=some o->H b=none->b ∉ frs X.stack->B.get? b=some o)
  (th : ∀ b o,s.heap.get? b=some o->b ∉ frs X.stack->∃ o',B.get? b=some o') (st:B.StaysIn h') (up:s'.heap.UpToSlots h'):Un (frs X.stack) [] H H' s.heap h':=by
 have slot : ∀ b o,s.heap.get? b=some o->H b=none->b ∈ frs X.stack->∃ sl,h'.get? b=some { o with slots:=sl }:=fun b o e n hb=>by
  obtain ⟨sl,e1⟩:=u.slot b o e n hb (by simp)
  obtain ⟨_,o',ho',hnf⟩:=I.stack.mem hb
  rw [e] at ho'
  cases ho'
  obtain ⟨sl3,e3⟩:=up b _ e1 (fun vs q=>hnf vs q)
  exact ⟨sl3,e3⟩
 refine ⟨fun b o e n hb _=>st b o (bk b o e n hb),fun b o e n hb _=>slot b o e n hb,u.free,fun b o e _ => ?_,u.tups,u.frzs,u.tbls⟩
 by_cases hb:b ∈ frs X.stack
 ·obtain ⟨sl,q⟩:=slot b o e (I.stkFree b hb) hb
  exact ⟨_,q⟩
 ·obtain ⟨o2,e2⟩:=th b o e hb
  exact ⟨o2,st b o2 e2⟩
theorem name_gone {M:Model}{A:Around}{E:Value->Shared->Prop}{i:Nat}{n:Str}{pos:Pos}{Q:Unit->Shared->Prop}(I:Inv X pins σ H s)(hN:X.N.Nodup)(hi:X.N[i]?=some n)(hk:X.env.scope.names.lookup n=some .local)
  (h : ∀ s',Inv X pins (σ.set i none) H s'->Q () s'):wpAny M A (do bindName X.env n .none; unbindBehindTheSuite X.env n pos) Q E s:=by
 obtain ⟨m,hn,hl⟩:=id I.loc
 have hcls:(X.env.scope.kind == .class || (X.env.scope.kind == .module && X.env.locals != X.env.globals))=false:=by rw [I.ok.kind]; rfl
 have hiσ:i < σ.length:=by rw [I.len]; exact (List.getElem?_eq_some_iff.mp hi).1
 refine wpAny_nameGoes_keeps hk hn hcls fun h' v hn' hs => ?_
 have ne : ∀ b o,X.s₀.heap.get? b=some o->b ≠ X.env.locals:=fun b o e=>Nat.ne_of_lt (Nat.lt_of_lt_of_le (Heap.lt_size e) I.ok.above)
 refine h _ ⟨I.ok,I.os,I.bare,⟨fun b o e n hb hx=>(hs.2 b (ne b o e)).trans (I.base.keep b o e n hb hx),fun b o e n hb hx => ?_,I.base.free,fun b o e hx => ?_,I.base.tups,I.base.frzs,I.base.tbls⟩,⟨_,hn',fun j y v' e1 e2 e3 => ?_⟩,fun y c e => ?_,I.free,I.freeC,fun p hp => ?_,fun b ob e => ?_,by rw [List.length_set]; exact I.len⟩
 ·obtain ⟨sl,e1⟩:=I.base.slot b o e n hb hx
  exact ⟨sl,(hs.2 b (ne b o e)).trans e1⟩
 ·obtain ⟨o',e1⟩:=I.base.there b o e hx
  exact ⟨o',(hs.2 b (ne b o e)).trans e1⟩
 ·by_cases hj:j=i
  ·subst hj
   rw [List.getElem?_set_self hiσ] at e2
   cases e2
  ·rw [List.getElem?_set_ne (Ne.symm hj)] at e2
   obtain ⟨u',r',q⟩:=hl j y v' e1 e2 e3
   refine ⟨u',r',?_⟩
   rcases q with ⟨k,e⟩ | ⟨k,c,e,z⟩
   ·refine .inl ⟨k,?_⟩
    have ny:y ≠ n:=fun e=>hj (nodup_ix hN e1 (e ▸ hi))
    simp [ny,e]
   ·exact .inr ⟨k,c,e,z.sameBut hs (I.cne y c e)⟩
 ·obtain ⟨v',q⟩:=I.cell y c e
  exact ⟨v',q.sameBut hs (I.cne y c e)⟩
 ·obtain ⟨a1,a2,a3,a4⟩:=I.pin p hp
  exact ⟨(hs.2 p.1 a3).trans a1,a2,a3,a4⟩
 ·refine (I.hok b ob e).stay (fun c w' hc q=>(hs.2 c ?_).trans q) (fun _ q=>q) fun _ _ q=>q
  intro z
  rw [z] at hc
  rcases hc with hc | hc
  ·rw [<- hc,I.free] at e
   cases e
  ·rw [I.free] at hc
   cases hc
def tTry (K:Frag)(N j:Nat)(Dc:Addr)(tb:XK->TS):TS:=fun D σ H=>tb (fun cls dd H'=>∃ C,cls = .ref C/\ExK K C/\subIn K (.ref C) (.ref Dc)=some true/\∀ a,H' a=none->D.nx ((List.replicate N none).set j (some (.ref a))) (upd H' a (excD a C dd))) D σ H
theorem ps_try {body:List Stmt}{tb:XK->TS}{d n y:Str}{dp np py apos hpos pos:Pos}{i j:Nat}{Dc:Addr}(O:OwnF X)(hg:Gl X d)(hm:X.mg d=some (.ref Dc))(F:CtK X.K Dc)(hN:X.N.Nodup)(hi:X.N[i]?=some n)
  (hki:X.env.scope.names.lookup n=some .local) (hj:X.N[j]?=some y) (hkj:X.env.scope.names.lookup y=some .local) (hij:i ≠ j)
  (hb : ∀ (pins:List (Addr × Obj)) (E':Value->Shared->Prop) (Ec:XK),Passes (CXg X.prog X.w) (X.trying pins E') Ec->PSs (X.trying pins E') body (tb Ec))
  (hdb:(d == ("__debug__" : Str))=false:=by decide) (hnb:(n == ("__debug__" : Str))=false:=by decide) (hnc:(n == ("__classdict__" : Str))=false:=by decide)
  (hs:swapsWith (.Name n np) (some (.Name y py)) apos.line X.env=pure false:=by rfl) :
  PS X (.Try body [.ExceptHandler (some (.Name d dp)) (some n) [.Assign [.Name y py] (.Name n np) apos] hpos] [] [] pos) (tTry X.K X.N.length j Dc tb):=by
 intro pins s σ H D I h
 refine wpAny_Try_except (wpAny_mono (hb pins _ _ ?hp [] s σ H D (I.trying _) h) (fun f s1 z => ?_) fun _ _ z=>z)
 case hp =>
  intro pl σ' Hc sc e s' I0 hx
  have I1:Inv X pins σ' Hc sc:=I0.tried
  obtain ⟨ea,C,dd,H',rfl,Fl,C',e1,FK,hsub,hk⟩:=hx
  cases e1
  obtain ⟨B,hok,fl,bk,th⟩:=Fl.fl
  have hfr:X.A.frames=some (X.env :: X.outer):=by rw [<- O.stk]; exact I1.ok.frames
  have fl':FlyD B (X.env :: X.outer) ea (.ref C) dd .none s'.heap:=by rw [<- O.stk]; exact fl
  have hBe:B.get? ea=none:=fl.no
  refine noteD hfr O.fr fl' fun h4 held4 up4 => ?_
  refine flightD held4 fun h5 fl5 up5 => ?_
  have mk : ∀ h6:Heap,B.StaysIn h6->s'.heap.UpToSlots h6->Inv X pins σ' H' { s' with heap:=h6 }:=fun h6 st up =>
   I1.call' (s':={ s' with heap:=h6 }) (ch:=[]) Fl.os (un_here I1 Fl.un bk th st up) (hok.kept st) Fl.bare (by simp)
  have I5:=mk h5 fl5.st (up4.trans up5)
  obtain ⟨ob,_,hob,hobc,_,_⟩:=fl5.at
  refine wpAny_handleBy_cons (codeAny_handlers_test (ld_glob (I5.within (.ref ea)) hg hm ?_ hdb)) (by intro q; cases q)
  refine exc_matches I5.kIn ⟨hob,hobc⟩ F hsub ?_
  refine codeAny_handlers_suite_as ?_
  refine flightD fl5 fun h6 fl6 up6 => ?_
  have I6:=mk h6 fl6.st ((up4.trans up5).trans up6)
  obtain ⟨ob6,ws,hob6,hobc6,hobdd,hobd6⟩:=fl6.at
  have nfr:ea ∉ frs X.stack:=fun z=>by
   obtain ⟨_,o',ho',hnf⟩:=I6.stack.mem z
   rw [hob6] at ho'
   cases ho'
   exact hnf ws hobd6
  have nsc:sc.heap.get? ea=none:=by
   cases q:sc.heap.get? ea with
   | none=>rfl
   | some o =>
    obtain ⟨o',e'⟩:=th ea o q nfr
    rw [hBe] at e'
    cases e'
  have nH:H' ea=none:=by
   cases q:H' ea with
   | none=>rfl
   | some o =>
    exfalso
    have lt:=hok.lt q
    obtain ⟨o',e'⟩ : ∃ o',B.get? ea=some o':=by
     exact objThere (hok ea o q)
    rw [hBe] at e'
    cases e'
  have n0:X.s₀.heap.get? ea=none:=by
   cases q:X.s₀.heap.get? ea with
   | none=>rfl
   | some o =>
    obtain ⟨o',e'⟩:=I1.base.there ea o q (by rw [O.ex]; simp)
    rw [nsc] at e'
    cases e'
  have nL:ea ≠ X.env.locals:=fun z=>by
   obtain ⟨m,⟨oL,_,_,hoL,_⟩,_⟩:=I1.loc
   rw [<- z,nsc] at hoL
   cases hoL
  have I7:Inv X pins σ' (upd H' ea (excD ea C dd)) { s' with heap:=h6 }:=I6.track nH n0 nL
   (fun x c q z=>by obtain ⟨v,o,ho,_⟩:=I1.cell x c q; rw [z,nsc] at ho; cases ho)
   (fun p q z=>by have:=(I1.pin p q).1; rw [z,nsc] at this; cases this)
   ⟨⟨ob6,⟨hob6,hobc6⟩,hobdd,_,hobd6⟩,⟨ob6,hob6⟩,fun h1 h2 ⟨o,ho,hd⟩ k=>⟨o,⟨k o ho.at_,ho.cls⟩,hd⟩⟩
  have J:=I7.within (.ref ea)
  refine store_ok (X:=X.within (.ref ea)) J hN hi (.inl hki) (show RelV (.ref ea) (.ref ea) from rfl) (fun s8 I8 => ?_) (.inr hki)
  have hiσ:i < σ'.length:=by rw [I1.len]; exact (List.getElem?_eq_some_iff.mp hi).1
  have z:=pss_one (ps_set (X:=X.within (.ref ea)) (pos:=apos) (pos':=py) (i:=j) hN hj (.inl hkj) (pe_var (X:=X.within (.ref ea)) (pos:=np) hi (.inl hki) hnb hnc) hs (.inr hkj)) pins s8 (σ'.set i (some (.ref ea))) (upd H' ea (excD ea C dd))
   { nx:=fun σ9 H9=>σ9=(σ'.set i (some (.ref ea))).set j (some (.ref ea))/\H9=upd H' ea (excD ea C dd),rt:=fun _ _=>False } I8 ⟨_,List.getElem?_set_self hiσ,rfl,rfl⟩
  refine wpAny_mono z (fun f s9 hf => ?_) (fun _ _ q=>q.elim)
  cases f with
  | next =>
   obtain ⟨σ9,H9,I9,rfl,rfl⟩:=hf
   refine name_gone (I9.without I1.ok) hN hi hki fun s10 I10 => ?_
   refine ⟨(List.replicate X.N.length none).set j (some (.ref ea)),_,I10.weak ?_ ?_,hk ea nH⟩
   ·simp [I1.len]
   ·intro q v hq
    by_cases hqj:q=j
    ·subst hqj
     have hjl:q < σ'.length:=by rw [I1.len]; exact (List.getElem?_eq_some_iff.mp hj).1
     rw [List.getElem?_set_self (by simp; rw [<- I1.len]; exact hjl)] at hq
     rw [List.getElem?_set_ne hij,List.getElem?_set_self (by simpa using hjl)]
     exact hq
    ·rw [List.getElem?_set_ne (Ne.symm hqj),List.getElem?_replicate] at hq
     split at hq <;> cases hq
  | brk=>obtain ⟨_,_,_,q⟩:=hf; exact q.elim
  | cont=>obtain ⟨_,_,_,q⟩:=hf; exact q.elim
  | ret u=>obtain ⟨_,_,_,_,_,q⟩:=hf; exact q.elim
 ·have z':=SP.tried z
  cases f with
  | next=>exact wpAny_execs_nil z'
  | brk=>exact z'
  | cont=>exact z'
  | ret u=>exact z'
end
end L2
namespace L2
open PySem PySem.Spec PyProof.Rows PySem.W
def xiIn (K:Frag)(C P f:Addr):Bool:=match K.lookup C with
 | some ⟨.type "type",_,.cls cd,sl⟩=>(match cd.mro,sl.toList with
  | .ref C' :: .ref P' :: bm,[_,_,_,_,some (.builtin n),_]=>C' == C && P' == P && n == "ValueError.__new__" && !cd.hasDel && cd.hasDict && tailIn K bmV (.ref P' :: bm) && nsOkIn K cd.ns && nsIn K cd.ns "__init__" == some (some (.ref f)) && bm == bmV
  | _,_=>false)
 | _=>false
structure ClsI (h:Heap)(C P f:Addr):Prop where
 ex : ∃ (nm q:Str) (N:Addr) (bs:List Value) (sn:List Str) (sub:List Value) (ab:Bool) (col:Option Bool) (dd:Option Addr) (k0 k1 k2 k3 k5:Option Value) (mN:Str->Option Value),
  h.get? C=some (excClassObj nm q C N bs (.ref P :: bmV) true sn sub ab col dd k0 k1 k2 k3 k5 "ValueError.__new__")/\h.Ns N mN/\mN "__init__" = some (.ref f)/\OwnTail h bmV (.ref P :: bmV)
section
variable {prog:Program}{w:World}{A:Around}{E:Value->Shared->Prop}{h:Heap}{g:Array GenState}{d:Drawn}{t:Nat}{os:OsState}{K:Frag}{C P f:Addr}
abbrev excNew (h:Heap)(C:Addr)(rest:List Value):Heap:=(h.push { cls:=.type "tuple",data:=.seq rest.toArray }).push { cls:=.ref C,data:=.fields #[.ref h.objs.size,.none,.none,.none,.bool false,.none] }
end
end L2
namespace L2
open PySem PySem.Spec PyProof.Rows PySem.W
def exN (a C:Addr)(dd:Option Addr):HO:=.ext fun h=>∃ o t,(h.get? a=some o/\o.cls = .ref C/\o.dict=dd)/\o.data = .fields #[t,.none,.none,.none,.bool false,.none]
def rem (H:Hp)(a:Addr):Hp:=fun b=>if b=a then none else H b
section
variable {X:Cx}{pins:List (Addr × Obj)}{σ:St}{H:Hp}{s:Shared}
end
structure ExI (K:Frag)(C P f:Addr):Prop where
 xi:xiIn K C P f=true
 fn:typeIn K (.ref f)=some (.type "function")
 kp:keepIn K (.ref C)=true
 k:ExK K C
def tRaiseI (C:Addr)(sp:Sp)(E:XK)(t:TA):TS:=fun _ σ H=>t σ H fun vs H1=>vs.length<=sizeLine/\∀ e,H1 e=none ->
 sp (.ref e :: vs) (upd H1 e (exN e C none)) (fun v H2=>v = .non/\∃ dd,H2 e=some (exN e C dd)/\E (.ref C) dd (rem H2 e)) E0
section
variable {X:Cx}
end
end L2
namespace L2
open PySem PySem.Spec PyProof.Rows PySem.W PySem.Builtin PySem.Builtin.ObjectAttr
section
variable {prog:Program}{w:World}{A:Around}{E:Value->Shared->Prop}{h:Heap}{g:Array GenState}{d:Drawn}{t:Nat}{os:OsState}{K:Frag}{C P f a:Addr}{o:Obj}{name:Str}{v:Value}
end
structure ExF (K:Frag)(C P f:Addr)(x:Str):Prop where
 i:ExI K C P f
 sa:findIn K (.ref C) "__setattr__" = some (some (.builtin "object.__setattr__"))
 nn:findIn K (.ref C) x=some none
def xdE (a:Addr)(fs:List (Str × V)):HO:=.ext fun h=>∃ mA,h.Ns1 a mA/\(∀ g,RelO (fs.lookup g) (mA g))/\Within mA (fs.map (·.1))
section
variable {X:Cx}{pins:List (Addr × Obj)}{σ:St}{H:Hp}{s:Shared}{o e value:Expr}{x:Str}{pos pos':Pos}{ta tv:TE}{C P f:Addr}
def sExN (K:Frag)(C P f:Addr)(ta tv:TE)(x:Str):TS:=fun D σ H=>tv σ H fun y H1=>ta σ H1 fun z H2=>∃ a,z = .ref a/\H2 a=some (exN a C none)/\ExF K C P f x /\
 ∀ dx,H2 dx=none->dx ≠ a->D.nx σ (upd (upd H2 a (exN a C (some dx))) dx (xdE dx [(x,y)]))
end
end L2
namespace L2
open PySem PySem.Spec PyProof.Rows PySem.W PySem.Builtin PySem.Builtin.ObjectAttr
section
variable {prog:Program}{w:World}{A:Around}{E:Value->Shared->Prop}{h:Heap}{g:Array GenState}{d:Drawn}{t:Nat}{os:OsState}{K:Frag}{C P f a:Addr}{o:Obj}{v:Value}
end
structure BaseI (K:Frag)(P:Addr):Prop where
 rd:readsIn K P (.type "type")=true
 fc:findCls K (.ref P) (.type "type") "__init__" = some (.val (.builtin "ValueError.__init__"))
 ga:specialIn K (.ref P) "__getattribute__" = some (some (.builtin "type.__getattribute__"))
section
variable {X:Cx}{C P f:Addr}{x:Str}{p apos pos:Pos}{e₁ e₂:Expr}{t:TA}
def tBInit (K:Frag)(P:Addr)(t:TA):TE:=fun σ H Q=>t σ H fun vs H1=>∃ a C dd f txt,vs=[.ref a,.str txt]/\H1 a=some (exN a C dd)/\ExI K C P f/\Q .non H1
def tExF (K:Frag)(ta:TE)(x:Str):TE:=fun σ H Q=>ta σ H fun z H1=>∃ a C P f dx fs v,z = .ref a/\H1 a=some (excD a C (some dx))/\H1 dx=some (xdE dx fs)/\ExF K C P f x/\fs.lookup x=some v/\Q v H1
end
end L2
namespace L2
open PySem PySem.Spec PyProof.Rows PySem.W
def FmtV:V->Str->Prop
 | .int i,x=>i.natAbs.log2 < 1920/\x=(toString i:String)
 | .str y,x=>y.length<=sizeLine/\x=y
 | .non,x=>x = "None"
 | _,_=>False
def tFmt (ta:TE):TE:=fun σ H Q=>ta σ H fun v H1=>∃ x,FmtV v x/\Q (.str x) H1
abbrev TJ:=Str->St->Hp->(Str->Hp->Prop)->Prop
def PJ (X:Cx)(es:List Expr)(t:TJ):Prop :=
 ∀ (acc:Str) (pins:List (Addr × Obj)) (s:Shared) (σ:St) (H:Hp) (Q:Str->Hp->Prop),Inv X pins σ H s->t acc σ H Q->wpAny (model X.prog X.w) X.A (joinParts acc (evalEach es X.env)) (EP X pins σ fun v H'=>∃ x,v = .str x/\Q x H') X.xe s
def jNil:TJ:=fun acc _ H Q=>acc.length<=sizeLine/\Q acc H
def jCons (te:TE)(tr:TJ):TJ:=fun acc σ H Q=>te σ H fun v H1=>∃ x,v = .str x/\(acc ++ x).length<=sizeLine/\tr (acc ++ x) σ H1 Q
def tJoin (t:TJ):TE:=fun σ H Q=>t Str.empty σ H fun x H'=>Q (.str x) H'
section
variable {X:Cx}{value e e':Expr}{es:List Expr}{ta te:TE}{tr t:TJ}{pos:Pos}
end
end L2
namespace L2
open PySem PySem.Spec PyProof.Rows PySem.W
def Its (x:Str):It:=⟨fun i _=>∃ c,x.cps[i]?=some c,fun i H v H'=>H'=H/\∃ c,x.cps[i]?=some c/\v = .str ⟨#[c]⟩,fun i _=>x.cps[i]?=none⟩
theorem turn_str {P:Program}{w:World}{K:Frag}{tg:Expr}(x:Str)(t:Tok)(it:Addr)(b:Bool) :
  Turn P w K tg (Its x) [it] it (fun i h=>h.IsStrIter it (if b then "str_ascii_iterator" else "str_iterator") x t i) where
 mem:=by simp
 obj:=fun i h st a ha=>by
  have e:a=it:=by simpa using ha
  subst e
  obtain ⟨o,e,c,d⟩:=st
  exact ⟨o,e,fun v z=>by rw [d] at z; cases z⟩
 keep:=fun i h h' ⟨o,e,r⟩ k=>⟨o,k it (by simp) o e,r⟩
 item:=by
  intro X hP hw hK hc i pins s σ H E I hf st hg
  subst hP hw hK
  obtain ⟨c,hx⟩:=hg
  obtain ⟨f0,f1,f2,f3,f4,f5⟩:=hf it (by simp)
  have go : ∀ h',h'.IsStrIter it (if b then "str_ascii_iterator" else "str_iterator") x t (i+1)->Heap.SameBut it s.heap h' ->
    ∃ u,(some (Value.str ⟨#[c]⟩ s.toks))=some u/\wpAny (model X.prog X.w) X.A (letOwnedTupleGo tg (.ref it) u) (fun _ s2=>∃ v H',Inv X pins σ H' s2/\RelV v u/\(Its x).yld i H v H'/\s2.heap.IsStrIter it (if b then "str_ascii_iterator" else "str_iterator") x t (i+1)/\∀ b ∈ [it],H' b=none) E { s with heap:=h',toks:=s.toks+1 }:=by
   intro h' st' sb
   have I1:Inv X pins σ H { s with heap:=h',toks:=s.toks+1 }:=I.turned (t':=s.toks+1) (fun b o hb e=>(sb.2 b hb).trans e) f0 f1 f3 f4 f5
   obtain ⟨o,e,cc,d⟩:=id st'
   exact ⟨_,rfl,go_of (s:={ s with heap:=h',toks:=s.toks+1 }) e cc d (by cases b <;> decide) ⟨.str ⟨#[c]⟩,H,I1,⟨_,rfl⟩,⟨rfl,c,hx,rfl⟩,st',fun b hb=>(hf b hb).1⟩⟩
  cases b with
  | true=>exact wpAny_pyNext_ascii_item st hx go
  | false=>exact wpAny_pyNext_wide_item st hx go
 done:=by
  intro X hP hw hK hc i pins s σ H E I hf st hg
  subst hP hw hK
  obtain ⟨f0,f1,f2,f3,f4,f5⟩:=hf it (by simp)
  cases b with
  | true=>exact wpAny_pyNext_ascii_end (I.ok.hd hc) st hg fun h' eb=>⟨rfl,I.turned (t':=s.toks) (fun b o hb e=>eb b o hb e) f0 f1 f3 f4 f5⟩
  | false=>exact wpAny_pyNext_wide_end (I.ok.hd hc) st hg fun h' eb=>⟨rfl,I.turned (t':=s.toks) (fun b o hb e=>eb b o hb e) f0 f1 f3 f4 f5⟩
 self:=fun _ _ _ _ _ st h=>by
  cases b with
  | true=>exact wpAny_pyIter_striter_ascii st h
  | false=>exact wpAny_pyIter_striter_wide st h
def iStr (tl:TE):TI:=fun σ H R=>tl σ H fun v H1=>∃ x,v = .str x/\R (Its x) H1
section
variable {X:Cx}
theorem pi_str {tg l:Expr}{tl:TE}(hl:PE X l tl):PI X tg l (iStr tl):=by
 intro pins s σ H R I h
 refine thn (hl pins s σ H _ I h) fun v s1 ⟨y,H1,I1,r1,x,ey,q⟩ => ?_
 subst ey
 obtain ⟨t,rfl⟩:=r1
 have fin : ∀ b:Bool,PIE X pins σ tg R (.ref s1.heap.objs.size) { s1 with heap:=s1.heap.push { cls:=.type (if b then "str_ascii_iterator" else "str_iterator"),data:=.fields #[.str x t,.int 0 0] } }:=by
  intro b
  refine ⟨s1.heap.objs.size,[s1.heap.objs.size],_,_,H1,rfl,I1.kept (t':=s1.toks) fun b o e=>Heap.get?_push_of_some _ e,turn_str x t _ b,⟨_,Heap.get?_push_size _ rfl,rfl,rfl⟩,fun b hb => ?_,q⟩
  have e:b=s1.heap.objs.size:=by simpa using hb
  subst e
  exact I1.fpOk (Nat.le_refl _) (I1.hok.fresh (Nat.le_refl _))
 cases ha:x.cps.all (· < 128) with
 | true=>exact wpAny_pyIter_ascii ha (fin true)
 | false=>exact wpAny_pyIter_wide ha (fin false)
end
def rPart:V->List V->Hp->VK->Prop:=fun z vs H Q=>∃ x y,z = .str x/\vs=[.str y]/\(y.length == 0)=false/\x.length<=sizeLine/\∀ p,H p=none->Q (.ref p) (upd H p (.tup [.str (Txt.partition x y).1,.str (Txt.partition x y).2.1,.str (Txt.partition x y).2.2]))
def rSplit:V->List V->Hp->VK->Prop:=fun z vs H Q=>∃ x y,z = .str x/\vs=[.str y]/\(y.length == 0)=false/\x.length+2<=sizeLine/\∀ p,H p=none->Q (.ref p) (upd H p (.lst ((Txt.split x y).map V.str)))
section
variable {X:Cx}
end
end L2
namespace L2
open PySem PySem.Spec PyProof.Rows PySem.W
section
variable {X:Cx}
theorem truth_bl {prog:Program}{w:World}{A:Around}{b:Bool}{s:Shared}{Q:Bool->Shared->Prop}{E:Value->Shared->Prop}(h:Q b s):wpAny (model prog w) A (truthy (.bool b)) Q E s:=by
 cases b <;> exact wpAny_pure h
theorem range_any {bs:List Bool}:(List.range bs.length).any (fun i=>bs.getD i false)=bs.any id:=by
 rw [Bool.eq_iff_iff]
 simp only [List.any_eq_true,List.mem_range,id]
 constructor
 ·rintro ⟨i,hi,h⟩
  exact ⟨bs[i],List.getElem_mem hi,by simpa [List.getD,hi] using h⟩
 ·rintro ⟨b,hb,h⟩
  obtain ⟨i,hi,rfl⟩:=List.getElem_of_mem hb
  exact ⟨i,hi,by simpa [List.getD,hi] using h⟩
theorem range_all {bs:List Bool}:(List.range bs.length).all (fun i=>bs.getD i false)=bs.all id:=by
 rw [Bool.eq_iff_iff]
 simp only [List.all_eq_true,List.mem_range,id]
 constructor
 ·intro h b hb
  obtain ⟨i,hi,rfl⟩:=List.getElem_of_mem hb
  simpa [List.getD,hi] using h i hi
 ·intro h i hi
  simpa [List.getD,hi] using h bs[i] (List.getElem_mem hi)
theorem walk_bools {pins:List (Addr × Obj)}{σ:St}{H:Hp}{s:Shared}(I:Inv X pins σ H s)(hc:X.calm=true){p:Addr}{bs:List Bool}(hq:SqL X.K H p (bs.map V.bl)){E:Value->Shared->Prop}{k:(Nat->Bool)->Nat->Bool}{Q:VK}(q:Q (.bl (k (fun i=>bs.getD i false) bs.length)) H) :
  wpAny (model X.prog X.w) X.A.in1 (pyIter (.ref p)) (fun it s₂=>∃ J fp wr n P St tr,it = .ref J/\Walks X.prog X.w X.A.in1 J fp wr n P St/\St 0 s₂.heap/\TruthOf X.prog X.w X.A.in1 P tr /\
   ∀ h' tk,(∀ b o,b ∉ wr->s₂.heap.get? b=some o->h'.get? b=some o)->EP X pins σ Q (.bool (k tr n)) { s₂ with heap:=h',toks:=tk }) E s:=by
 obtain ⟨its,rv,pl,hz⟩:=I.list hq
 have hl:=rv.length
 rw [List.length_map] at hl
 have ne:p ≠ s.heap.objs.size:=by
  obtain ⟨o,n,e,_⟩:=pl
  exact Nat.ne_of_lt (Heap.lt_size e)
 refine wpAny_pyIter_list pl.isList ?_
 have keep : ∀ b o,s.heap.get? b=some o->(s.heap.push { cls:=.type "list_iterator",data:=.fields #[.ref p,.int 0 0] }).get? b=some o:=fun b o e=>Heap.get?_push_of_some _ e
 refine ⟨s.heap.objs.size,_,_,_,_,_,fun i=>bs.getD i false,rfl,Walks.list (A:=X.A.in1) (show X.A.in1.handled=none from I.ok.hd hc) s.heap.objs.size p ne its.toArray,⟨⟨_,Heap.get?_push_size _ rfl,rfl,rfl⟩,pl.isList.at fun o e=>keep p o e⟩,?_,?_⟩
 ·intro i v s' Q' E' hv hQ
  have hv':its[i]?=some v:=by simpa using hv
  have hi:i < bs.length:=by rw [hl]; exact (List.getElem?_eq_some_iff.mp hv').1
  obtain ⟨u,hu,ru⟩:=rv.get (show (bs.map V.bl)[i]?=some (.bl bs[i]) by simp [hi])
  rw [hv'] at hu
  cases hu
  cases ru
  have e:bs.getD i false=bs[i]:=by simp [List.getD,hi]
  dsimp only at hQ
  rw [e] at hQ
  exact truth_bl hQ
 ·intro h' tk kp
  have J:Inv X pins σ H { s with heap:=h',toks:=tk }:=I.kept (t':=tk) fun b o e=>kp b o (by
   have lt:=Heap.lt_size e
   intro z
   have z':b=s.heap.objs.size:=by simpa using z
   rw [z'] at lt
   exact Nat.lt_irrefl _ lt) (keep b o e)
  have es:its.toArray.size=bs.length:=by rw [List.size_toArray]; omega
  rw [es]
  exact ⟨.bl _,H,J,rfl,q⟩
theorem call_allB (hc:X.calm=true):CallR X (.builtin "all") (fun xs H Q=>∃ p,∃ bs:List Bool,xs=[.ref p]/\SqL X.K H p (bs.map V.bl)/\Q (.bl (bs.all id)) H):=by
 intro pins s σ H xs us Q I r h
 obtain ⟨p,bs,rfl,hq,q⟩:=h
 obtain ⟨u,rfl,rx⟩:=vals1 r
 cases rx
 exact call_all_walk (walk_bools I hc hq (k:=fun tr n=>(List.range n).all tr) (by rw [range_all]; exact q))
theorem sl_str:SlR X (fun x lo hi H Q=>∃ a,x = .str a/\a.length<=sizeLine/\Q (.str (Txt.slice a lo hi)) H):=by
 intro pins s σ H x v vl vu lo hi sl Q I rx hs pl pu h
 obtain ⟨a,rfl,hz,q⟩:=h
 obtain ⟨t,rfl⟩:=rx
 refine ⟨"str",_,PySem.F.slot_str_getitem.lookup,typeIs_str _ _ _,?_⟩
 have fin : ∀ t' k,EP X pins σ Q (.str (Txt.slice a lo hi) t') { s with toks:=k }:=fun t' k=>⟨.str _,H,I.tok _,⟨_,rfl⟩,q⟩
 cases pl with
 | none=>cases pu with
  | none=>exact wpAny_getItem_str_slice (l:=none) (u:=none) (st:=none) hs rfl (post_val_or_str ⟨Nat.le_trans (Txt.slice_le a _ _) hz,fin⟩)
  | int j tj=>exact wpAny_getItem_str_slice (l:=none) (u:=some (j,tj)) (st:=none) hs rfl (post_val_or_str ⟨Nat.le_trans (Txt.slice_le a _ _) hz,fin⟩)
 | int i ti=>cases pu with
  | none=>exact wpAny_getItem_str_slice (l:=some (i,ti)) (u:=none) (st:=none) hs rfl (post_val_or_str ⟨Nat.le_trans (Txt.slice_le a _ _) hz,fin⟩)
  | int j tj=>exact wpAny_getItem_str_slice (l:=some (i,ti)) (u:=some (j,tj)) (st:=none) hs rfl (post_val_or_str ⟨Nat.le_trans (Txt.slice_le a _ _) hz,fin⟩)
theorem op_eqE (hu:X.A.units+64 < cLine):OpR X (compareOp .Eq) (fun x y H Q=>∃ a b xs,x = .ref a/\y = .ref b/\SqL X.K H a xs/\SqL X.K H b []/\Q (.bl xs.isEmpty) H):=by
 intro pins s σ H x y v u Q I rx ry h
 obtain ⟨a,b,xs,rfl,rfl,ha,hb,q⟩:=h
 cases rx
 cases ry
 obtain ⟨its,r,p,_⟩:=I.list ha
 obtain ⟨its',r',p',_⟩:=I.list hb
 cases r'
 cases r with
 | nil=>exact SeqAt.RcAt.lists (A:=X.A) (e:=fun _=>true) p.isList p'.isList rfl (by omega) (fun j h1=>absurd h1 (by simp)) X.prog X.w X.xe _ ⟨.bl _,H,I,rfl,q⟩
 | cons r t=>exact SeqAt.RcAt.lists_lengths (A:=X.A) p.isList p'.isList rfl (by omega) X.prog X.w X.xe _ ⟨.bl _,H,I,rfl,q⟩
theorem op_neE (hu:X.A.units+64 < cLine):OpR X (compareOp .NotEq) (fun x y H Q=>∃ a b xs,x = .ref a/\y = .ref b/\SqL X.K H a xs/\SqL X.K H b []/\Q (.bl (!xs.isEmpty)) H):=by
 intro pins s σ H x y v u Q I rx ry h
 obtain ⟨a,b,xs,rfl,rfl,ha,hb,q⟩:=h
 cases rx
 cases ry
 obtain ⟨its,r,p,_⟩:=I.list ha
 obtain ⟨its',r',p',_⟩:=I.list hb
 cases r'
 cases r with
 | nil=>exact SeqAt.RcNeAt.lists (A:=X.A) (e:=fun _=>true) p.isList p'.isList rfl (by omega) (fun j h1=>absurd h1 (by simp)) X.prog X.w X.xe _ ⟨.bl _,H,I,rfl,q⟩
 | cons r t=>exact SeqAt.RcNeAt.lists_lengths (A:=X.A) p.isList p'.isList rfl (by omega) X.prog X.w X.xe _ ⟨.bl _,H,I,rfl,q⟩
end
end L2
namespace TM
open PySem PySem.NumText
def dg (n:Nat):List Nat:=(Nat.toDigits 10 n).map Char.toNat
structure Fig (cs:List Nat):Prop where
 ne:cs ≠ []
 len:cs.length<=60
 all:AllDigits cs
 no:cs.head?=some 48->cs.length=1
def Reads (L:List Nat)(t b:Nat):Prop :=
 (Fig L/\t=digitsVal L/\b=1)\/∃ p q,L=p ++ 47 :: q/\Fig p/\Fig q/\t=digitsVal p/\b=digitsVal q/\2<=b/\Nat.gcd t b=1
def showL (t b:Nat):List Nat:=if b=1 then dg t else dg t ++ 47 :: dg b
end TM
namespace TM
open PySem PySem.StrLaws PySem.Builtin PySem.Builtin.Str
abbrev cps (x:Str):List Nat:=x.cps.toList
abbrev sl:Str:=⟨#[47]⟩
theorem ext {x y:Str}(h:cps x=cps y):x=y:=by
 obtain ⟨⟨a⟩⟩:=x
 obtain ⟨⟨b⟩⟩:=y
 have h':a=b:=h
 rw [h']
theorem cps_append' (x y:Str):cps (x ++ y)=cps x ++ cps y:=by
 show (x.cps ++ y.cps).toList=_
 rw [Array.toList_append]
end TM
namespace L2
open PySem PySem.Spec PyProof.Rows PySem.W
def rCount:V->List V->Hp->VK->Prop:=fun x vs H Q=>∃ l xs y,x = .ref l/\vs=[y]/\H l=some (.lst xs)/\flatV y=true/\xs.all flatV=true/\Q (.int ((xs.countP fun z=>eqV z y:Nat):Int)) H
def rIndex:V->List V->Hp->VK->Prop:=fun x vs H Q=>∃ l xs y,∃ j:Nat,∃ z,x = .ref l/\vs=[y]/\H l=some (.lst xs)/\flatV y=true/\xs.all flatV=true/\xs[j]?=some z/\eqV z y=true /\
 (∀ m z,m < j->xs[m]?=some z->eqV z y=false)/\Q (.int (j:Int)) H
section
variable {X:Cx}
end
theorem bt_val:bootBuiltins "ValueError" = some (.type "ValueError"):=by decide +kernel
def Nx (n i:Nat)(P:Prop):Prop:=∃ m',m' < n - i/\m'=n - (i+1)/\i+1<=n/\P
theorem Nx.mk {n i:Nat}{P:Prop}(h:i < n)(p:P):Nx n i P:=⟨n - (i+1),by omega,rfl,h,p⟩
theorem blkN_none {X:Cx}{scope:Scope}{N':List Str}{cl:List (Str × Addr)}{σ:St}:BlkN X N' scope cl σ (List.replicate N'.length none):=by
 refine ⟨by simp,fun i x v h1 h2 => ?_⟩
 rw [List.getElem?_replicate] at h2
 split at h2 <;> cases h2
theorem comp_str {D:Addr}{x:Str}{g:TG}{tt:TT}{te:TE}{σ0:St}{QD:Hp->Prop}{H1:Hp}(Pv:Nat->List V->Hp->Prop)(h0:Pv 0 [] (upd H1 D (.lst [])))
  (hl : ∀ i ys H,i<=x.cps.toList.length->Pv i ys H->H D=some (.lst ys)/\ys.length < sizeLine)
  (hs : ∀ i c ys H,x.cps.toList[i]?=some c->Pv i ys H->g (.str ⟨#[c]⟩) σ0 H fun σ2 H2=>Keep σ0 σ2/\tt σ2 H2 fun b H3=>if b=true then te σ2 H3 fun y H4=>H4 D=some (.lst ys)/\Nx x.cps.toList.length i (Pv (i+1) (ys ++ [y]) (upd H4 D (.lst (ys ++ [y])))) else Nx x.cps.toList.length i (Pv (i+1) ys H3))
  (hd : ∀ ys H,Pv x.cps.toList.length ys H->QD H) :
  ∃ W:Nat->Nat->List V->Hp->Prop,(∃ m,W 0 m [] (upd H1 D (.lst []))) /\
   ∀ i m ys H,W i m ys H->H D=some (.lst ys)/\ys.length < sizeLine /\
    (((Its x).stop i H/\QD H)\/((Its x).go i H/\∀ v H',(Its x).yld i H v H'->g v σ0 H' fun σ2 H2=>Keep σ0 σ2/\tt σ2 H2 fun b H3 =>
     if b=true then te σ2 H3 fun y H4=>H4 D=some (.lst ys)/\∃ m',m' < m/\W (i+1) m' (ys ++ [y]) (upd H4 D (.lst (ys ++ [y]))) else ∃ m',m' < m/\W (i+1) m' ys H3)):=by
 refine ⟨fun i m ys H=>m=x.cps.toList.length - i/\i<=x.cps.toList.length/\Pv i ys H,⟨x.cps.toList.length,by simp,Nat.zero_le _,h0⟩,?_⟩
 rintro i m ys H ⟨rfl,hi,p⟩
 obtain ⟨hD,hz⟩:=hl i ys H hi p
 refine ⟨hD,hz,?_⟩
 by_cases hlt:i < x.cps.toList.length
 ·have e:x.cps[i]?=some x.cps.toList[i]:=by rw [<- Array.getElem?_toList]; exact List.getElem?_eq_getElem hlt
  refine .inr ⟨⟨_,e⟩,fun v H' y => ?_⟩
  obtain ⟨rfl,c,hc,rfl⟩:=y
  exact hs i c ys _ (by rw [Array.getElem?_toList]; exact hc) p
 ·have e:i=x.cps.toList.length:=by omega
  subst e
  refine .inl ⟨?_,hd ys H p⟩
  show x.cps[x.cps.toList.length]?=none
  rw [<- Array.getElem?_toList]
  exact List.getElem?_eq_none (Nat.le_refl _)
end L2
namespace L2
open PySem PySem.Spec PyProof.Rows
def dcE (a:Addr):HO:=.ext fun h=>∃ o,h.get? a=some o/\o.cls = .type "dict"
def tDict0:TE:=fun _ H Q=>∀ p,H p=none->Q (.ref p) (upd H p (dcE p))
section
variable {X:Cx}{pos:Pos}
def IsiD (K:PySem.W.Frag)(H:Hp)(v:V)(T:String)(b:Bool):Prop:=Isi K H v T b\/∃ a,v = .ref a/\H a=some (dcE a)/\T = "str" /\ b=false
theorem call_isiZ:CallR X (.builtin "isinstance") (fun xs H Q=>∃ x T b,xs=[x,.ty T]/\IsiD X.K H x T b/\Q (.bl b) H):=by
 intro pins s σ H xs us Q I r h
 obtain ⟨x,T,b,rfl,hi | ⟨a,rfl,hH,rfl,rfl⟩,q⟩:=h
 ·exact call_isi pins s σ H _ us Q I r ⟨x,T,b,rfl,hi,q⟩
 ·obtain ⟨u,w',rfl,rx,ry⟩:=vals2 r
  cases ry
  cases rx
  obtain ⟨⟨o,e,c⟩,_⟩:=I.hok a _ hH
  exact IsiPair.dict_str e c ⟨.bl false,H,I.tok _,rfl,q⟩
end
end L2
namespace L2
open PySem PySem.Spec PyProof.Rows
def rEqL (K:PySem.W.Frag):R2:=fun x y H Q=>∃ a b xs ys,∃ e:Nat->Bool,x = .ref a/\y = .ref b/\SqL K H a xs/\SqL K H b ys/\(∀ (j:Nat) x y,xs[j]?=some x->ys[j]?=some y->DEq K H 40 x y (e j)) /\
 Q (.bl ((List.range (min xs.length ys.length)).all e && xs.length == ys.length)) H
def rNeL (K:PySem.W.Frag):R2:=fun x y H Q=>∃ a b xs ys,∃ e:Nat->Bool,x = .ref a/\y = .ref b/\SqL K H a xs/\SqL K H b ys/\(∀ (j:Nat) x y,xs[j]?=some x->ys[j]?=some y->DEq K H 40 x y (e j)) /\
 Q (.bl (!((List.range (min xs.length ys.length)).all e && xs.length == ys.length))) H
section
variable {X:Cx}
theorem nels_at {pins:List (Addr × Obj)}{σ:St}{H:Hp}{s:Shared}(I:Inv X pins σ H s){A:Around}{a b:Addr}{xs ys:List V}{e:Nat->Bool}(hx:SqL X.K H a xs)(hy:SqL X.K H b ys)(hu:A.units < cLine)
  (hd : ∀ (j:Nat) x y u v,xs[j]?=some x->ys[j]?=some y->RelV x u->RelV y v->SeqAt.EqAt A.in1 s u v (e j)) :
  SeqAt.RcNeAt A s (.ref a) (.ref b) (!((List.range (min xs.length ys.length)).all e && xs.length == ys.length)):=by
 obtain ⟨its,r,tx,_⟩:=I.list hx
 obtain ⟨its',r',ty,_⟩:=I.list hy
 have l1:=r.length
 have l2:=r'.length
 by_cases hl:xs.length=ys.length
 ·have q:=SeqAt.RcNeAt.lists (A:=A) (e:=e) (isList_of tx) (isList_of ty) (by rw [List.size_toArray,List.size_toArray]; omega) hu (fun j h1 h2 => ?_)
  ·rw [List.size_toArray,<- l1] at q
   have e1:((List.range (min xs.length ys.length)).all e && xs.length == ys.length)=(List.range xs.length).all e:=by
    rw [<- hl,Nat.min_self,beq_self_eq_true,Bool.and_true]
   rw [e1]
   exact q
  ·rw [List.size_toArray] at h1 h2
   obtain ⟨x,hxj⟩ : ∃ x,xs[j]?=some x:=⟨_,List.getElem?_eq_getElem (by omega)⟩
   obtain ⟨y,hyj⟩ : ∃ y,ys[j]?=some y:=⟨_,List.getElem?_eq_getElem (by omega)⟩
   obtain ⟨u1,hu1,ru1⟩:=r.get hxj
   obtain ⟨u2,hu2,ru2⟩:=r'.get hyj
   have e1:its.toArray[j]=u1:=by
    have:=(List.getElem?_eq_some_iff.mp hu1).2
    simpa using this
   have e2:its'.toArray[j]=u2:=by
    have:=(List.getElem?_eq_some_iff.mp hu2).2
    simpa using this
   rw [e1,e2]
   exact hd j x y u1 u2 hxj hyj ru1 ru2
 ·have q:=SeqAt.RcNeAt.lists_lengths (A:=A) (isList_of tx) (isList_of ty) (by rw [List.size_toArray,List.size_toArray,<- l1,<- l2,bne_iff_ne]; exact hl) hu
  have e1:((List.range (min xs.length ys.length)).all e && xs.length == ys.length)=false:=by
   rw [beq_eq_false_iff_ne.mpr hl,Bool.and_false]
  rw [e1]
  exact q
theorem op_neL (hu:X.A.units+64 < cLine):OpR X (compareOp .NotEq) (rNeL X.K):=by
 intro pins s σ H x y v u Q I rx ry h
 obtain ⟨a,b,xs,ys,e,rfl,rfl,hx,hy,hd,q⟩:=h
 cases rx; cases ry
 exact nels_at I hx hy (by omega) (fun j x y u v h1 h2 r1 r2=>(hd j x y h1 h2).at I (by show X.A.units+1+40 < cLine; omega) r1 r2) X.prog X.w X.xe _ ⟨.bl _,H,I,rfl,q⟩
end
def Sf (v:V):Prop:=flatV v=true\/∃ a,v = .ref a
theorem eqV_self {v:V}(h:flatV v=true):eqV v v=true:=by
 cases v <;> simp_all [flatV,eqV]
theorem DEq.self {K:PySem.W.Frag}{H:Hp}{n:Nat}{v:V}(h:Sf v):DEq K H n v v true:=by
 rcases h with h | ⟨a,rfl⟩
 ·have:=DEq.flat (K:=K) (H:=H) (n:=n) h h
  rwa [eqV_self h] at this
 ·exact .same
theorem all_true (n:Nat)(m:Nat)(h:n=m):((List.range (min n m)).all (fun _=>true) && n == m)=true:=by
 subst h
 rw [beq_self_eq_true,Bool.and_true,List.all_eq_true]
 exact fun _ _=>rfl
def rNeLs (K:PySem.W.Frag):R2:=fun x y H Q=>∃ a b xs,x = .ref a/\y = .ref b/\SqL K H a xs/\SqL K H b xs/\(∀ v ∈ xs,Sf v)/\Q (.bl false) H
theorem op_neLs {X:Cx}(hu:X.A.units+64 < cLine):OpR X (compareOp .NotEq) (rNeLs X.K):=by
 intro pins s σ H x y v u Q I rx ry h
 obtain ⟨a,b,xs,rfl,rfl,hx,hy,hd,q⟩:=h
 refine op_neL hu pins s σ H _ _ v u Q I rx ry ⟨a,b,xs,xs,fun _=>true,rfl,rfl,hx,hy,fun j x y h1 h2 => ?_,?_⟩
 ·rw [h1] at h2
  cases h2
  exact DEq.self (hd _ (List.mem_of_getElem? h1))
 ·rw [all_true _ _ rfl]
  exact q
end L2
namespace L2
open PySem PySem.Spec PyProof.Rows
theorem bt_list:bootBuiltins "list" = some (.type "list"):=by decide +kernel
theorem bt_dict:bootBuiltins "dict" = some (.type "dict"):=by decide +kernel
def Tk (H H':Hp):Prop:=∀ b ys,H b=some (.tup ys)->H' b=some (.tup ys)
theorem Same.tk {H H':Hp}(s:Same H H'):Tk H H':=fun b ys e=>s b _ e
theorem Tk.lst {H:Hp}{l:Addr}{xs:List V}{o:HO}(h:H l=some (.lst xs)):Tk H (upd H l o):=fun b ys e=>by
 have ne:b ≠ l:=fun z=>by rw [z,h] at e; cases e
 rw [upd_ne ne]
 exact e
theorem sz1000 {n:Nat}(h:n<=1000):n<=sizeLine:=Nat.le_trans h (by decide)
def starFree:Expr->Bool
 | .Starred .. => false
 | _=>true
theorem star_free {e:Expr}{es:List Expr}{env:Env}(h:starFree e=true):starEach (e :: es) env=(false,eval e env) :: starEach es env:=by
 cases e <;> first | rfl | cases h
theorem pa_c {X:Cx}{e:Expr}{es:List Expr}{te:TE}{t:TA}(h:PE X e te)(hr:PA X es t)(hf:starFree e=true:=by rfl):PA X (e :: es) (tCons te t):=pa_cons h hr (star_free hf)
end L2
namespace L2
open PySem PySem.Spec PyProof.Rows
inductive Dt where
 | i (n:Int)
 | s (x:Str)
 | b (k:Bool)
 | n
 | t (l:List Dt)
def SqZ (K:PySem.W.Frag)(H:Hp)(a:Addr)(xs:List V):Prop:=H a=some (.tup xs)\/∃ (o:Obj) (its:Array Value) (n:Nat),K.lookup a=some o/\o.cls = .type "tuple" /\ o.data = .seq its n/\its.size<=sizeLine/\Vals xs its.toList
theorem SqZ.of {K:PySem.W.Frag}{H:Hp}{a:Addr}{xs:List V}(h:H a=some (.tup xs)):SqZ K H a xs:=.inl h
theorem SqZ.sq {K:PySem.W.Frag}{H:Hp}{a:Addr}{xs:List V}(h:SqZ K H a xs):SqT K H a xs:=by
 rcases h with h | h
 ·exact .inl (.inl h)
 ·exact .inr h
theorem Tk.sqz {K:PySem.W.Frag}{H H':Hp}{a:Addr}{xs:List V}(e:Tk H H')(h:SqZ K H a xs):SqZ K H' a xs:=by
 rcases h with h | h
 ·exact .inl (e _ _ h)
 ·exact .inr h
inductive Dv (K:PySem.W.Frag)(H:Hp):Nat->V->Dt->Prop where
 | i {n m}:Dv K H n (.int m) (.i m)
 | s {n x}:Dv K H n (.str x) (.s x)
 | b {n k}:Dv K H n (.bl k) (.b k)
 | n {n}:Dv K H n .non .n
 | t {n a xs ds}:SqZ K H a xs->xs.length=ds.length->(∀ (j:Nat) x d,xs[j]?=some x->ds[j]?=some d->Dv K H n x d)->Dv K H (n+1) (.ref a) (.t ds)
theorem Dv.keep {K:PySem.W.Frag}{H H':Hp}{n:Nat}{v:V}{d:Dt}(h:Dv K H n v d)(k:Tk H H'):Dv K H' n v d:=by
 induction h with
 | i=>exact .i
 | s=>exact .s
 | b=>exact .b
 | n=>exact .n
 | t h1 h2 _ ih=>exact .t (k.sqz h1) h2 ih
theorem Dv.eq {K:PySem.W.Frag}{H:Hp}{n:Nat}{x:V}{d:Dt}(h:Dv K H n x d) : ∀ {m:Nat} {y:V},Dv K H m y d->DEq K H n x y true:=by
 induction h with
 | i=>intro m y k; cases k; exact DEq.self (.inl rfl)
 | s=>intro m y k; cases k; exact DEq.self (.inl rfl)
 | b=>intro m y k; cases k; exact DEq.self (.inl rfl)
 | n=>intro m y k; cases k; exact DEq.self (.inl rfl)
 | @t n a xs ds h1 h2 h3 ih =>
  intro m y k
  cases k with
  | @t m b ys _ k1 k2 k3 =>
   by_cases e:a=b
   ·subst e
    exact .same
   ·have q:=DEq.tup (n:=n) (e:=fun _=>true) e h1.sq k1.sq fun j x y hx hy => ?_
    ·rwa [all_true _ _ (h2.trans k2.symm)] at q
    ·obtain ⟨d,hd⟩ : ∃ d,ds[j]?=some d:=⟨_,List.getElem?_eq_getElem (by have:=(List.getElem?_eq_some_iff.mp hx).1; omega)⟩
     exact ih j x d hx hd (k3 j y d hy hd)
def DL (K:PySem.W.Frag)(H:Hp)(n:Nat)(xs:List V)(ds:List Dt):Prop:=xs.length=ds.length/\∀ (j:Nat) x d,xs[j]?=some x->ds[j]?=some d->Dv K H n x d
theorem DL.nil {K:PySem.W.Frag}{H:Hp}{n:Nat}:DL K H n [] []:=⟨rfl,fun j x d h=>by simp at h⟩
theorem DL.keep {K:PySem.W.Frag}{H H':Hp}{n:Nat}{xs:List V}{ds:List Dt}(h:DL K H n xs ds)(k:Tk H H'):DL K H' n xs ds:=⟨h.1,fun j x d hx hd=>(h.2 j x d hx hd).keep k⟩
theorem DL.cons {K:PySem.W.Frag}{H:Hp}{n:Nat}{x:V}{d:Dt}{xs:List V}{ds:List Dt}(h:Dv K H n x d)(k:DL K H n xs ds):DL K H n (x :: xs) (d :: ds):=by
 refine ⟨by rw [List.length_cons,List.length_cons,k.1],fun j y e hy he => ?_⟩
 cases j with
 | zero =>
  simp at hy he
  subst hy he
  exact h
 | succ j=>exact k.2 j y e (by simpa using hy) (by simpa using he)
theorem DL.append {K:PySem.W.Frag}{H:Hp}{n:Nat}{xs ys:List V}{ds es:List Dt}(h:DL K H n xs ds)(k:DL K H n ys es):DL K H n (xs ++ ys) (ds ++ es):=by
 refine ⟨by rw [List.length_append,List.length_append,h.1,k.1],fun j x d hx hd => ?_⟩
 by_cases hj:j < xs.length
 ·rw [List.getElem?_append_left hj] at hx
  rw [List.getElem?_append_left (by rw [<- h.1]; exact hj)] at hd
  exact h.2 j x d hx hd
 ·rw [List.getElem?_append_right (by omega)] at hx
  rw [List.getElem?_append_right (by rw [<- h.1]; omega),<- h.1] at hd
  exact k.2 _ x d hx hd
theorem DL.snoc {K:PySem.W.Frag}{H:Hp}{n:Nat}{x:V}{d:Dt}{xs:List V}{ds:List Dt}(k:DL K H n xs ds)(h:Dv K H n x d):DL K H n (xs ++ [x]) (ds ++ [d]):=k.append (.cons h .nil)
theorem Dv.tup {K:PySem.W.Frag}{H:Hp}{n:Nat}{a:Addr}{xs:List V}{ds:List Dt}(h:SqZ K H a xs)(k:DL K H n xs ds):Dv K H (n+1) (.ref a) (.t ds):=.t h k.1 k.2
def rEqDL (K:PySem.W.Frag):R2:=fun x y H Q=>∃ a b xs ys ds,x = .ref a/\y = .ref b/\SqL K H a xs/\SqL K H b ys/\DL K H 40 xs ds/\DL K H 40 ys ds/\Q (.bl true) H
def rNeDL (K:PySem.W.Frag):R2:=fun x y H Q=>∃ a b xs ys ds,x = .ref a/\y = .ref b/\SqL K H a xs/\SqL K H b ys/\DL K H 40 xs ds/\DL K H 40 ys ds/\Q (.bl false) H
def rEqDT (K:PySem.W.Frag):R2:=fun x y H Q=>∃ a b xs ys ds,x = .ref a/\y = .ref b/\SqT K H a xs/\SqT K H b ys/\DL K H 40 xs ds/\DL K H 40 ys ds/\Q (.bl true) H
def rNeDT (K:PySem.W.Frag):R2:=fun x y H Q=>∃ a b xs ys ds,x = .ref a/\y = .ref b/\SqT K H a xs/\SqT K H b ys/\DL K H 40 xs ds/\DL K H 40 ys ds/\Q (.bl false) H
section
variable {X:Cx}
end
end L2
namespace L2
open PySem PySem.Spec PyProof.Rows
theorem closure_go {env:Env} : ∀ (names:List (Str × NameKind)) (acc:List (Str × Addr)),(∀ y ∈ names,y.2=NameKind.free->∃ c,env.cells.lookup y.1=some c)->(∀ x c,acc.lookup x=some c->env.cells.lookup x=some c) ->
  ∃ cl,(forIn (m:=Sem) names acc (fun x r=>do if (x.2 == NameKind.free)=true then do let c <- cellOf env x.1; pure (ForInStep.yield ((x.1,c) :: r)) else pure (ForInStep.yield r)))=pure cl /\
   (∀ x c,cl.lookup x=some c->env.cells.lookup x=some c)/\(∀ y ∈ names,y.2=NameKind.free->∃ c,cl.lookup y.1=some c)/\∀ x,(∃ c,acc.lookup x=some c)->∃ c,cl.lookup x=some c
 | [],acc,_,h2=>⟨acc,rfl,h2,(fun y hy=>by simp at hy),fun _ h=>h⟩
 | y :: r,acc,h1,h2=>by
  by_cases e:y.2=NameKind.free
  ·obtain ⟨c,hc⟩:=h1 y List.mem_cons_self e
   obtain ⟨cl,e1,e2,e3,e4⟩:=closure_go r ((y.1,c) :: acc) (fun z hz=>h1 z (List.mem_cons_of_mem _ hz)) (fun x d hx=>by
    rw [List.lookup_cons] at hx
    split at hx
    ·rename_i hb
     have:x=y.1:=eq_of_beq hb
     rw [this,hc]
     exact hx
    ·exact h2 x d hx)
   refine ⟨cl,?_,e2,fun z hz ez => ?_,fun x hx=>e4 x ?_⟩
   ·rw [List.forIn_cons,if_pos (by rw [e]; rfl)]
    unfold cellOf
    rw [hc]
    simp only [pure_bind]
    exact e1
   ·rcases List.mem_cons.mp hz with rfl | hz
    ·exact e4 z.1 ⟨c,by rw [List.lookup_cons,beq_self_eq_true]⟩
    ·exact e3 z hz ez
   ·obtain ⟨d,hd⟩:=hx
    rw [List.lookup_cons]
    split
    ·exact ⟨c,rfl⟩
    ·exact ⟨d,hd⟩
  ·obtain ⟨cl,e1,e2,e3,e4⟩:=closure_go r acc (fun z hz=>h1 z (List.mem_cons_of_mem _ hz)) h2
   refine ⟨cl,?_,e2,fun z hz ez => ?_,e4⟩
   ·rw [List.forIn_cons,if_neg (by intro z; exact e (eq_of_beq z))]
    simp only [pure_bind]
    exact e1
   ·rcases List.mem_cons.mp hz with rfl | hz
    ·exact absurd ez e
    ·exact e3 z hz ez
theorem closure_ok {scope:Scope}{env:Env}(h : ∀ y ∈ scope.names,y.2=NameKind.free->∃ c,env.cells.lookup y.1=some c) :
  ∃ cl,closureFor scope env=pure cl/\(∀ x c,cl.lookup x=some c->env.cells.lookup x=some c)/\∀ y ∈ scope.names,y.2=NameKind.free->∃ c,cl.lookup y.1=some c:=by
 obtain ⟨cl,e1,e2,e3,_⟩:=closure_go (env:=env) scope.names [] h (fun x c e=>by simp at e)
 refine ⟨cl,?_,e2,e3⟩
 simp only [closureFor]
 rw [show (forIn (m:=Sem) scope.names [] fun x r=>if (x.2 == NameKind.free)=true then (do let c <- cellOf env x.1; pure (ForInStep.yield ((x.1,c) :: r))) else pure (ForInStep.yield r))=pure cl from e1]
 rfl
theorem relabel_from {scope:Scope}{env:Env}{x:Str}(hc : ∀ y ∈ scope.names,y.2 ≠ NameKind.cell)(h:(relabel scope env).names.lookup x=some .cell\/(relabel scope env).names.lookup x=some .free) : ∃ y ∈ scope.names,y.1=x/\y.2=NameKind.free:=by
 have e' : ∃ k,(k=NameKind.cell\/k=NameKind.free)/\(relabel scope env).names.lookup x=some k:=by
  rcases h with e | e
  ·exact ⟨_,.inl rfl,e⟩
  ·exact ⟨_,.inr rfl,e⟩
 obtain ⟨k,hk,e⟩:=e'
 have hm:=PySem.mem_of_lookup e
 obtain ⟨y,hy,hy2⟩:=List.mem_map.mp hm
 obtain ⟨n,kk⟩:=y
 have hn:=hc _ hy
 simp only at hy2 hn
 split at hy2
 ·rename_i hf
  injection hy2 with a1 a2
  subst a1
  simp only [Bool.and_eq_true] at hf
  exact ⟨(n,kk),hy,rfl,eq_of_beq hf.1.1⟩
 ·injection hy2 with a1 a2
  subst a1 a2
  rcases hk with rfl | rfl
  ·exact absurd rfl hn
  ·exact ⟨_,hy,rfl,rfl⟩
theorem clOk_of {X:Cx}(ok:X.Ok){scope:Scope}(hc : ∀ y ∈ scope.names,y.2 ≠ NameKind.cell)(h : ∀ y ∈ scope.names,y.2=NameKind.free->X.env.kindOf y.1=some .cell\/X.env.kindOf y.1=some .free) : ∃ cl,ClOk X scope cl:=by
 obtain ⟨cl,e1,e2,e3⟩:=closure_ok (scope:=scope) (env:=X.env) fun y hy ey=>ok.has y.1 (h y hy ey)
 refine ⟨cl,e1,e2,fun x hx => ?_⟩
 obtain ⟨y,hy,rfl,ey⟩:=relabel_from hc hx
 exact e3 y hy ey
theorem pe_compC {X:Cx}{elt tg iter:Expr}{ifs:List Expr}{scope:Scope}{pos:Pos}{N':List Str}{wi:TI}{g:TG}{tt:TT}{te:TE}(σf:St->St)
  (hc:X.calm=true) (hkind:scope.kind = .function) (hcell : ∀ y ∈ scope.names,y.2 ≠ .cell) (hnames : ∀ y ∈ scope.names,y.2 = .local->scope.names.lookup y.1=some .local)
  (hk : ∀ y ∈ scope.names,y.2=NameKind.free->X.env.kindOf y.1=some .cell\/X.env.kindOf y.1=some .free)
  (hN : ∀ cl (σ:St),σ.length=X.N.length->BlkN X N' scope cl σ (σf σ)) (hi:PI X tg iter wi)
  (hg : ∀ cl C s₀ H₀ ex pn,PG (blk X N' scope cl C s₀ H₀ ex pn) tg g) (ht : ∀ cl C s₀ H₀ ex pn,PIfs (blk X N' scope cl C s₀ H₀ ex pn) ifs tt) (he : ∀ cl C s₀ H₀ ex pn,PE (blk X N' scope cl C s₀ H₀ ex pn) elt te)
  (hs : ∀ x,foldedSetIterable iter X.env x=pure x:=by intro _; rfl):PE X (.ListComp elt [⟨tg,iter,ifs,0⟩] scope pos) (tComp σf wi g tt te):=by
 intro pins s σ H Q I h
 obtain ⟨cl,hcl⟩:=clOk_of I.ok hcell hk
 exact pe_comp σf hc hkind hcell hnames hcl (hN cl) hi (hg cl) (ht cl) (he cl) hs pins s σ H Q I h
theorem hk_of {X:Cx}{scope sc:Scope}(hs:X.env.scope=sc)(h:(scope.names.all fun y=>y.2 != NameKind.free || sc.names.lookup y.1 == some NameKind.cell || sc.names.lookup y.1 == some NameKind.free)=true) :
  ∀ y ∈ scope.names,y.2=NameKind.free->X.env.kindOf y.1=some .cell\/X.env.kindOf y.1=some .free:=fun y hy ey=>by
 have q:=List.all_eq_true.mp h y hy
 unfold Env.kindOf
 rw [hs]
 rw [ey] at q
 simp only [bne_self_eq_false,Bool.false_or,Bool.or_eq_true] at q
 rcases q with q | q
 ·exact .inl (eq_of_beq q)
 ·exact .inr (eq_of_beq q)
theorem lookup_relabel_free {env:Env}{x:Str}(hk:env.scope.kind = .function)(hx:env.kindOf x=some .cell) : ∀ {names:List (Str × NameKind)},names.lookup x=some .free ->
    (names.map fun (n,k)=>if (k == NameKind.free && env.scope.kind == .function && env.kindOf n == some .cell) then (n,NameKind.cell) else (n,k)).lookup x=some .cell
  | [],h=>by simp at h
  | (n,k) :: r,h=>by
    rw [List.map_cons]
    rw [List.lookup_cons] at h
    by_cases e:(x == n)=true
    · rw [e] at h
      have e':x=n:=eq_of_beq e
      subst e'
      have hf:k=NameKind.free:=Option.some.inj h
      subst hf
      have c:(NameKind.free == NameKind.free && env.scope.kind == .function && env.kindOf x == some .cell)=true:=by rw [hk,hx]; rfl
      rw [show (match ((x,NameKind.free):Str × NameKind) with | (n,k)=>if (k == NameKind.free && env.scope.kind == .function && env.kindOf n == some .cell)=true then (n,NameKind.cell) else (n,k))=(x,NameKind.cell) from if_pos c]
      rw [List.lookup_cons,beq_self_eq_true]
    · have e0:(x == n)=false:=by simpa using e
      rw [e0] at h
      have ih:=lookup_relabel_free hk hx h
      have en : ∀ q:Str × NameKind,q.1=n->(q :: (r.map fun (n,k)=>if (k == NameKind.free && env.scope.kind == .function && env.kindOf n == some .cell) then (n,NameKind.cell) else (n,k))).lookup x=some .cell:=fun q hq=>by
        obtain ⟨q1,q2⟩:=q
        simp only at hq
        subst hq
        rw [List.lookup_cons,e0]
        exact ih
      refine en _ ?_
      show (if _ then (n,NameKind.cell) else (n,k)).1=n
      split <;> rfl
theorem blkN_by {X:Cx}{N' N:List Str}{scope sc:Scope}{cl:List (Str × Addr)}{σ:St}(ts:List (Option Nat))(hN:X.N=N)(hsc:X.env.scope=sc)(hl:ts.length=N'.length)(hk:sc.kind = .function)
  (h:((ts.zip N').all fun p=>match p.1 with | none=>true | some j=>N[j]? == some p.2 && sc.names.lookup p.2 == some NameKind.cell && scope.names.lookup p.2 == some NameKind.free)=true) :
  BlkN X N' scope cl σ (ts.map fun t=>t.bind fun j=>(σ[j]?).join):=by
 refine ⟨by rw [List.length_map,hl],fun i x v h1 h2 => ?_⟩
 rw [List.getElem?_map] at h2
 cases ht:ts[i]? with
 | none=>rw [ht] at h2; cases h2
 | some t =>
  rw [ht] at h2
  have h2':(t.bind fun j=>(σ[j]?).join)=some v:=Option.some.inj h2
  cases t with
  | none=>cases h2'
  | some j =>
   have hm:(some j,x) ∈ ts.zip N':=List.mem_of_getElem? (by rw [List.getElem?_zip_eq_some]; exact ⟨ht,h1⟩:(ts.zip N')[i]?=some (some j,x))
   have q:=List.all_eq_true.mp h _ hm
   simp only [Bool.and_eq_true] at q
   obtain ⟨⟨q1,q2⟩,q3⟩:=q
   have q1':=eq_of_beq q1
   have q2':=eq_of_beq q2
   have q3':=eq_of_beq q3
   have kd:X.env.kindOf x=some .cell:=by
    unfold Env.kindOf
    rw [hsc]
    exact q2'
   refine ⟨j,by rw [hN]; exact q1',?_,by rw [hsc]; exact .inr (.inl q2'),(by rw [kd]; decide),.inl (lookup_relabel_free (by rw [hsc]; exact hk) kd q3')⟩
   have h3:(σ[j]?).join=some v:=h2'
   cases hj:σ[j]? with
   | none=>rw [hj] at h3; cases h3
   | some o=>rw [hj] at h3; cases o with
    | none=>cases h3
    | some u=>cases h3; rfl
end L2
namespace L2
open PySem PySem.Spec PyProof.Rows
theorem ps_comp {X:Cx}{iy:Nat}{y:Str}{py spos:Pos}{elt tg iter:Expr}{ifs:List Expr}{scope:Scope}{pos:Pos}{N':List Str}{cl:List (Str × Addr)}{wi:TI}{g:TG}{tt:TT}{te:TE}(σf:St->St)
  (hc:X.calm=true) (hkind:scope.kind = .function) (hcell : ∀ y ∈ scope.names,y.2 ≠ .cell) (hnames : ∀ y ∈ scope.names,y.2 = .local->scope.names.lookup y.1=some .local) (hcl:ClOk X scope cl)
  (hN : ∀ σ:St,σ.length=X.N.length->BlkN X N' scope cl σ (σf σ)) (hi:PI X tg iter wi)
  (hg : ∀ C s₀ H₀ ex pn,PG (blk X N' scope cl C s₀ H₀ ex pn) tg g) (ht : ∀ C s₀ H₀ ex pn,PIfs (blk X N' scope cl C s₀ H₀ ex pn) ifs tt) (he : ∀ C s₀ H₀ ex pn,PE (blk X N' scope cl C s₀ H₀ ex pn) elt te)
  (hnd:X.N.Nodup) (hiy:X.N[iy]?=some y) (hy:Loc X.env.scope y) (hfy:X.fn y=true\/X.env.scope.names.lookup y=some .local)
  (hsw:swapsWith (.ListComp elt [⟨tg,iter,ifs,0⟩] scope pos) (some (.Name y py)) spos.line X.env=pure true)
  (hs : ∀ x,foldedSetIterable iter X.env x=pure x:=by intro _; rfl):PS X (.Assign [.Name y py] (.ListComp elt [⟨tg,iter,ifs,0⟩] scope pos) spos) (tAsg (tComp σf wi g tt te) (gName iy)):=by
 intro pins s σ H Dn I h
 rw [exec_Assign_Name_used _ _ _ _ hsw]
 refine wpAny_bind (wpAny_standAt (wpAny_bind ?_))
 show wpAny _ X.A (do let _ <- comprehension (.ListComp elt [⟨tg,iter,ifs,0⟩] scope pos) scope X.env _ (newList []) false (eval iter X.env) (some (assign (.Name y py) X.env))) _ _ s
 refine wpAny_bind (wpAny_mono (wpAny_comprehension_free (use:=some (assign (.Name y py) X.env)) (Q:=fun _ s'=>SP X pins Dn .next s') rfl hs hcl.run hkind hnames
  (thn (hi pins s σ H _ I h) fun v s1 h1=>thn h1 fun itv s2 h2 => ?_)) (fun _ s' hq=>wpAny_pure (wpAny_pure hq)) fun _ _ e=>e)
 obtain ⟨it,fp,tn,J,H2,rfl,I2,T,st2,f2,q⟩:=h2
 refine wpAny_newObj_type (wpAny_newFunctionEnv hcell (by intro y hy; simp at hy) (fun h₁ hns₁ hsb₁ => ?_) hkind)
 dsimp only at hns₁ hsb₁ ⊢
 have hfo : ∀ b ∈ fp,b < s2.heap.objs.size:=fun b hb=>by
  obtain ⟨o,e,_⟩:=T.obj _ _ st2 b hb
  exact Heap.lt_size e
 have hDf:H2 s2.heap.objs.size=none:=I2.hok.fresh (Nat.le_refl _)
 obtain ⟨W,⟨m0,w0⟩,turn⟩:=q s2.heap.objs.size hDf
 have I3:Inv X pins σ (upd H2 s2.heap.objs.size (.lst [])) { s2 with heap:=s2.heap.push { cls:=.type "list",data:=.seq ([]:List Value).toArray } }:=I2.lnew (its:=[]) (t':=s2.toks) .nil (Nat.zero_le _)
 have f3 : ∀ b ∈ fp,FpOk X pins (upd H2 s2.heap.objs.size (.lst [])) b:=fun b hb=>⟨by rw [upd_ne (Nat.ne_of_lt (hfo b hb))]; exact (f2 b hb).1,(f2 b hb).2⟩
 generalize hD:s2.heap.objs.size=D at *
 generalize hs3:({ s2 with heap:=s2.heap.push { cls:=.type "list",data:=.seq ([]:List Value).toArray } }:Shared)=s3 at *
 have hh3:s3.heap=s2.heap.push { cls:=.type "list",data:=.seq ([]:List Value).toArray }:=by rw [<- hs3]
 have hsz3:s2.heap.objs.size < s3.heap.objs.size:=by rw [hh3,Heap.size_push]; exact Nat.lt_succ_self _
 have e3 : ∀ h t,({ s2 with heap:=h,toks:=t }:Shared)={ s3 with heap:=h,toks:=t }:=fun h t=>by rw [<- hs3]
 rw [<- hh3] at hns₁ hsb₁ ⊢
 have hk3 : ∀ b o,s3.heap.get? b=some o->h₁.get? b=some o:=fun b o e=>hsb₁.extBut b o (Nat.ne_of_lt (Heap.lt_size e)) (Heap.get?_push_of_some _ e)
 have I4:=blk_start (t':=s3.toks) I3 hkind hcl (hN σ I.len) f3 (fun b hb=>Nat.lt_trans (hfo b hb) (hD ▸ hsz3)) (hns:=by simpa using hns₁) hk3
 generalize hB:blk X N' scope cl s3.heap.objs.size s3 (upd H2 D (.lst [])) fp (X.pn ++ pins)=B at *
 have hBp:B.prog=X.prog:=by rw [<- hB]; rfl
 have hBw:B.w=X.w:=by rw [<- hB]; rfl
 have hBK:B.K=X.K:=by rw [<- hB]; rfl
 have hBA:B.A=X.A:=by rw [<- hB]; rfl
 have hBc:B.calm=true:=by rw [<- hB]; exact hc
 have hBe:B.env=compEnvC scope cl s3.heap.objs.size X.env:=by rw [<- hB]; rfl
 have hBx:B.xe=fun _ _=>False:=by rw [<- hB]; rfl
 have hGB:PG B tg g:=hB ▸ hg _ _ _ _ _
 have hTB:PIfs B ifs tt:=hB ▸ ht _ _ _ _ _
 have hEB:PE B elt te:=hB ▸ he _ _ _ _ _
 have stat : ∀ {H':Hp},(∀ b ∈ fp,H' b=none)->∀ b ∈ fp,FpOk B [] H' b:=fun {H'} hn b hb=>by
  obtain ⟨f0,f1,f2',f3',f4,f5⟩:=f3 b hb
  rw [<- hB]
  refine ⟨hn b hb,Nat.ne_of_lt (Nat.lt_trans (hfo b hb) (hD ▸ hsz3)),fun z => ?_,.inl hb,fun x c e=>f4 x c (hcl.sub x c e),fun p hp => ?_⟩
  ·rcases List.mem_cons.mp (I.stkSub b z) with z | z
   ·exact f1 z
   ·exact f2' z
  ·rw [show (blk X N' scope cl s3.heap.objs.size s3 (upd H2 D (.lst [])) fp (X.pn ++ pins)).pn=X.pn ++ pins from rfl,List.append_nil] at hp
   exact f5 p hp
 have loop : ∀ s4:Shared,Inv B [] (σf σ) (upd H2 D (.lst [])) s4->tn 0 s4.heap ->
   codeAny (model X.prog X.w) X.A (.compLoop (.ListComp elt [⟨tg,iter,ifs,0⟩] scope pos) 0 (.ref it) (.ref D) (compEnvC scope cl s3.heap.objs.size X.env)) (compPost (model X.prog X.w) X.A X.xe (some (assign (.Name y py) X.env)) (fun _ s'=>SP X pins Dn .next s') (.ref D) s3.heap.objs.size) s4:=by
  intro s4 I4 st4
  refine compLoop_gen (I:=fun n s'=>∃ i ys H',Inv B [] (σf σ) H' s'/\tn i s'.heap/\(∀ b ∈ fp,H' b=none)/\W i n ys H') ?_ m0 ⟨0,[],_,I4,st4,fun b hb=>(f3 b hb).1,w0⟩
  rintro n s5 ⟨i,ys,H5,I5,st5,fr5,w5⟩
  obtain ⟨hD5,hlen5,alt⟩:=turn i n ys H5 w5
  rcases alt with ⟨stop,qn⟩ | ⟨go,step⟩
  ·have z:=T.done B hBp hBw hBK hBc i [] s5 (σf σ) H5 (fun _ _=>False) I5 (stat fr5) st5 stop
   rw [hBA] at z
   refine thn z fun r s6 ⟨hr,I6⟩ => ?_
   subst hr
   obtain ⟨m6,hn6,_⟩:=I6.loc
   rw [hBe] at hn6
   subst hB
   have I6x:Inv X pins σ H5 s6:=blk_end I3 f3 I6 (h'':=s6.heap) ⟨rfl,fun _ _=>rfl⟩
   have fC:FpOk X pins H5 s3.heap.objs.size:=I3.fpOk (Nat.le_refl _) I6.free
   obtain ⟨g0,g1,g2,g3,g4,g5⟩:=id fC
   obtain ⟨oC,es,ep,hoC,hdC,rest⟩:=hn6
   have I6p:=I6x.pinned (fp:=[s3.heap.objs.size]) (fun b hb=>by rw [List.mem_singleton.mp hb]; exact fC) (fun b hb=>⟨oC,by rw [List.mem_singleton.mp hb]; exact hoC,fun v e=>by rw [hdC] at e; cases e⟩)
   show wpAny (model X.prog X.w) X.A (assign (.Name y py) X.env (.ref D)) _ X.xe s6
   refine thn (pg_name (i:=iy) (pos:=py) hnd hiy hy hfy _ s6 σ H5 (.ref D) (.ref D) (fun σ' H'=>Dn.nx σ' H') I6p rfl qn) fun _ s7 ⟨σ7,H7,I7,q7⟩ => ?_
   have pc:=I7.pin (s3.heap.objs.size,oC) (List.mem_append_right _ (List.mem_append_right _ (mem_pinsAt (by simp) hoC)))
   refine ⟨m6,⟨oC,es,ep,pc.1,hdC,rest⟩,fun h' hs'=>⟨σ7,H7,?_,q7⟩⟩
   exact I7.unpinned.turned (t':=s7.toks) (fun b o hb e=>hs'.extBut b o hb e) pc.2.1 g1 g3 g4 g5
  ·have z:=T.item B hBp hBw hBK hBc i [] s5 (σf σ) H5 (fun _ _=>False) I5 (stat fr5) st5 go
   rw [hBA] at z
   refine thn z fun r s6 ⟨u,hr,h6⟩ => ?_
   subst hr
   refine thn h6 fun _ s7 ⟨x,H7,I7,r7,y7,st7,fr7⟩ => ?_
   have I7':=I7.pinned (stat fr7) (T.obj _ _ st7)
   have z8:=hGB _ s7 (σf σ) H7 x u _ I7' r7 (step x H7 y7)
   rw [hBp,hBw,hBA,hBe,hBx] at z8
   refine thn z8 fun _ s8 ⟨σ8,H8,I8,k8,q8⟩ => ?_
   have z9:=hTB _ s8 σ8 H8 _ I8 q8
   rw [hBp,hBw,hBA,hBe,hBx] at z9
   refine thn z9 fun ok s9 ⟨H9,I9,q9⟩ => ?_
   have again : ∀ {ys':List V} {H':Hp} {s':Shared},Inv B ([] ++ pinsAt fp s7.heap) σ8 H' s'->(∃ m',m' < n/\W (i+1) m' ys' H')->∃ m,m < n/\∃ i ys H',Inv B [] (σf σ) H' s'/\tn i s'.heap/\(∀ b ∈ fp,H' b=none)/\W i m ys H':=fun {ys' H' s'} J ⟨m',hm,w'⟩=>by
    refine ⟨m',hm,i+1,ys',H',J.unpinned.weak k8.len.symm k8.at',T.keep _ _ _ st7 fun b hb o e=>(J.pin (b,o) (List.mem_append_right _ (List.mem_append_right _ (mem_pinsAt hb e)))).1,fun b hb => ?_,w'⟩
    obtain ⟨o,e,d⟩:=T.obj _ _ st7 b hb
    exact (J.pin (b,o) (List.mem_append_right _ (List.mem_append_right _ (mem_pinsAt hb e)))).2.1
   cases ok with
   | false=>exact again I9 q9
   | true =>
    have z10:=hEB _ s9 σ8 H9 _ I9 q9
    rw [hBp,hBw,hBA,hBe,hBx] at z10
    refine thn z10 fun y10 s10 ⟨y,H10,I10,r10,hD10,q10⟩ => ?_
    have z11:=mt_append (X:=B) _ s10 σ8 H10 (.ref D) [y] (.ref D) [y10] (fun _ H'=>∃ m',m' < n/\W (i+1) m' (ys ++ [y]) H') I10 rfl (.cons r10 .nil) ⟨D,ys,y,rfl,rfl,hD10,hlen5,q10⟩
    rw [hBp,hBw,hBA,hBx] at z11
    refine thn z11 fun _ s11 ⟨_,H11,I11,_,q11⟩=>again I11 q11
 have st4:tn 0 ({ s3 with heap:=h₁,toks:=s3.toks }:Shared).heap:=T.keep _ _ _ st2 fun b hb o e=>hk3 b o (by rw [hh3]; exact Heap.get?_push_of_some _ e)
 have L4:=loop _ I4 st4
 subst hs3
 exact codeAny_compStart_list L4 (T.self _ 0 _ _ _ st4 L4)
theorem ps_compC {X:Cx}{iy:Nat}{y:Str}{py spos:Pos}{elt tg iter:Expr}{ifs:List Expr}{scope:Scope}{pos:Pos}{N':List Str}{wi:TI}{g:TG}{tt:TT}{te:TE}(σf:St->St)
  (hc:X.calm=true) (hkind:scope.kind = .function) (hcell : ∀ y ∈ scope.names,y.2 ≠ .cell) (hnames : ∀ y ∈ scope.names,y.2 = .local->scope.names.lookup y.1=some .local)
  (hk : ∀ y ∈ scope.names,y.2=NameKind.free->X.env.kindOf y.1=some .cell\/X.env.kindOf y.1=some .free)
  (hN : ∀ cl (σ:St),σ.length=X.N.length->BlkN X N' scope cl σ (σf σ)) (hi:PI X tg iter wi)
  (hg : ∀ cl C s₀ H₀ ex pn,PG (blk X N' scope cl C s₀ H₀ ex pn) tg g) (ht : ∀ cl C s₀ H₀ ex pn,PIfs (blk X N' scope cl C s₀ H₀ ex pn) ifs tt) (he : ∀ cl C s₀ H₀ ex pn,PE (blk X N' scope cl C s₀ H₀ ex pn) elt te)
  (hnd:X.N.Nodup) (hiy:X.N[iy]?=some y) (hy:Loc X.env.scope y) (hfy:X.fn y=true\/X.env.scope.names.lookup y=some .local)
  (hsw:swapsWith (.ListComp elt [⟨tg,iter,ifs,0⟩] scope pos) (some (.Name y py)) spos.line X.env=pure true)
  (hs : ∀ x,foldedSetIterable iter X.env x=pure x:=by intro _; rfl):PS X (.Assign [.Name y py] (.ListComp elt [⟨tg,iter,ifs,0⟩] scope pos) spos) (tAsg (tComp σf wi g tt te) (gName iy)):=by
 intro pins s σ H D I h
 obtain ⟨cl,hcl⟩:=clOk_of I.ok hcell hk
 exact ps_comp σf hc hkind hcell hnames hcl (hN cl) hi (hg cl) (ht cl) (he cl) hnd hiy hy hfy hsw hs pins s σ H D I h
end L2
namespace L2
open PySem PySem.Spec PyProof.Rows
structure Ys (J:It)(xs:List V)(H1:Hp):Prop where
 go : ∀ i H,Same H1 H->i < xs.length->J.go i H
 yld : ∀ i H x H',Same H1 H->i < xs.length->J.yld i H x H'->H'=H/\xs[i]?=some x
 stop : ∀ i H,Same H1 H->xs.length<=i->J.stop i H
theorem Ys.list {K:PySem.W.Frag}{a:Addr}{xs:List V}{H1:Hp}(h:SqL K H1 a xs):Ys (Itl K a) xs H1 where
 go:=fun i H s hi=>⟨xs,xs[i],s.seq h,List.getElem?_eq_getElem hi⟩
 yld:=fun i H x H' s _ y=>⟨y.1,y.2 xs (s.seq h)⟩
 stop:=fun i H s hi=>⟨xs,s.seq h,hi⟩
def rngV (lo:Int)(n:Nat):List V:=(List.range n).map fun (i:Nat)=>V.int (lo+(i:Int))
theorem rngV_len (lo:Int)(n:Nat):(rngV lo n).length=n:=by unfold rngV; rw [List.length_map,List.length_range]
theorem rngV_get {lo:Int}{n i:Nat}{x:V}(h:(rngV lo n)[i]?=some x):i < n/\x = .int (lo+i):=by
 have hi:i < n:=by rw [<- rngV_len lo n]; exact (List.getElem?_eq_some_iff.mp h).1
 unfold rngV at h
 rw [List.getElem?_map,List.getElem?_range hi] at h
 exact ⟨hi,(Option.some.inj h).symm⟩
theorem Ys.rng {lo:Int}{n:Nat}{H1:Hp}:Ys (Itr lo n) (rngV lo n) H1 where
 go:=fun i H _ hi=>by rw [rngV_len] at hi; exact hi
 yld:=fun i H x H' _ hi y=>⟨y.1,by
  obtain ⟨_,rfl⟩:=y
  rw [rngV_len] at hi
  unfold rngV
  rw [List.getElem?_map,List.getElem?_range hi]
  rfl⟩
 stop:=fun i H _ hi=>by rw [rngV_len] at hi; exact hi
theorem snoc_get {α:Type}{ys:List α}{y z:α}{j:Nat}(h:(ys ++ [y])[j]?=some z):(j < ys.length/\ys[j]?=some z)\/(j=ys.length/\z=y):=by
 by_cases hj:j < ys.length
 ·rw [List.getElem?_append_left hj] at h
  exact .inl ⟨hj,h⟩
 ·rw [List.getElem?_append_right (by omega)] at h
  have e0:j - ys.length=0:=by
   cases hz:j - ys.length with
   | zero=>rfl
   | succ n=>rw [hz] at h; simp at h
  rw [e0] at h
  exact .inr ⟨by omega,by simpa using h.symm⟩
theorem comp_rel {J:It}{xs:List V}{D:Addr}{g:TG}{te:TE}{σ0:St}{QD:Hp->Prop}{H1:Hp}(Y:Ys J xs H1)(Pr:Nat->V->V->Hp->Prop)(hP : ∀ i x y H H',Pr i x y H->Tk H H'->Pr i x y H')(hD:H1 D=none)(hl:xs.length<=1000)
  (hs : ∀ i x H' (R:VK),xs[i]?=some x->Same H1 H'->(∀ y H4,Same H' H4->Pr i x y H4->R y H4)->g x σ0 H' fun σ2 H2=>Keep σ0 σ2/\te σ2 H2 R)
  (hd : ∀ ys H',Same H1 H'->H' D=some (.lst ys)->ys.length=xs.length->(∀ i x y,xs[i]?=some x->ys[i]?=some y->Pr i x y H')->QD H') :
  ∃ W:Nat->Nat->List V->Hp->Prop,(∃ m,W 0 m [] (upd H1 D (.lst [])))/\∀ i m ys H,W i m ys H->H D=some (.lst ys)/\ys.length < sizeLine /\
   ((J.stop i H/\QD H)\/(J.go i H/\∀ x H',J.yld i H x H'->g x σ0 H' fun σ2 H2=>Keep σ0 σ2/\tNoIf σ2 H2 fun b H3 =>
    if b=true then te σ2 H3 fun y H4=>H4 D=some (.lst ys)/\∃ m',m' < m/\W (i+1) m' (ys ++ [y]) (upd H4 D (.lst (ys ++ [y]))) else ∃ m',m' < m/\W (i+1) m' ys H3)):=by
 refine ⟨fun i m ys H=>m=xs.length - i/\i<=xs.length/\Same H1 H/\H D=some (.lst ys)/\ys.length=i/\∀ j x y,xs[j]?=some x->ys[j]?=some y->Pr j x y H,
  ⟨_,rfl,Nat.zero_le _,Same.upd hD,upd_same,rfl,fun j x y _ h=>by simp at h⟩,?_⟩
 rintro i m ys H ⟨rfl,hi,sm,hDH,yl,pr⟩
 refine ⟨hDH,small1000 (by omega),?_⟩
 by_cases hlt:i < xs.length
 ·refine .inr ⟨Y.go i H sm hlt,fun x H' y => ?_⟩
  obtain ⟨rfl,hx⟩:=Y.yld i H x H' sm hlt y
  refine hs i x H' _ hx sm fun y H4 s4 py => ?_
  have hD4:=s4 _ _ hDH
  have tk:Tk H4 (upd H4 D (.lst (ys ++ [y]))):=Tk.lst hD4
  refine ⟨hD4,xs.length - (i+1),by omega,rfl,hlt,fun b o hb => ?_,upd_same,by rw [List.length_append,yl]; rfl,fun j x' y' hx' hy' => ?_⟩
  ·rw [upd_ne (ne_of_none hb hD)]
   exact s4 _ _ (sm _ _ hb)
  ·rcases snoc_get hy' with ⟨_,hy'⟩ | ⟨e,e'⟩
   ·exact hP _ _ _ _ _ (hP _ _ _ _ _ (pr j x' y' hx' hy') (Same.tk s4)) tk
   ·subst e'
    have:j=i:=by omega
    subst this
    rw [hx] at hx'
    cases hx'
    exact hP _ _ _ _ _ py tk
 ·have e:i=xs.length:=by omega
  subst e
  exact .inl ⟨Y.stop _ H sm (Nat.le_refl _),hd ys H sm hDH yl pr⟩
theorem ix_listK {X:Cx}{K:PySem.W.Frag}(h:X.K=K):IxR X (rIxL K):=h ▸ ix_list
theorem comp_filt {J:It}{xs:List V}{D:Addr}{g:TG}{tt:TT}{te:TE}{σ0:St}{QD:Hp->Prop}{H1:Hp}(Y:Ys J xs H1)(p:V->Bool)(Pr:V->V->Hp->Prop)(hP : ∀ x y H H',Pr x y H->Tk H H'->Pr x y H')(hD:H1 D=none)(hl:xs.length<=1000)
  (hs : ∀ (i:Nat) x H' (R1:VK) (R2:Hp->Prop),xs[i]?=some x->Same H1 H'->(p x=true->∀ y H4,Same H' H4->Pr x y H4->R1 y H4)->(p x=false->∀ H4,Same H' H4->R2 H4)->g x σ0 H' fun σ2 H2=>Keep σ0 σ2/\tt σ2 H2 fun b H3=>if b=true then te σ2 H3 R1 else R2 H3)
  (hd : ∀ ys H',Same H1 H'->H' D=some (.lst ys)->ys.length=(xs.filter p).length->(∀ (i:Nat) x y,(xs.filter p)[i]?=some x->ys[i]?=some y->Pr x y H')->QD H') :
  ∃ W:Nat->Nat->List V->Hp->Prop,(∃ m,W 0 m [] (upd H1 D (.lst [])))/\∀ i m ys H,W i m ys H->H D=some (.lst ys)/\ys.length < sizeLine /\
   ((J.stop i H/\QD H)\/(J.go i H/\∀ x H',J.yld i H x H'->g x σ0 H' fun σ2 H2=>Keep σ0 σ2/\tt σ2 H2 fun b H3 =>
    if b=true then te σ2 H3 fun y H4=>H4 D=some (.lst ys)/\∃ m',m' < m/\W (i+1) m' (ys ++ [y]) (upd H4 D (.lst (ys ++ [y]))) else ∃ m',m' < m/\W (i+1) m' ys H3)):=by
 refine ⟨fun i m ys H=>m=xs.length - i/\i<=xs.length/\Same H1 H/\H D=some (.lst ys)/\ys.length=((xs.take i).filter p).length/\∀ (j:Nat) x y,((xs.take i).filter p)[j]?=some x->ys[j]?=some y->Pr x y H,
  ⟨_,rfl,Nat.zero_le _,Same.upd hD,upd_same,rfl,fun j x y _ h=>by simp at h⟩,?_⟩
 rintro i m ys H ⟨rfl,hi,sm,hDH,yl,pr⟩
 have yl':ys.length<=xs.length:=by
  rw [yl]
  exact Nat.le_trans (List.length_filter_le _ _) (by rw [List.length_take]; omega)
 refine ⟨hDH,small1000 (by omega),?_⟩
 by_cases hlt:i < xs.length
 ·refine .inr ⟨Y.go i H sm hlt,fun x H' y => ?_⟩
  obtain ⟨rfl,hx⟩:=Y.yld i H x H' sm hlt y
  have et:xs.take (i+1)=xs.take i ++ [x]:=by rw [List.take_add_one,hx]; rfl
  refine hs i x H' _ _ hx sm (fun px y H4 s4 py => ?_) (fun px H4 s4 => ?_)
  ·have hD4:=s4 _ _ hDH
   have tk:Tk H4 (upd H4 D (.lst (ys ++ [y]))):=Tk.lst hD4
   refine ⟨hD4,xs.length - (i+1),by omega,rfl,hlt,fun b o hb => ?_,upd_same,?_,fun j x' y' hx' hy' => ?_⟩
   ·rw [upd_ne (ne_of_none hb hD)]
    exact s4 _ _ (sm _ _ hb)
   ·rw [et,List.filter_append,List.length_append,List.length_append,yl,List.filter_cons_of_pos px]
    rfl
   ·rw [et,List.filter_append,List.filter_cons_of_pos px] at hx'
    rcases snoc_get hx' with ⟨h1,hx'⟩ | ⟨h1,hx'⟩
    ·rcases snoc_get hy' with ⟨_,hy'⟩ | ⟨e,_⟩
     ·exact hP _ _ _ _ (hP _ _ _ _ (pr j x' y' hx' hy') (Same.tk s4)) tk
     ·omega
    ·rcases snoc_get hy' with ⟨h2,_⟩ | ⟨_,hy'⟩
     ·omega
     ·subst hx' hy'
      exact hP _ _ _ _ py tk
  ·refine ⟨xs.length - (i+1),by omega,rfl,hlt,sm.trans s4,s4 _ _ hDH,?_,fun j x' y' hx' hy' => ?_⟩
   ·rw [et,List.filter_append,List.filter_cons_of_neg (by rw [px]; exact Bool.false_ne_true),List.filter_nil,List.append_nil,yl]
   ·rw [et,List.filter_append,List.filter_cons_of_neg (by rw [px]; exact Bool.false_ne_true),List.filter_nil,List.append_nil] at hx'
    exact hP _ _ _ _ (pr j x' y' hx' hy') (Same.tk s4)
 ·have e:i=xs.length:=by omega
  subst e
  rw [List.take_length] at yl pr
  exact .inl ⟨Y.stop _ H sm (Nat.le_refl _),hd ys H sm hDH yl pr⟩
end L2
namespace L2
open PySem PySem.Spec PyProof.Rows
section
variable {prog:Program}{w:World}{A:Around}{E:Value->Shared->Prop}{s:Shared}
structure Ap (z TI TO i1 i2:Addr)(f1 f2:List Addr):Prop where
 a1 : ∀ b ∈ f1,b ≠ z/\b ≠ TO/\b ≠ i2
 a2 : ∀ b ∈ f2,b ≠ z/\b ≠ TO/\b ≠ i1
 m1:i1 ∈ f1
 m2:i2 ∈ f2
 tz:TI ≠ z
 tO:TI ≠ TO
 t1:TI ≠ i1
 t2:TI ≠ i2
 oz:TO ≠ z
section
variable {z TI TO i1 i2:Addr}{f1 f2:List Addr}{n1 n2 k:Nat}{P1 P2:Nat->Value->Prop}{S1 S2:Nat->Heap->Prop}{a b:Value}
theorem zipNext {Q:Value->Shared->Prop}(D1:Draws prog w A i1 f1 n1 P1 S1)(D2:Draws prog w A i2 f2 n2 P2 S2)(ap:Ap z TI TO i1 i2 f1 f2)(hz:IsZip s.heap z TI TO .none)(hI:IsPair s.heap TI (.ref i1) (.ref i2))(hO:IsPair s.heap TO a b)
  (h1:S1 k s.heap) (h2:S2 k s.heap) (l1:k < n1) (l2:k < n2)
  (q : ∀ x y T g t',P1 k x->P2 k y->T=s.heap.objs.size->IsZip g z TI TO (rawInt T)->IsPair g TO x y->S1 (k+1) g->S2 (k+1) g->IsPair g T x y->(∀ c o,c ≠ z->c ≠ TO->c ≠ i1->c ≠ i2->s.heap.get? c=some o->g.get? c=some o)->Q (.ref T) { s with heap:=g,toks:=t' }) :
  wpAny (model prog w) A (Builtin.«zip.__next__» ⟨[.ref z],[]⟩) (fun fin s'=>∃ v,fin = .done (.ret v)/\Q v s') E s:=by
 have z1:=ap.a1 i1 ap.m1
 have z2:=ap.a2 i2 ap.m2
 refine wpAny_bind (m:=field (.ref z) 2) (wpAny_field hz rfl (x:=.bool false) rfl (wpAny_bind (m:=field (.ref z) 3) (wpAny_field hz rfl (x:=.ref TI) rfl (wpAny_bind (wpAny_seqItems hI rfl (wpAny_bind (m:=Builtin.SmallTypes.ownedTupleIsFree (.ref z)) ?_))))))
 unfold Builtin.SmallTypes.ownedTupleIsFree
 refine wpAny_bind (wpAny_field hz rfl (x:=.none) rfl (wpAny_pure ?_))
 simp only [if_true]
 refine wpAny_bind (wpAny_rule (wpAny_bind (wpAny_field hz rfl (x:=.ref TO) rfl (wpAny_bind (wpAny_setField_rec hz (by simp) fun ga ca sa=>wpAny_bind ?_)))))
 replace ca:IsZip ga z TI TO .ellipsis:=ca
 have ka : ∀ c o,c ≠ z->s.heap.get? c=some o->ga.get? c=some o:=fun c o n e=>sa.extBut _ _ n e
 simp only [List.zipIdx_cons,List.zipIdx_nil,List.forIn_cons,List.forIn_nil]
 refine wpAny_bind (wpAny_bind (wpAny_onRaise (wpAny_bind (m:=Builtin.SmallTypes.nextOf (.ref i1)) (D1.item k _ _ _ l1 (D1.frame _ _ _ h1 fun c hc o e=>ka c o (ap.a1 c hc).1 e) fun x gb tb px sb cb=>wpAny_pure ?_))))
 have kb : ∀ c o,c ≠ z->c ≠ i1->s.heap.get? c=some o->gb.get? c=some o:=fun c o n n' e=>cb.extBut _ _ n' (ka c o n e)
 have hOb:IsPair gb TO a b:=kb _ _ ap.oz (fun e=>z1.2.1 e.symm) hO
 refine wpAny_bind (wpAny_seqItems hOb rfl (wpAny_bind (wpAny_updateSeq_pair hOb fun gc hOc cc=>wpAny_bind (wpAny_letGo (wpAny_pure ?_)))))
 replace hOc:IsPair gc TO x b:=hOc
 have kc : ∀ c o,c ≠ z->c ≠ i1->c ≠ TO->s.heap.get? c=some o->gc.get? c=some o:=fun c o n n' n2 e=>cc.extBut _ _ n2 (kb c o n n' e)
 have sc1:S1 (k+1) gc:=D1.frame _ _ _ sb fun c hc o e=>cc.extBut _ _ (ap.a1 c hc).2.1 e
 refine wpAny_bind (wpAny_bind (wpAny_onRaise (wpAny_bind (m:=Builtin.SmallTypes.nextOf (.ref i2)) (D2.item k _ _ _ l2 (D2.frame _ _ _ h2 fun c hc o e=>kc c o (ap.a2 c hc).1 (ap.a2 c hc).2.2 (ap.a2 c hc).2.1 e) fun y gd td py sd cd=>wpAny_pure ?_))))
 have hOd:IsPair gd TO x b:=cd.extBut _ _ (fun e=>z2.2.1 e.symm) hOc
 refine wpAny_bind (wpAny_seqItems hOd rfl (wpAny_bind (wpAny_updateSeq_pair hOd fun ge hOe ce=>wpAny_bind (wpAny_letGo (wpAny_pure (wpAny_pure ?_))))))
 replace hOe:IsPair ge TO x y:=hOe
 have ke : ∀ c o,c ≠ z->c ≠ TO->c ≠ i1->c ≠ i2->s.heap.get? c=some o->ge.get? c=some o:=fun c o n n1 n2 n3 e=>ce.extBut _ _ n1 (cd.extBut _ _ n3 (kc c o n n2 n1 e))
 have hze:IsZip ge z TI TO .ellipsis:=ce.extBut _ _ (Ne.symm ap.oz) (cd.extBut _ _ (Ne.symm z2.1) (cc.extBut _ _ (Ne.symm ap.oz) (cb.extBut _ _ (Ne.symm z1.1) ca)))
 have se1:S1 (k+1) ge:=D1.frame _ _ _ sc1 fun c hc o e=>ce.extBut _ _ (ap.a1 c hc).2.1 (cd.extBut _ _ (ap.a1 c hc).2.2 e)
 have se2:S2 (k+1) ge:=D2.frame _ _ _ sd fun c hc o e=>ce.extBut _ _ (ap.a2 c hc).2.1 e
 have szs:s.heap.objs.size=ge.objs.size:=by rw [ce.1,cd.1,cc.1,cb.1,sa.1]
 refine wpAny_bind (wpAny_seqItems hOe rfl (wpAny_bind (wpAny_newTuple (wpAny_bind (m:=Builtin.SmallTypes.ownedTupleHandOut (.ref z) (.ref ge.objs.size)) ?_))))
 unfold Builtin.SmallTypes.ownedTupleHandOut
 have zl:z < ge.objs.size:=Heap.lt_size hze
 refine wpAny_bind (wpAny_setField_rec (show IsZip (ge.push { cls:=.type "tuple",data:=.seq #[x,y] }) z TI TO .ellipsis from Heap.get?_push_of_some _ hze) (by simp) fun gf cf sf => ?_)
 replace cf:IsZip gf z TI TO (rawInt ge.objs.size):=cf
 refine wpAny_setField_rec cf (by simp) fun gg cg sg=>wpAny_pure ⟨_,rfl,?_⟩
 replace cg:IsZip gg z TI TO (rawInt ge.objs.size):=cg
 have up : ∀ c o,c ≠ z->ge.get? c=some o->gg.get? c=some o:=fun c o n e=>sg.extBut _ _ n (sf.extBut _ _ n (Heap.get?_push_of_some _ e))
 have hT:IsPair gg ge.objs.size x y:=sg.extBut _ _ (Nat.ne_of_gt zl) (sf.extBut _ _ (Nat.ne_of_gt zl) (Heap.get?_push_size _ rfl))
 exact q x y ge.objs.size gg _ px py szs.symm cg (up _ _ ap.oz hOe) (D1.frame _ _ _ se1 fun c hc o e=>up c o (ap.a1 c hc).1 e) (D2.frame _ _ _ se2 fun c hc o e=>up c o (ap.a2 c hc).1 e) hT fun c o n n1 n2 n3 e=>up c o n (ke c o n n1 n2 n3 e)
theorem zipStop {Q:Fin->Shared->Prop}(D1:Draws prog w A i1 f1 n1 P1 S1)(D2:Draws prog w A i2 f2 n2 P2 S2)(ap:Ap z TI TO i1 i2 f1 f2)(hz:IsZip s.heap z TI TO .none)(hI:IsPair s.heap TI (.ref i1) (.ref i2))(hO:IsPair s.heap TO a b)
  (h1:S1 k s.heap) (h2:S2 k s.heap) (hk:k=n1\/(k < n1/\k=n2))
  (q : ∀ g e t',(∀ c o,c ≠ z->c ≠ TO->c ≠ i1->c ≠ i2->s.heap.get? c=some o->g.get? c=some o)->(∃ o,g.get? e=some o/\o.cls = .type "StopIteration")->E (.ref e) { s with heap:=g,toks:=t' }) :
  wpAny (model prog w) A (Builtin.«zip.__next__» ⟨[.ref z],[]⟩) Q E s:=by
 have z1:=ap.a1 i1 ap.m1
 have z2:=ap.a2 i2 ap.m2
 refine wpAny_bind (m:=field (.ref z) 2) (wpAny_field hz rfl (x:=.bool false) rfl (wpAny_bind (m:=field (.ref z) 3) (wpAny_field hz rfl (x:=.ref TI) rfl (wpAny_bind (wpAny_seqItems hI rfl (wpAny_bind (m:=Builtin.SmallTypes.ownedTupleIsFree (.ref z)) ?_))))))
 unfold Builtin.SmallTypes.ownedTupleIsFree
 refine wpAny_bind (wpAny_field hz rfl (x:=.none) rfl (wpAny_pure ?_))
 simp only [if_true]
 refine wpAny_bind (wpAny_rule (wpAny_bind (wpAny_field hz rfl (x:=.ref TO) rfl (wpAny_bind (wpAny_setField_rec hz (by simp) fun ga ca sa=>wpAny_bind ?_)))))
 replace ca:IsZip ga z TI TO .ellipsis:=ca
 have ka : ∀ c o,c ≠ z->s.heap.get? c=some o->ga.get? c=some o:=fun c o n e=>sa.extBut _ _ n e
 simp only [List.zipIdx_cons,List.zipIdx_nil,List.forIn_cons,List.forIn_nil]
 rcases hk with e | ⟨l1,e⟩
 ·subst e
  refine wpAny_bind (wpAny_bind (wpAny_onRaise (wpAny_bind (m:=Builtin.SmallTypes.nextOf (.ref i1)) (D1.done _ _ _ (D1.frame _ _ _ h1 fun c hc o e=>ka c o (ap.a1 c hc).1 e) fun gb e cb he => ?_))))
  obtain ⟨oe,h3,h4⟩:=he
  have hzb:IsZip gb z TI TO .ellipsis:=cb _ _ (Ne.symm z1.1) ca
  have hez:e ≠ z:=fun x=>by rw [x,hzb] at h3; cases h3; simp at h4
  exact wpAny_setField_rec hzb (by simp) fun gc _ cc=>q gc e s.toks (fun c o n _ n2 _ x=>cc.extBut _ _ n (cb _ _ n2 (ka c o n x))) ⟨oe,cc.extBut _ _ hez h3,h4⟩
 ·subst e
  refine wpAny_bind (wpAny_bind (wpAny_onRaise (wpAny_bind (m:=Builtin.SmallTypes.nextOf (.ref i1)) (D1.item k _ _ _ l1 (D1.frame _ _ _ h1 fun c hc o e=>ka c o (ap.a1 c hc).1 e) fun x gb tb px sb cb=>wpAny_pure ?_))))
  have kb : ∀ c o,c ≠ z->c ≠ i1->s.heap.get? c=some o->gb.get? c=some o:=fun c o n n' e=>cb.extBut _ _ n' (ka c o n e)
  have hOb:IsPair gb TO a b:=kb _ _ ap.oz (fun e=>z1.2.1 e.symm) hO
  refine wpAny_bind (wpAny_seqItems hOb rfl (wpAny_bind (wpAny_updateSeq_pair hOb fun gc hOc cc=>wpAny_bind (wpAny_letGo (wpAny_pure ?_)))))
  have kc : ∀ c o,c ≠ z->c ≠ i1->c ≠ TO->s.heap.get? c=some o->gc.get? c=some o:=fun c o n n' n2 e=>cc.extBut _ _ n2 (kb c o n n' e)
  refine wpAny_bind (wpAny_bind (wpAny_onRaise (wpAny_bind (m:=Builtin.SmallTypes.nextOf (.ref i2)) (D2.done _ _ _ (D2.frame _ _ _ h2 fun c hc o e=>kc c o (ap.a2 c hc).1 (ap.a2 c hc).2.2 (ap.a2 c hc).2.1 e) fun gd e cd he => ?_))))
  obtain ⟨oe,h3,h4⟩:=he
  have hzd:IsZip gd z TI TO .ellipsis:=cd _ _ (Ne.symm z2.1) (cc.extBut _ _ (Ne.symm ap.oz) (cb.extBut _ _ (Ne.symm z1.1) ca))
  have hez:e ≠ z:=fun x=>by rw [x,hzd] at h3; cases h3; simp at h4
  exact wpAny_setField_rec hzd (by simp) fun ge _ ce=>q ge e tb (fun c o n n1 n2 n3 x=>ce.extBut _ _ n (cd _ _ n3 (kc c o n n2 n1 x))) ⟨oe,ce.extBut _ _ hez h3,h4⟩
theorem zipPy {Q:Option Value->Shared->Prop}(D1:Draws prog w A.in1 i1 f1 n1 P1 S1)(D2:Draws prog w A.in1 i2 f2 n2 P2 S2)(ap:Ap z TI TO i1 i2 f1 f2)(hz:IsZip s.heap z TI TO .none)(hI:IsPair s.heap TI (.ref i1) (.ref i2))(hO:IsPair s.heap TO a b)
  (h1:S1 k s.heap) (h2:S2 k s.heap) (l1:k < n1) (l2:k < n2)
  (q : ∀ x y T g t',P1 k x->P2 k y->T=s.heap.objs.size->IsZip g z TI TO (rawInt T)->IsPair g TO x y->S1 (k+1) g->S2 (k+1) g->IsPair g T x y->(∀ c o,c ≠ z->c ≠ TO->c ≠ i1->c ≠ i2->s.heap.get? c=some o->g.get? c=some o)->Q (some (.ref T)) { s with heap:=g,toks:=t' }) :
  wpAny (model prog w) A (pyNext (.ref z)) Q E s:=by
 have ty:s.TypeIs (.ref z) "zip" := ⟨_,hz,rfl⟩
 unfold pyNext
 exact wpAny_bind (wpAny_attempt (wpAny_callSpecial?_slot (name:=Str.ofString "__next__") ty F.slot_zip_next (wpAny_call_entry F.slot_zip_next ty F.entry_zip_next (zipNext D1 D2 ap hz hI hO h1 h2 l1 l2 fun x y T g t' c1 c2 c3 c4 c5 c6 c7 c8 c9=>wpAny_pure (q x y T g t' c1 c2 c3 c4 c5 c6 c7 c8 c9)) (F.args_zip_next_1 _))))
theorem zipPyStop {Q:Option Value->Shared->Prop}(D1:Draws prog w A.in1 i1 f1 n1 P1 S1)(D2:Draws prog w A.in1 i2 f2 n2 P2 S2)(ap:Ap z TI TO i1 i2 f1 f2)(hz:IsZip s.heap z TI TO .none)(hI:IsPair s.heap TI (.ref i1) (.ref i2))(hO:IsPair s.heap TO a b)
  (h1:S1 k s.heap) (h2:S2 k s.heap) (hk:k=n1\/(k < n1/\k=n2))
  (q : ∀ g t',(∀ c o,c ≠ z->c ≠ TO->c ≠ i1->c ≠ i2->s.heap.get? c=some o->g.get? c=some o)->Q none { s with heap:=g,toks:=t' }):wpAny (model prog w) A (pyNext (.ref z)) Q E s:=by
 have ty:s.TypeIs (.ref z) "zip" := ⟨_,hz,rfl⟩
 unfold pyNext
 refine wpAny_bind (wpAny_attempt (wpAny_callSpecial?_slot (name:=Str.ofString "__next__") ty F.slot_zip_next (wpAny_call_entry F.slot_zip_next ty F.entry_zip_next (zipStop D1 D2 ap hz hI hO h1 h2 hk fun g e t' kp he => ?_) (F.args_zip_next_1 _))))
 obtain ⟨o,h3,h4⟩:=he
 exact wpAny_bind (wpAny_isInstance (T := "StopIteration") (b:=true) ⟨o,h3,h4⟩ isSubtype_stop (wpAny_pure (q _ _ kp)))
end
end
def Itz (K:PySem.W.Frag)(a b:Addr):It :=
  ⟨fun i H=>∃ xs ys,SqT K H a xs/\SqL K H b ys/\i < xs.length/\i < ys.length,
   fun i H v H'=>∃ T,H T=none/\v = .ref T/\∀ xs ys,SqT K H a xs->SqL K H b ys->∃ x y,xs[i]?=some x/\ys[i]?=some y/\H'=upd H T (.tup [x,y]),
   fun i H=>∃ xs ys,SqT K H a xs/\SqL K H b ys/\(i=xs.length\/(i < xs.length/\i=ys.length))⟩
theorem Inv.turnedL {X:Cx}{pins:List (Addr × Obj)}{σ:St}{H:Hp}{s:Shared}{h':Heap}{t':Nat}{ch:List Addr}(I:Inv X pins σ H s)(k : ∀ b o,b ∉ ch->s.heap.get? b=some o->h'.get? b=some o)(hf : ∀ b ∈ ch,FpOk X pins H b):Inv X pins σ H { s with heap:=h',toks:=t' }:=by
 have nit : ∀ b u,H b=some u->b ∉ ch:=fun b u e z=>by rw [(hf b z).1] at e; cases e
 refine I.step (g':=s.gens) (d':=s.drawn) (ch:=ch) (fun b hb=>⟨(hf b hb).2.2.2.1,(hf b hb).2.1,(hf b hb).2.2.2.2.1,(hf b hb).2.2.2.2.2⟩) (fun b o _ _ hc e _=>k b o hc e) (fun b o _ _ hc e _=>⟨o.slots,k b o hc e⟩) (fun _ _ _ _ n=>n)
  (fun b o hc e=>⟨o,k b o hc e⟩) (fun _ _ e=>e) (fun _ _ _ e=>e) (fun b ps e=>⟨#[],by rw [e]; simp⟩) (fun m hm => ?_) (fun b u e => ?_) I.bare
 ·obtain ⟨o,es,ep,ho,r⟩:=hm
  exact ⟨o,es,ep,k _ o (fun z=>(hf _ z).2.1 rfl) ho,r⟩
 ·refine (I.hok b u e).stay (fun c v hc q=>k c v ?_ q) (fun _ q=>q) fun _ _ q=>q
  rcases hc with z | z
  ·rw [z]; exact nit b u e
  ·exact nit c _ z
def ZipSt (n a b:Nat)(i:Nat)(h:Heap):Prop:=IsZip h (n+4) (n+2) (n+3) .none/\IsPair h (n+2) (.ref n) (.ref (n+1))/\(∃ x y,IsPair h (n+3) x y)/\h.IsTupleIter n a i/\h.IsListIter (n+1) b i
theorem ap_new {n a b:Nat}(ha:a < n)(hb:b < n):Ap (n+4) (n+2) (n+3) n (n+1) [n,a] [n+1,b] where
 a1:=fun c hc=>by
  have hc':c=n\/c=a:=by simpa using hc
  rcases hc' with e | e <;> (subst e; exact ⟨by show (_:Nat) ≠ _; omega,by show (_:Nat) ≠ _; omega,by show (_:Nat) ≠ _; omega⟩)
 a2:=fun c hc=>by
  have hc':c=n+1\/c=b:=by simpa using hc
  rcases hc' with e | e <;> (subst e; exact ⟨by show (_:Nat) ≠ _; omega,by show (_:Nat) ≠ _; omega,by show (_:Nat) ≠ _; omega⟩)
 m1:=by simp
 m2:=by simp
 tz:=by show (_:Nat) ≠ _; omega
 tO:=by show (_:Nat) ≠ _; omega
 t1:=by show (_:Nat) ≠ _; omega
 t2:=by show (_:Nat) ≠ _; omega
 oz:=by show (_:Nat) ≠ _; omega
abbrev zo1 (h:Heap)(a:Addr):Heap:=h.push { cls:=.type "tuple_iterator",data:=.fields #[.ref a,.int 0 0] }
abbrev zo2 (h:Heap)(a b:Addr):Heap:=(zo1 h a).push { cls:=.type "list_iterator",data:=.fields #[.ref b,.int 0 0] }
abbrev zo3 (h:Heap)(a b:Addr):Heap:=(zo2 h a b).push { cls:=.type "tuple",data:=.seq #[.ref h.objs.size,.ref (zo1 h a).objs.size] }
abbrev zo4 (h:Heap)(a b:Addr):Heap:=(zo3 h a b).push { cls:=.type "tuple",data:=.seq #[.none,.none] }
abbrev zo5 (h:Heap)(a b:Addr):Heap:=(zo4 h a b).push { cls:=.type "zip",data:=.fields #[.none,.bool false,.bool false,.ref (zo2 h a b).objs.size,.ref (zo3 h a b).objs.size] }
def iZip (K:PySem.W.Frag)(ta:TA):TI:=fun σ H R=>ta σ H fun vs H1=>∃ a b,vs=[.ref a,.ref b]/\(∃ xs,SqT K H1 a xs)/\(∃ ys,SqL K H1 b ys)/\R (Itz K a b) H1
theorem bt_zip:bootBuiltins "zip" = some (.type "zip"):=by decide +kernel
end L2
namespace L2
open PySem PySem.Spec PyProof.Rows
section
variable {κ:Type}[DecidableEq κ]
def valV (kvs:List (κ × V))(k:κ):Option V:=(kvs.find? fun kv=>decide (kv.1=k)).map (·.2)
def putK (kvs:List (κ × V))(k:κ)(v:V):List (κ × V) :=
 if (kvs.any fun kv=>decide (kv.1=k))=true then kvs.map (fun kv=>if kv.1=k then (kv.1,v) else kv) else kvs ++ [(k,v)]
def dropK (kvs:List (κ × V))(k:κ):List (κ × V):=kvs.filter fun kv=>decide (kv.1 ≠ k)
theorem valV_pos {p:κ × V}{r:List (κ × V)}{k:κ}(e:p.1=k):valV (p :: r) k=some p.2:=by simp [valV,List.find?_cons,e]
theorem valV_neg {p:κ × V}{r:List (κ × V)}{k:κ}(e : ¬ p.1=k):valV (p :: r) k=valV r k:=by simp [valV,List.find?_cons,e]
theorem valV_any (k:κ) : ∀ kvs:List (κ × V),(kvs.any fun kv=>decide (kv.1=k))=(valV kvs k).isSome
 | []=>rfl
 | p :: r=>by
  rw [List.any_cons]
  by_cases e:p.1=k
  ·simp only [valV_pos e,decide_eq_true e,Bool.true_or,Option.isSome_some]
  ·rw [valV_neg e,decide_eq_false e,Bool.false_or]; exact valV_any k r
theorem valV_map (k j:κ)(y:V) : ∀ kvs:List (κ × V),valV (kvs.map fun kv=>if kv.1=k then (kv.1,y) else kv) j=(valV kvs j).map fun x=>if j=k then y else x
 | []=>rfl
 | p :: r=>by
  have ih:=valV_map k j y r
  rw [List.map_cons]
  by_cases h:p.1=k
  ·rw [if_pos h]
   by_cases e:p.1=j
   ·rw [valV_pos (p:=(p.1,y)) e,valV_pos e,Option.map_some,if_pos (e.symm.trans h)]
   ·rw [valV_neg (p:=(p.1,y)) e,valV_neg e,ih]
  ·rw [if_neg h]
   by_cases e:p.1=j
   ·rw [valV_pos (p:=p) e,valV_pos e,Option.map_some,if_neg (fun z=>h (e.trans z))]
   ·rw [valV_neg (p:=p) e,valV_neg e,ih]
theorem valV_snoc (k j:κ)(y:V) : ∀ kvs:List (κ × V),valV kvs k=none->valV (kvs ++ [(k,y)]) j=if j=k then some y else valV kvs j
 | [],_=>by
  by_cases e:k=j
  ·rw [if_pos e.symm]; exact valV_pos (p:=(k,y)) e
  ·rw [if_neg (fun z=>e z.symm)]; exact valV_neg (p:=(k,y)) e
 | p :: r,hn=>by
  rw [List.cons_append]
  have hk : ¬ p.1=k:=fun z=>by rw [valV_pos z] at hn; cases hn
  rw [valV_neg hk] at hn
  have ih:=valV_snoc k j y r hn
  by_cases e:p.1=j
  ·rw [valV_pos e,valV_pos e,if_neg (fun z=>hk (e.trans z))]
  ·rw [valV_neg e,valV_neg e,ih]
theorem valV_put (kvs:List (κ × V))(k j:κ)(y:V):valV (putK kvs k y) j=if j=k then some y else valV kvs j:=by
 unfold putK
 by_cases a:(kvs.any fun kv=>decide (kv.1=k))=true
 ·rw [if_pos a,valV_map]
  rw [valV_any] at a
  by_cases e:j=k
  ·obtain ⟨x,hx⟩:=Option.isSome_iff_exists.mp a
   rw [if_pos e,e,hx,Option.map_some,if_pos rfl]
  ·rw [if_neg e]
   cases valV kvs j with
   | none=>rfl
   | some x=>rw [Option.map_some,if_neg e]
 ·rw [if_neg a]
  refine valV_snoc k j y kvs ?_
  rw [valV_any] at a
  cases q:valV kvs k with
  | none=>rfl
  | some x=>rw [q] at a; exact (a rfl).elim
theorem length_putK (kvs:List (κ × V))(k:κ)(v:V):(putK kvs k v).length<=kvs.length+1:=by
 unfold putK
 split
 ·rw [List.length_map]; omega
 ·rw [List.length_append,List.length_cons,List.length_nil]; omega
theorem putK_new {kvs:List (κ × V)}{k:κ}(v:V)(h:valV kvs k=none):putK kvs k v=kvs ++ [(k,v)]:=by
 unfold putK
 rw [valV_any,h]
 exact if_neg (by decide)
theorem RelO.isSome_eq {o:Option V}{u:Option Value}(r:RelO o u):o.isSome=u.isSome:=by
 cases o with
 | none=>cases u with
  | none=>rfl
  | some _=>exact (show False from r).elim
 | some _=>cases u with
  | none=>exact (show False from r).elim
  | some _=>rfl
theorem RelO.getD {o:Option V}{u:Option Value}{d:V}{d':Value}(r:RelO o u)(rd:RelV d d'):RelV (o.getD d) (u.getD d'):=by
 cases o with
 | none=>cases u with
  | none=>exact rd
  | some _=>exact (show False from r).elim
 | some _=>cases u with
  | none=>exact (show False from r).elim
  | some _=>exact r
theorem KV.val {kvs:List (κ × V)}{vs:List (κ × Value)}(r:KV kvs vs)(k:κ):RelO (valV kvs k) (valueAt vs k):=by
 unfold KV at r
 induction r with
 | nil=>exact True.intro
 | @cons p q ps qs h t ih =>
  obtain ⟨h1,h2⟩:=h
  by_cases e:p.1=k
  ·have e':q.1=k:=h1.symm.trans e
   have b:valueAt (q :: qs) k=some q.2:=by simp [valueAt,List.find?_cons,e']
   rw [valV_pos e,b]; exact h2
  ·have e' : ¬ q.1=k:=fun z=>e (h1.trans z)
   have b:valueAt (q :: qs) k=valueAt qs k:=by simp [valueAt,List.find?_cons,e']
   rw [valV_neg e,b]; exact ih
theorem KV.any {kvs:List (κ × V)}{vs:List (κ × Value)}(r:KV kvs vs)(k:κ):(kvs.any fun kv=>decide (kv.1=k))=vs.any fun kv=>decide (kv.1=k):=by
 unfold KV at r
 induction r with
 | nil=>rfl
 | cons h t ih=>rw [List.any_cons,List.any_cons,ih,h.1]
theorem KV.repl {kvs:List (κ × V)}{vs:List (κ × Value)}(r:KV kvs vs)(k:κ){y:V}{u:Value}(ry:RelV y u) :
  KV (kvs.map fun kv=>if kv.1=k then (kv.1,y) else kv) (vs.map fun kv=>if kv.1=k then (kv.1,u) else kv):=by
 unfold KV at r ⊢
 induction r with
 | nil=>exact .nil
 | @cons p q ps qs h t ih =>
  rw [List.map_cons,List.map_cons]
  refine .cons ?_ ih
  obtain ⟨h1,h2⟩:=h
  by_cases e:p.1=k
  ·rw [if_pos e,if_pos (h1.symm.trans e)]; exact ⟨h1,ry⟩
  ·rw [if_neg e,if_neg (fun z=>e (h1.trans z))]; exact ⟨h1,h2⟩
theorem KV.put {kvs:List (κ × V)}{vs:List (κ × Value)}(r:KV kvs vs)(k:κ){y:V}{u:Value}(ry:RelV y u):KV (putK kvs k y) (stored vs k u):=by
 unfold putK stored
 rw [r.any k]
 by_cases e:(vs.any fun kv=>decide (kv.1=k))=true
 ·rw [if_pos e,if_pos e]; exact r.repl k ry
 ·rw [if_neg e,if_neg e]; exact Paired.snoc r ⟨rfl,ry⟩
theorem KV.keys {kvs:List (κ × V)}{vs:List (κ × Value)}(r:KV kvs vs):kvs.map (·.1)=vs.map (·.1):=by
 unfold KV at r
 induction r with
 | nil=>rfl
 | cons h t ih=>rw [List.map_cons,List.map_cons,ih,h.1]
theorem KV.length {kvs:List (κ × V)}{vs:List (κ × Value)}(r:KV kvs vs):kvs.length=vs.length:=Paired.length r
end
theorem kV_is {P:Program}{w:World}{k:Key}{u:Value}(r:RelV (kV k) u):(mixKind P w).is k u=true:=by
 cases k with
 | inl i=>obtain ⟨t,e⟩:=(show ∃ t,u=Value.int i t from r); subst e; exact mixKind_int P w i t
 | inr x=>obtain ⟨t,e⟩:=(show ∃ t,u=Value.str x t from r); subst e; exact mixKind_str P w x t
theorem items_are {P:Program}{w:World} : ∀ {ks:List Key} {us:List Value},Vals (ks.map kV) us->ItemsAre (mixKind P w) ks us
 | [],_,r=>by rw [List.map_nil] at r; cases r; exact .nil
 | k :: ks,_,r=>by
  rw [List.map_cons] at r
  cases r with
  | cons h t=>exact .cons (kV_is h) (items_are t)
abbrev KT (H:Hp):List (List Key × V)->List (List Key × Addr × Value)->Prop:=Paired fun p q=>p.1=q.1/\H q.2.1=some (.tup (p.1.map kV))/\RelV p.2 q.2.2
theorem KT.val {H:Hp}{kvs:List (List Key × V)}{xs:List (List Key × Addr × Value)}(r:KT H kvs xs)(k:List Key):RelO (valV kvs k) ((atKey xs k).map (·.2)):=by
 induction r with
 | nil=>exact True.intro
 | @cons p q ps qs h t ih =>
  obtain ⟨h1,_,h2⟩:=h
  by_cases e:p.1=k
  ·have e':q.1=k:=h1.symm.trans e
   have b:atKey (q :: qs) k=some q.2:=by simp [atKey,List.find?_cons,e']
   rw [valV_pos e,b]; exact h2
  ·have e' : ¬ q.1=k:=fun z=>e (h1.trans z)
   have b:atKey (q :: qs) k=atKey qs k:=by simp [atKey,List.find?_cons,e']
   rw [valV_neg e,b]; exact ih
theorem KT.repl {H:Hp}{kvs:List (List Key × V)}{xs:List (List Key × Addr × Value)}(r:KT H kvs xs)(k:List Key){y:V}{u:Value}(ry:RelV y u) :
  KT H (kvs.map fun kv=>if kv.1=k then (kv.1,y) else kv) (xs.map (putAt k u)):=by
 induction r with
 | nil=>exact .nil
 | @cons p q ps qs h t ih =>
  rw [List.map_cons,List.map_cons]
  refine .cons ?_ ih
  obtain ⟨h1,h2,h3⟩:=h
  unfold putAt
  by_cases e:p.1=k
  ·rw [if_pos e,if_pos (h1.symm.trans e)]; exact ⟨h1,h2,ry⟩
  ·rw [if_neg e,if_neg (fun z=>e (h1.trans z))]; exact ⟨h1,h2,h3⟩
theorem KT.put {H:Hp}{kvs:List (List Key × V)}{xs:List (List Key × Addr × Value)}(r:KT H kvs xs)(k:List Key){b:Addr}{y:V}{u:Value}(hb:H b=some (.tup (k.map kV)))(ry:RelV y u) :
  KT H (putK kvs k y) (storedH xs k b u):=by
 have e:(kvs.any fun kv=>decide (kv.1=k))=(atKey xs k).isSome:=by
  rw [valV_any,(r.val k).isSome_eq,Option.isSome_map]
 unfold putK storedH
 rw [e]
 by_cases q:(atKey xs k).isSome=true
 ·rw [if_pos q,if_pos q]; exact r.repl k ry
 ·rw [if_neg q,if_neg q]; exact Paired.snoc r ⟨rfl,hb,ry⟩
theorem KT.keeps {H H':Hp}{kvs:List (List Key × V)}{xs:List (List Key × Addr × Value)}(r:KT H kvs xs)(ht : ∀ b ys,H b=some (.tup ys)->H' b=some (.tup ys)):KT H' kvs xs :=
 Paired.mapP r fun _ _ z=>⟨z.1,ht _ _ z.2.1,z.2.2⟩
section
variable {P:Program}{w:World}{H:Hp}{h:Heap}{a:Addr}
theorem rd_of {u:HO}(ok:HOk P w H h)(e:Rd H a u):ObjOk P w H h a u:=e.ok ok
theorem dk_rd {kvs:List (Key × V)}(ok:HOk P w H h)(e:Rd H a (.dK kvs)):kvs.length<=sizeLine/\(a == sysModules)=false/\∃ vs,KV kvs vs/\h.DictOf (mixKind P w) a vs :=
 show ObjOk P w H h a (.dK kvs) from rd_of ok e
theorem dk_of {kvs:List (Key × V)}(ok:HOk P w H h)(e:H a=some (.dK kvs)):kvs.length<=sizeLine/\(a == sysModules)=false/\∃ vs,KV kvs vs/\h.DictOf (mixKind P w) a vs:=dk_rd ok (.inl e)
theorem key_of {ks:List Key}(ok:HOk P w H h)(e:H a=some (.tup (ks.map kV))):(tupleKind (mixKind P w)).is h ks a:=by
 obtain ⟨_,its,r,o,h1,h2,n,h3⟩:=(show ObjOk P w H h a (.tup (ks.map kV)) from ok a _ e)
 exact ⟨o,its.toArray,n,h1,h2,h3,by simpa using items_are r⟩
theorem dt_rd {kvs:List (List Key × V)}(ok:HOk P w H h)(e:Rd H a (.dT kvs)):kvs.length<=sizeLine/\(a == sysModules)=false /\
  ∃ xs,KT H kvs xs/\h.DictOfH (tupleKind (mixKind P w)) a xs:=by
 obtain ⟨z,y,xs,r,o,es,ep,h1,h2,h3,h4,h5⟩:=(show ObjOk P w H h a (.dT kvs) from rd_of ok e)
 refine ⟨z,y,xs,r,o,es,ep,h1,h2,h3,h4,fun x hx => ?_,h5⟩
 have all : ∀ {l:List (List Key × V)} {m:List (List Key × Addr × Value)},KT H l m->∀ x ∈ m,(tupleKind (mixKind P w)).is h x.1 x.2.1:=by
  intro l m q
  induction q with
  | nil=>intro x hx; exact nomatch hx
  | @cons p q ps qs hq t ih =>
   intro x hx
   rcases List.mem_cons.mp hx with e | hx
   ·subst e
    exact key_of ok (by rw [<- hq.1]; exact hq.2.1)
   ·exact ih x hx
 exact all r x hx
theorem dt_of {kvs:List (List Key × V)}(ok:HOk P w H h)(e:H a=some (.dT kvs)):kvs.length<=sizeLine/\(a == sysModules)=false /\
  ∃ xs,KT H kvs xs/\h.DictOfH (tupleKind (mixKind P w)) a xs:=dt_rd ok (.inl e)
end
def DGet (H:Hp)(a:Addr)(y:V)(r:Option V):Prop :=
 (∃ kvs k,Rd H a (.dK kvs)/\y=kV k/\r=valV kvs k)\/∃ kvs k b,Rd H a (.dT kvs)/\y = .ref b/\H b=some (.tup (k.map kV))/\r=valV kvs k
def DPut (H:Hp)(a:Addr)(y v:V)(H':Hp):Prop :=
 (∃ kvs k,H a=some (.dK kvs)/\y=kV k/\kvs.length < sizeLine/\H'=upd H a (.dK (putK kvs k v))) \/
 ∃ kvs k b,H a=some (.dT kvs)/\y = .ref b/\H b=some (.tup (k.map kV))/\kvs.length < sizeLine/\H'=upd H a (.dT (putK kvs k v))
theorem DGet.k {H:Hp}{a:Addr}{kvs:List (Key × V)}{k:Key}(e:H a=some (.dK kvs)):DGet H a (kV k) (valV kvs k):=.inl ⟨kvs,k,.inl e,rfl,rfl⟩
theorem DPut.k {H:Hp}{a:Addr}{kvs:List (Key × V)}{k:Key}{v:V}(e:H a=some (.dK kvs))(hl:kvs.length < sizeLine):DPut H a (kV k) v (upd H a (.dK (putK kvs k v))):=.inl ⟨kvs,k,e,rfl,hl,rfl⟩
section
variable {X:Cx}{pins:List (Addr × Obj)}{σ:St}{H:Hp}{s:Shared}{a:Addr}{y v:V}{u r:Value}{o:Option V}{A:Around}{E:Value->Shared->Prop}
theorem Inv.big (I:Inv X pins σ H s):sysModules < s.heap.objs.size:=by
 have h:mainGlobals < s.heap.objs.size:=(I.mod.glob.keeps I.bk).lt
 exact Nat.lt_trans (by decide) h
theorem d_getItem {Q:Value->Shared->Prop}(hu:A.units+1 < cLine)(I:Inv X pins σ H s)(g:DGet H a y (some v))(ry:RelV y u)(h : ∀ w' s',Inv X pins σ H s'->RelV v w'->Q w' s') :
  wpAny (model X.prog X.w) A (getItem (.ref a) u) Q E s:=by
 rcases g with ⟨kvs,k,e,ey,l⟩ | ⟨kvs,k,b,e,ey,eb,l⟩
 ·subst ey
  obtain ⟨z,hd,vs,rel,dd⟩:=dk_rd I.hok e
  obtain ⟨w',hw,rw'⟩:=RelO.some_of (v:=v) (o:=valueAt vs k) (by rw [l]; exact rel.val k)
  exact wpAny_getItem_of (kV_is ry) dd.mapOf hw (h w' _ (I.tok _) rw')
 ·subst ey
  cases (show u=Value.ref b from ry)
  obtain ⟨z,hd,xs,rel,dd⟩:=dt_rd I.hok e
  obtain ⟨w',hw,rw'⟩:=RelO.some_of (v:=v) (o:=(atKey xs k).map (·.2)) (by rw [l]; exact rel.val k)
  obtain ⟨p,hp,hp2⟩:=Option.map_eq_some_iff.mp hw
  refine wpAny_getItem_heap (tupleKind_room_in1 hu) (key_of I.hok eb) dd hp ?_
  rw [hp2]
  exact h w' _ (I.tok _) rw'
theorem d_in {Q:Value->Shared->Prop}(hu:A.units+1 < cLine)(I:Inv X pins σ H s)(g:DGet H a y o)(ry:RelV y u)(h : ∀ s',Inv X pins σ H s'->Q (.bool o.isSome) s') :
  wpAny (model X.prog X.w) A (compareOp .In u (.ref a)) Q E s:=by
 rcases g with ⟨kvs,k,e,ey,l⟩ | ⟨kvs,k,b,e,ey,eb,l⟩
 ·subst ey
  obtain ⟨z,hd,vs,rel,dd⟩:=dk_rd I.hok e
  refine wpAny_in_of (kV_is ry) hd dd.mapOf ?_
  rw [<- (rel.val k).isSome_eq,<- l]
  exact h _ (I.tok _)
 ·subst ey
  cases (show u=Value.ref b from ry)
  obtain ⟨z,hd,xs,rel,dd⟩:=dt_rd I.hok e
  refine wpAny_in_heap (tupleKind_room_in1 hu) (key_of I.hok eb) hd dd ?_
  have q:=(rel.val k).isSome_eq
  rw [Option.isSome_map] at q
  rw [<- q,<- l]
  exact h _ (I.tok _)
theorem d_notIn {Q:Value->Shared->Prop}(hu:A.units+1 < cLine)(I:Inv X pins σ H s)(g:DGet H a y o)(ry:RelV y u)(h : ∀ s',Inv X pins σ H s'->Q (.bool (!o.isSome)) s') :
  wpAny (model X.prog X.w) A (compareOp .NotIn u (.ref a)) Q E s:=by
 rcases g with ⟨kvs,k,e,ey,l⟩ | ⟨kvs,k,b,e,ey,eb,l⟩
 ·subst ey
  obtain ⟨z,hd,vs,rel,dd⟩:=dk_rd I.hok e
  refine wpAny_notIn_of (kV_is ry) hd dd.mapOf ?_
  rw [<- (rel.val k).isSome_eq,<- l]
  exact h _ (I.tok _)
 ·subst ey
  cases (show u=Value.ref b from ry)
  obtain ⟨z,hd,xs,rel,dd⟩:=dt_rd I.hok e
  refine wpAny_notIn_heap (tupleKind_room_in1 hu) (key_of I.hok eb) hd dd ?_
  have q:=(rel.val k).isSome_eq
  rw [Option.isSome_map] at q
  rw [<- q,<- l]
  exact h _ (I.tok _)
theorem d_write {h':Heap}{t':Nat}{ob:HO}(I:Inv X pins σ H s)(mu:Mut (H a))(hs:Heap.SameBut a s.heap h')(he : ∃ q,h'.get? a=some q)(new:ObjOk X.prog X.w (upd H a ob) h' a ob) :
  Inv X pins σ (upd H a ob) { s with heap:=h',toks:=t' } :=
 I.write (x:=a) (e:=a) mu (.inl rfl) (fun b q hb z=>(hs.2 b hb).trans z) he new
theorem dk_new {P:Program}{w:World}{H':Hp}{h':Heap}{kvs:List (Key × V)}{vs:List (Key × Value)}(z:kvs.length<=sizeLine)(hd:(a == sysModules)=false)(rel:KV kvs vs)(dd:h'.DictOf (mixKind P w) a vs) :
  ObjOk P w H' h' a (.dK kvs):=⟨z,hd,vs,rel,dd⟩
theorem d_setItem {H':Hp}{Q:Unit->Shared->Prop}(hu:A.units+1 < cLine)(I:Inv X pins σ H s)(g:DPut H a y v H')(ry:RelV y u)(rv:RelV v r)(h : ∀ s',Inv X pins σ H' s'->Q () s') :
  wpAny (model X.prog X.w) A (setItem (.ref a) u r) Q E s:=by
 rcases g with ⟨kvs,k,e,ey,l,eH⟩ | ⟨kvs,k,b,e,ey,eb,l,eH⟩
 ·subst ey eH
  obtain ⟨z,hd,vs,rel,dd⟩:=dk_of I.hok e
  have hz:vs.length<=sizeLine:=by rw [<- rel.length]; exact z
  have hl:(putK kvs k v).length<=sizeLine:=by have:=length_putK kvs k v; omega
  refine wpAny_setItem_pairs (hsz:=hz) (kV_is ry) dd fun h' dd' hs=>h _ ?_
  have he : ∃ q,h'.get? a=some q:=let ⟨q,_,_,hq,_⟩:=dd'; ⟨q,hq⟩
  exact d_write I (by rw [e]; exact True.intro) hs he (dk_new hl hd (rel.put k rv) dd')
 ·subst ey eH
  cases (show u=Value.ref b from ry)
  obtain ⟨z,hd,xs,rel,dd⟩:=dt_of I.hok e
  have hz:xs.length<=sizeLine:=by rw [<- Paired.length rel]; exact z
  have hl:(putK kvs k v).length<=sizeLine:=by have:=length_putK kvs k v; omega
  refine wpAny_setItem_heap (hsz:=hz) (tupleKind_room_in1 hu) (key_of I.hok eb) dd fun h' dd' hs=>h _ ?_
  obtain ⟨q,es,ep,hq,h2,h3,h4,_,h5⟩:=dd'
  refine d_write I (by rw [e]; exact True.intro) hs ⟨q,hq⟩ ⟨hl,hd,_,(rel.put k eb rv).keeps fun c ys ec => ?_,q,es,ep,hq,h2,h3,h4,h5⟩
  rw [upd_ne (ne_of ec e (fun z=>nomatch z))]
  exact ec
end
section
variable {X:Cx}{pins:List (Addr × Obj)}{σ:St}{H:Hp}{s:Shared}{a:Addr}{kvs:List (Key × V)}{k:Key}{u:Value}{A:Around}{E:Value->Shared->Prop}
theorem d_len {Q:Value->Shared->Prop}(I:Inv X pins σ H s)(e:Rd H a (.dK kvs))(h : ∀ t s',Inv X pins σ H s'->Q (.int kvs.length t) s'):wpAny (model X.prog X.w) A (call (.builtin "len") [.ref a]) Q E s:=by
 obtain ⟨z,hd,vs,rel,dd⟩:=dk_rd I.hok e
 refine call_len_dict hd dd (by rw [<- rel.length]; rw [sizeLine_eq] at z; omega) ?_
 rw [<- rel.length]
 exact h _ _ (I.tok _)
end
def NoSl (i:Expr):Prop:=∀ ov iv,subscripted i false ov iv=operate [ov,iv] (getItem ov iv)
theorem subD_of {prog:Program}{w:World}{A:Around}{E:Value->Shared->Prop}{s:Shared}{env:Env}{value slice:Expr}{pos:Pos}{T id:String}{Q:Value->Shared->Prop}
  (hl:typeLookup (.type T) "__getitem__" = pure (some (.builtin id))) (hs:NoSl slice)
  (h:wpAny (model prog w) A (eval value env) (fun o s₁=>wpAny (model prog w) A (eval slice env) (fun i s₂=>s₂.TypeIs o T/\wpAny (model prog w) A (getItem o i) Q E s₂) E s₁) E s) :
  wpAny (model prog w) A (eval (.Subscript value slice pos) env) Q E s:=by
 refine Subscript_ (wpAny_mono h (fun o s₁ h₁=>wpAny_mono h₁ (fun i s₂ h₂ => ?_) fun _ _ x=>x) fun _ _ x=>x)
 obtain ⟨hT,h₂⟩:=h₂
 unfold subscriptTail
 refine wpAny_bind ?_
 rw [getitemInPython_of_ne hT.not_modules]
 refine wpAny_bind (wpAny_specialOf hT hl ?_)
 have fin:wpAny (model prog w) A (subscripted slice false o i) (fun r s₃=>wpAny (model prog w) A (letTemporaryGo value o r >>= fun _=>pure r) Q E s₃) E s₂:=by
  rw [hs o i]
  exact wpAny_operating (wpAny_mono h₂ (fun r s₃ h₃=>wpAny_bind (wpAny_letTemporaryGo (wpAny_pure h₃))) fun _ _ x=>x)
 first
  | exact wpAny_pure (wpAny_bind fin)
  | exact wpAny_bind (wpAny_pure (wpAny_bind fin))
  | exact wpAny_bind fin
theorem dict_typeIs {X:Cx}{pins:List (Addr × Obj)}{σ:St}{H:Hp}{s:Shared}{a:Addr}{y:V}{o:Option V}(I:Inv X pins σ H s)(g:DGet H a y o):s.TypeIs (.ref a) "dict" := by
 rcases g with ⟨kvs,k,e,_,_⟩ | ⟨kvs,k,b,e,_,_,_⟩
 ·obtain ⟨_,_,vs,_,dd⟩:=dk_rd I.hok e
  exact dd.typeIs
 ·obtain ⟨_,_,xs,_,dd⟩:=dt_rd I.hok e
  exact dd.typeIs
def tDGet (td ty:TE):TE:=fun σ H Q=>td σ H fun x H1=>ty σ H1 fun y H2=>∃ a v,x = .ref a/\DGet H2 a y (some v)/\Q v H2
def tDIn (ty td:TE):TE:=fun σ H Q=>ty σ H fun y H1=>td σ H1 fun x H2=>∃ a o,x = .ref a/\DGet H2 a y o/\Q (.bl o.isSome) H2
def tDNotIn (ty td:TE):TE:=fun σ H Q=>ty σ H fun y H1=>td σ H1 fun x H2=>∃ a o,x = .ref a/\DGet H2 a y o/\Q (.bl (!o.isSome)) H2
def sDPut (td ty tv:TE):TS:=fun D σ H=>tv σ H fun v H1=>td σ H1 fun x H2=>ty σ H2 fun y H3=>∃ a H4,x = .ref a/\DPut H3 a y v H4/\D.nx σ H4
def sDAug (td ty tv:TE)(rd:V->V->Hp->VK->Prop):TS:=fun D σ H=>td σ H fun x H1=>ty σ H1 fun y H2=>∃ a v,x = .ref a/\DGet H2 a y (some v) /\
 tv σ H2 fun y2 H3=>rd v y2 H3 fun z H4=>∃ H5,DPut H4 a y z H5/\D.nx σ H5
def sDDel (td ty:TE):TS:=fun D σ H=>td σ H fun x H1=>ty σ H1 fun y H2=>∃ a kvs k,x = .ref a/\H2 a=some (.dK kvs)/\y=kV k/\(valV kvs k).isSome=true/\D.nx σ (upd H2 a (.dK (dropK kvs k)))
section
variable {X:Cx}{o i e value:Expr}{pos pos' tpos:Pos}{td ty tv:TE}
theorem pe_dget (hu:X.A.units+1 < cLine)(ho:PE X o td)(hi:PE X i ty)(hs:NoSl i):PE X (.Subscript o i pos) (tDGet td ty):=by
 intro pins s σ H Q I h
 refine subD_of PySem.F.slot_dict_getitem.lookup hs (thn (ho pins s σ H _ I h) fun u s1 ⟨x,H1,I1,rx,q1⟩=>thn (hi pins s1 σ H1 _ I1 q1) fun iv s2 ⟨y,H2,I2,ry,a,v,ex,g,q2⟩ => ?_)
 subst ex
 obtain rfl:u=Value.ref a:=rx
 exact ⟨dict_typeIs I2 g,d_getItem hu I2 g ry fun w' s3 I3 rw'=>⟨v,H2,I3,rw',q2⟩⟩
theorem pc_din (hu:X.A.units+1 < cLine)(hi:PE X i ty)(ho:PE X o td):PC X .In i o (tDIn ty td):=by
 intro pins s σ H Q I h
 refine thn (hi pins s σ H _ I h) fun iv s1 ⟨y,H1,I1,ry,q1⟩=>thn (ho pins s1 σ H1 _ I1 q1) fun u s2 ⟨x,H2,I2,rx,a,ov,ex,g,q2⟩ => ?_
 subst ex
 obtain rfl:u=Value.ref a:=rx
 exact d_in hu I2 g ry fun s3 I3=>⟨.bl ov.isSome,H2,I3,rfl,q2⟩
theorem pc_dnotin (hu:X.A.units+1 < cLine)(hi:PE X i ty)(ho:PE X o td):PC X .NotIn i o (tDNotIn ty td):=by
 intro pins s σ H Q I h
 refine thn (hi pins s σ H _ I h) fun iv s1 ⟨y,H1,I1,ry,q1⟩=>thn (ho pins s1 σ H1 _ I1 q1) fun u s2 ⟨x,H2,I2,rx,a,ov,ex,g,q2⟩ => ?_
 subst ex
 obtain rfl:u=Value.ref a:=rx
 exact d_notIn hu I2 g ry fun s3 I3=>⟨.bl (!ov.isSome),H2,I3,rfl,q2⟩
theorem ps_dput (hu:X.A.units+1 < cLine)(ho:PE X o td)(hi:PE X i ty)(hv:PE X value tv)(hs:swapsWith value (some (.Subscript o i pos')) pos.line X.env=pure false) :
  PS X (.Assign [.Subscript o i pos'] value pos) (sDPut td ty tv):=by
 intro pins s σ H D I h
 refine wpAny_Assign_Subscript (thn (hv pins s σ H _ I h) fun r s1 ⟨v,H1,I1,rv,q1⟩=>thn (ho pins s1 σ H1 _ I1 q1) fun u s2 ⟨x,H2,I2,rx,q2⟩=>thn (hi pins s2 σ H2 _ I2 q2) fun iv s3 ⟨y,H3,I3,ry,a,H4,ex,g,q3⟩ => ?_) hs
 subst ex
 obtain rfl:u=Value.ref a:=rx
 exact d_setItem hu I3 g ry rv fun s4 I4=>⟨σ,H4,I4,q3⟩
end
theorem dk_empty {P:Program}{w:World}{H:Hp}(h:Heap)(hb:sysModules < h.objs.size):ObjOk P w H (h.push { cls:=.type "dict",data:=.dict #[] }) h.objs.size (.dK []) :=
 ⟨Nat.zero_le _,beq_eq_false_iff_ne.mpr (Ne.symm (Nat.ne_of_lt hb)),[],.nil,Heap.DictOf.new h⟩
def tDNewK:TE:=fun _ H Q=>∀ p,H p=none->Q (.ref p) (upd H p (.dK []))
def tDNewT:TE:=fun _ H Q=>∀ p,H p=none->Q (.ref p) (upd H p (.dT []))
section
variable {X:Cx}{pos:Pos}
theorem pe_dnewK:PE X (.Dict [] [] pos) tDNewK:=fun pins s σ H Q I h =>
 wpAny_Dict_empty ⟨.ref s.heap.objs.size,_,I.laid (a:=s.heap.objs.size) (o:=.dK []) (t':=s.toks) (fun _ _ q=>Heap.get?_push_of_some _ q) (Nat.le_refl _) (dk_empty s.heap I.big),rfl,h _ (I.hok.fresh (Nat.le_refl _))⟩
end
def tPairs:List (TE × TE)->St->Hp->(List (V × V)->Hp->Prop)->Prop
  | [],_,H,Q=>Q [] H
  | (tk,tv) :: r,σ,H,Q=>tk σ H fun x H1=>tv σ H1 fun y H2=>tPairs r σ H2 fun ps H3=>Q ((x,y) :: ps) H3
abbrev VV:List (V × V)->List (Value × Value)->Prop:=Paired fun p q=>RelV p.1 q.1/\RelV p.2 q.2
def PPs (X:Cx)(pos:Pos)(keys:List (Option Expr))(values:List Expr)(trs:List (TE × TE)):Prop :=
 ∀ (pins:List (Addr × Obj)) (s:Shared) (σ:St) (H:Hp) (Q:List (V × V)->Hp->Prop),Inv X pins σ H s->tPairs trs σ H Q ->
  wpAny (model X.prog X.w) X.A (evalPairs (pairTrees keys values X.env pos)) (fun vs s'=>∃ ps H',Inv X pins σ H' s'/\VV ps vs/\Q ps H') X.xe s
theorem pps_nil {X:Cx}{pos:Pos}:PPs X pos [] [] []:=fun pins s σ H Q I h=>pairTrees_nil_walk ⟨[],H,I,.nil,h⟩
theorem pps_cons {X:Cx}{pos:Pos}{k v:Expr}{ks:List (Option Expr)}{vs:List Expr}{tk tv:TE}{trs:List (TE × TE)}(hk:PE X k tk)(hv:PE X v tv)(hr:PPs X pos ks vs trs) :
  PPs X pos (some k :: ks) (v :: vs) ((tk,tv) :: trs):=fun pins s σ H Q I h =>
 pairTrees_cons_walk (thn (hk pins s σ H _ I h) fun u s1 ⟨x,H1,I1,rx,q1⟩=>thn (hv pins s1 σ H1 _ I1 q1) fun w2 s2 ⟨y,H2,I2,ry,q2⟩ =>
  thn (hr pins s2 σ H2 _ I2 q2) fun ws s3 ⟨ps,H3,I3,rel,q3⟩=>⟨(x,y) :: ps,H3,I3,.cons ⟨rx,ry⟩ rel,q3⟩)
def mergeK (kvs more:List (Key × V)):List (Key × V):=more.foldl (fun acc kv=>putK acc kv.1 kv.2) kvs
theorem KV.merge : ∀ {more:List (Key × V)} {rs:List (Key × Value)} {kvs:List (Key × V)} {vs:List (Key × Value)},KV more rs->KV kvs vs->KV (mergeK kvs more) (merged vs rs):=by
 intro more rs kvs vs r
 unfold KV at r
 induction r generalizing kvs vs with
 | nil=>intro q; exact q
 | @cons p q ps qs h t ih =>
  intro r0
  have e:KV (putK kvs p.1 p.2) (stored vs q.1 q.2):=by
   have:=r0.put p.1 h.2
   rw [<- h.1]; exact this
  exact ih e
theorem length_mergeK : ∀ (more kvs:List (Key × V)),(mergeK kvs more).length<=kvs.length+more.length
 | [],kvs=>by show kvs.length<=kvs.length+0; omega
 | p :: r,kvs=>by
  have h1:=length_mergeK r (putK kvs p.1 p.2)
  have h2:=length_putK kvs p.1 p.2
  show (mergeK (putK kvs p.1 p.2) r).length<=_
  rw [List.length_cons]; omega
theorem carries_of {P:Program}{w:World} : ∀ {kvs:List (Key × V)} {ws:List (Value × Value)},VV (kvs.map fun kv=>(kV kv.1,kv.2)) ws->∃ rs,Carries (mixKind P w) ws rs/\KV kvs rs
 | [],_,r=>by rw [List.map_nil] at r; cases r; exact ⟨[],True.intro,.nil⟩
 | p :: kvs,_,r=>by
  rw [List.map_cons] at r
  cases r with
  | @cons a b as bs h t =>
   obtain ⟨rs,c,q⟩:=carries_of (P:=P) (w:=w) t
   obtain ⟨b1,b2⟩:=b
   exact ⟨(p.1,b2) :: rs,⟨kV_is h.1,rfl,c⟩,.cons ⟨rfl,h.2⟩ q⟩
def tDisp (trs:List (TE × TE)):TE:=fun σ H Q=>∀ p,H p=none->tPairs trs σ (upd H p (.dK [])) fun ps H2=>H2 p=some (.dK [])/\∃ kvs:List (Key × V),ps=kvs.map (fun kv=>(kV kv.1,kv.2))/\kvs.length<=15/\Q (.ref p) (upd H2 p (.dK (mergeK [] kvs)))
theorem pe_disp {X:Cx}{pos:Pos}{keys:List (Option Expr)}{values:List Expr}{trs:List (TE × TE)}(h:PPs X pos keys values trs)(hall:keys.all (·.isSome)=true)(hl:keys.length=values.length)(h0:keys ≠ [])
  (h15:keys.length<=15):PE X (.Dict keys values pos) (tDisp trs):=by
 intro pins s σ H Q I q
 have hn:=I.hok.fresh (Nat.le_refl s.heap.objs.size)
 have I1:=I.laid (a:=s.heap.objs.size) (o:=.dK []) (h':=s.heap.push { cls:=.type "dict",data:=.dict #[] }) (t':=s.toks) (fun _ _ q=>Heap.get?_push_of_some _ q) (Nat.le_refl _) (dk_empty s.heap I.big)
 refine wpAny_Dict_walk (knd:=mixKind X.prog X.w) hall hl h0 h15 (thn (h pins _ σ _ _ I1 (q _ hn)) fun ws s2 ⟨ps,H2,I2,rel,e,kvs,ep,lk,q2⟩ => ?_)
 subst ep
 obtain ⟨rs,c,rk⟩:=carries_of (P:=X.prog) (w:=X.w) rel
 obtain ⟨z,hd,vs0,r0,dd⟩:=dk_of I2.hok e
 cases r0
 refine ⟨rs,c,dd,fun h' dd' hs=>⟨.ref s.heap.objs.size,_,?_,rfl,q2⟩⟩
 have hz:(mergeK [] kvs).length<=sizeLine:=by
  have h1:=length_mergeK kvs []
  rw [List.length_nil] at h1
  rw [sizeLine_eq]; omega
 have he : ∃ q,h'.get? s.heap.objs.size=some q:=let ⟨q,_,_,hq,_⟩:=dd'; ⟨q,hq⟩
 exact d_write I2 (by rw [e]; exact True.intro) hs he (dk_new hz hd (rk.merge .nil) dd')
structure M1 (X:Cx)(o:Expr)(m:Str)(apos:Pos)(e:Expr)(cpos:Pos):Prop where
 base:attributeBase o m X.env (eval o X.env)=eval o X.env
 few:((backTo cpos (starEach [e] X.env)).all (fun x => !x.1) && (backToKw cpos (keywordEach [] X.env)).all (fun x=>x.1.isSome)
  && decide (([e]:List Expr).length+([]:List Keyword).length+(if ([]:List Keyword).isEmpty then 0 else 1) < 30))=true
 line:(apos.endLine == cpos.line)=true
 trees:backTo cpos (starEach [e] X.env)=[(false,eval e X.env)]
structure M2 (X:Cx)(o:Expr)(m:Str)(apos:Pos)(e f:Expr)(cpos:Pos):Prop where
 base:attributeBase o m X.env (eval o X.env)=eval o X.env
 few:((backTo cpos (starEach [e,f] X.env)).all (fun x => !x.1) && (backToKw cpos (keywordEach [] X.env)).all (fun x=>x.1.isSome)
  && decide (([e,f]:List Expr).length+([]:List Keyword).length+(if ([]:List Keyword).isEmpty then 0 else 1) < 30))=true
 line:(apos.endLine == cpos.line)=true
 trees:backTo cpos (starEach [e,f] X.env)=[(false,eval e X.env),(false,eval f X.env)]
def IsD (H:Hp)(a:Addr):Prop:=(∃ kvs,Rd H a (.dK kvs))\/∃ kvs,Rd H a (.dT kvs)
theorem isD_at {X:Cx}{pins:List (Addr × Obj)}{σ:St}{H:Hp}{s:Shared}{a:Addr}(I:Inv X pins σ H s)(d:IsD H a) :
  s.TypeIs (.ref a) "dict" /\ (∀ b,Value.ref a = .ref b->∃ ob,s.heap.get? b=some ob/\ob.dict=none)/\(a == sysModules)=false:=by
 rcases d with ⟨kvs,e⟩ | ⟨kvs,e⟩
 ·obtain ⟨_,hd,vs,_,dd⟩:=dk_rd I.hok e
  refine ⟨dd.typeIs,fun b q => ?_,hd⟩
  cases q
  obtain ⟨ob,_,_,h1,h2,_⟩:=dd
  exact ⟨ob,h1,h2.2.1⟩
 ·obtain ⟨_,hd,xs,_,dd⟩:=dt_rd I.hok e
  refine ⟨dd.typeIs,fun b q => ?_,hd⟩
  cases q
  obtain ⟨ob,_,_,h1,h2,_⟩:=dd
  exact ⟨ob,h1,h2.2.1⟩
section
variable {X:Cx}{pins:List (Addr × Obj)}{σ:St}{H:Hp}{s:Shared}{a:Addr}{y d:V}{u r:Value}{o:Option V}{A:Around}{E:Value->Shared->Prop}
theorem d_get1 {Q:Value->Shared->Prop}(hu:A.units+1 < cLine)(I:Inv X pins σ H s)(g:DGet H a y o)(ry:RelV y u)(h : ∀ w' s',Inv X pins σ H s'->RelV (o.getD .non) w'->Q w' s') :
  wpAny (model X.prog X.w) A (call (.builtin "dict.get") [.ref a,u]) Q E s:=by
 rcases g with ⟨kvs,k,e,ey,l⟩ | ⟨kvs,k,b,e,ey,eb,l⟩
 ·subst ey
  obtain ⟨z,hd,vs,rel,dd⟩:=dk_rd I.hok e
  refine call_meetsIn PySem.F.slot_dict_get dd.typeIs PySem.F.entry_dict_get (PySem.F.args_dict_get_2 _ _) (meets_dict_get (mixKind X.prog X.w) a (kV_is ry) hd) ⟨_,dd.mapOf,h _ _ (I.tok _) ?_⟩
  rw [l]
  exact (rel.val k).getD rfl
 ·subst ey
  cases (show u=Value.ref b from ry)
  obtain ⟨z,hd,xs,rel,dd⟩:=dt_rd I.hok e
  refine call_meetsIn PySem.F.slot_dict_get dd.typeIs PySem.F.entry_dict_get (PySem.F.args_dict_get_2 _ _) (meetsH_dict_get (tupleKind (mixKind X.prog X.w)) a b hd) ⟨tupleKind_room_in1 hu,k,xs,key_of I.hok eb,dd,h _ _ (I.tok _) ?_⟩
  rw [l]
  exact (rel.val k).getD rfl
theorem d_get2 {Q:Value->Shared->Prop}(hu:A.units+1 < cLine)(I:Inv X pins σ H s)(g:DGet H a y o)(ry:RelV y u)(rd:RelV d r)(h : ∀ w' s',Inv X pins σ H s'->RelV (o.getD d) w'->Q w' s') :
  wpAny (model X.prog X.w) A (call (.builtin "dict.get") [.ref a,u,r]) Q E s:=by
 rcases g with ⟨kvs,k,e,ey,l⟩ | ⟨kvs,k,b,e,ey,eb,l⟩
 ·subst ey
  obtain ⟨z,hd,vs,rel,dd⟩:=dk_rd I.hok e
  refine call_meetsIn PySem.F.slot_dict_get dd.typeIs PySem.F.entry_dict_get (PySem.F.args_dict_get_3 _ _ _) (meets_dict_get_default (mixKind X.prog X.w) a (kV_is ry) hd r) ⟨_,dd.mapOf,h _ _ (I.tok _) ?_⟩
  rw [l]
  exact (rel.val k).getD rd
 ·subst ey
  cases (show u=Value.ref b from ry)
  obtain ⟨z,hd,xs,rel,dd⟩:=dt_rd I.hok e
  refine call_meetsIn PySem.F.slot_dict_get dd.typeIs PySem.F.entry_dict_get (PySem.F.args_dict_get_3 _ _ _) (meetsH_dict_get_default (tupleKind (mixKind X.prog X.w)) a b hd r) ⟨tupleKind_room_in1 hu,k,xs,key_of I.hok eb,dd,h _ _ (I.tok _) ?_⟩
  rw [l]
  exact (rel.val k).getD rd
end
def tDGet1 (td ty:TE):TE:=fun σ H Q=>td σ H fun x H1=>∃ a,x = .ref a/\IsD H1 a/\ty σ H1 fun y H2=>∃ o,DGet H2 a y o/\Q (o.getD .non) H2
def tDGet2 (td ty tx:TE):TE:=fun σ H Q=>td σ H fun x H1=>∃ a,x = .ref a/\IsD H1 a/\ty σ H1 fun y H2=>tx σ H2 fun z H3=>∃ o,DGet H3 a y o/\Q (o.getD z) H3
def tDPop1 (td ty:TE):TE:=fun σ H Q=>td σ H fun x H1=>∃ a,x = .ref a/\IsD H1 a/\ty σ H1 fun y H2=>∃ kvs k v,H2 a=some (.dK kvs)/\y=kV k/\valV kvs k=some v/\Q v (upd H2 a (.dK (dropK kvs k)))
def tDPop2 (td ty tx:TE):TE:=fun σ H Q=>td σ H fun x H1=>∃ a,x = .ref a/\IsD H1 a/\ty σ H1 fun y H2=>tx σ H2 fun z H3=>∃ kvs k,H3 a=some (.dK kvs)/\y=kV k /\
 (∀ v,valV kvs k=some v->Q v (upd H3 a (.dK (dropK kvs k))))/\(valV kvs k=none->Q z H3)
section
variable {X:Cx}{o e f:Expr}{apos cpos:Pos}{td ty tx:TE}
theorem pe_dget1 (hu:X.A.units+1 < cLine)(ho:PE X o td)(he:PE X e ty)(m:M1 X o "get" apos e cpos):PE X (.Call (.Attribute o "get" apos) [e] [] cpos) (tDGet1 td ty):=by
 intro pins s σ H Q I h
 refine wpAny_Call_method m.base m.few m.line PySem.F.plainAttrs_dict PySem.F.slot_dict_get PySem.F.type_dict_get (thn (ho pins s σ H _ I h) fun u s1 ⟨x,H1,I1,rx,a,ex,d,q1⟩ => ?_)
 subst ex
 obtain rfl:u=Value.ref a:=rx
 obtain ⟨t1,t2,_⟩:=isD_at I1 d
 refine ⟨t1,t2,?_⟩
 rw [m.trees]
 refine Calls.callWith_builtin rfl (Calls.evalArgs_plain (Calls.spliced_cons (thn (he pins s1 σ H1 _ I1 q1) fun iv s2 ⟨y,H2,I2,ry,ov,g,q2⟩=>Calls.spliced_nil ?_)))
 exact d_get1 hu I2 g ry fun w' s3 I3 rw'=>⟨_,H2,I3,rw',q2⟩
theorem pe_dget2 (hu:X.A.units+1 < cLine)(ho:PE X o td)(he:PE X e ty)(hf:PE X f tx)(m:M2 X o "get" apos e f cpos):PE X (.Call (.Attribute o "get" apos) [e,f] [] cpos) (tDGet2 td ty tx):=by
 intro pins s σ H Q I h
 refine wpAny_Call_method m.base m.few m.line PySem.F.plainAttrs_dict PySem.F.slot_dict_get PySem.F.type_dict_get (thn (ho pins s σ H _ I h) fun u s1 ⟨x,H1,I1,rx,a,ex,d,q1⟩ => ?_)
 subst ex
 obtain rfl:u=Value.ref a:=rx
 obtain ⟨t1,t2,_⟩:=isD_at I1 d
 refine ⟨t1,t2,?_⟩
 rw [m.trees]
 refine Calls.callWith_builtin rfl (Calls.evalArgs_plain (Calls.spliced_cons (thn (he pins s1 σ H1 _ I1 q1) fun iv s2 ⟨y,H2,I2,ry,q2⟩ =>
  Calls.spliced_cons (thn (hf pins s2 σ H2 _ I2 q2) fun fv s3 ⟨z,H3,I3,rz,ov,g,q3⟩=>Calls.spliced_nil ?_))))
 exact d_get2 hu I3 g ry rz fun w' s4 I4 rw'=>⟨_,H3,I4,rw',q3⟩
end
section
variable {X:Cx}{pins:List (Addr × Obj)}{σ:St}{H:Hp}{s:Shared}{a:Addr}{kvs:List (Key × V)}{A:Around}{E:Value->Shared->Prop}
theorem d_copyOf {Q:Value->Shared->Prop}(I:Inv X pins σ H s)(e:Rd H a (.dK kvs))(h : ∀ p s',H p=none->Inv X pins σ (upd H p (.dK kvs)) s'->Q (.ref p) s'):wpAny (model X.prog X.w) A (call (.type "dict") [.ref a]) Q E s:=by
 obtain ⟨z,hd,vs,rel,dd⟩:=dk_rd I.hok e
 refine kt_call_dict hd dd (by rw [<- rel.length]; exact z) fun h' dd' hs => ?_
 refine h _ _ (I.hok.fresh (Nat.le_refl _)) (I.laid (a:=s.heap.objs.size) (o:=.dK kvs) (t':=s.toks) (fun b q hq => ?_) (Nat.le_refl _) (dk_new z (beq_eq_false_iff_ne.mpr (Ne.symm (Nat.ne_of_lt I.big))) rel dd'))
 exact (hs.2 b (Nat.ne_of_lt (Heap.lt_size hq))).trans (Heap.get?_push_of_some _ hq)
end
section
variable {X:Cx}{pins:List (Addr × Obj)}{σ:St}{H:Hp}{s:Shared}{a:Addr}{y:V}{u:Value}{A:Around}{E:Value->Shared->Prop}
end
end L2
namespace L2
open PySem PySem.Spec PyProof.Rows
theorem vals_of_strs : ∀ {us:List Value} {ss:List Str},StrsAre us ss->Vals (ss.map V.str) us
 | _,_,.nil=>.nil
 | _,_,.cons _ _ h=>.cons ⟨_,rfl⟩ (vals_of_strs h)
theorem lst_ok {P:Program}{w:World}{H:Hp}{h:Heap}{a:Addr}{xs:List V}{its:List Value}{e:Nat}(hv:Vals xs its)(hz:xs.length<=sizeLine)(ho:h.get? a=some (seqObj "list" its.toArray e)):ObjOk P w H h a (.lst xs):=⟨hz,its,e,hv,ho⟩
section
variable {X:Cx}
def rSortS (K:PySem.W.Frag):List V->Hp->VK->Prop:=fun xs H Q=>∃ a,∃ ss:List Str,xs=[.ref a]/\SqL K H a (ss.map V.str)/\ss.length < 64/\∀ (p:Addr) (ss':List Str),ss'.Perm ss->sortedS ss'=true->H p=none->Q (.ref p) (upd H p (.lst (ss'.map V.str)))
def rSortI (K:PySem.W.Frag):List V->Hp->VK->Prop:=fun xs H Q=>∃ a,∃ ns:List Int,xs=[.ref a]/\SqL K H a (ns.map V.int)/\ns.length < 64/\∀ (p:Addr) (ns':List Int),ns'.Perm ns->ns'.Pairwise (· <= ·)->H p=none->Q (.ref p) (upd H p (.lst (ns'.map V.int)))
theorem keys_strs {P:Program}{w:World} : ∀ {ss:List Str} {vs:List (Key × Value)} {acc:List Value},vs.map (·.1)=ss.map Sum.inr->acc.length=vs.length->(∀ (j:Nat) (v:Value),acc[j]?=some v->∃ k x,vs[j]?=some (k,x)/\(mixKind P w).is k v=true)->StrsAre acc ss
 | [],[],[],_,_,_=>.nil
 | [],_ :: _,_,e,_,_=>by simp at e
 | _ :: _,[],_,e,_,_=>by simp at e
 | [],[],_ :: _,_,l,_=>by simp at l
 | _ :: _,_ :: _,[],_,l,_=>by simp at l
 | x :: ss,(k,y) :: vs,v :: acc,e,l,h=>by
  simp only [List.map_cons,List.cons.injEq] at e
  obtain ⟨e1,e2⟩:=e
  obtain ⟨k',x',h1,h2⟩:=h 0 v rfl
  simp at h1
  obtain ⟨rfl,rfl⟩:=h1
  subst e1
  obtain ⟨t,rfl⟩:=Value.isStrOf_shape (x:=x) (v:=v) h2
  exact .cons _ _ (keys_strs e2 (by simpa using l) fun j v hv=>h (j+1) v (by simpa using hv))
theorem sorted_dict {Q:Value->Shared->Prop}{A:Around}{E:Value->Shared->Prop}{pins:List (Addr × Obj)}{σ:St}{H:Hp}{s:Shared}{a:Addr}{kvs:List (Key × V)}(hh:A.handled=none)(I:Inv X pins σ H s)(hH:H a=some (.dK kvs))
  (h : ∀ (h':Heap) (tk:Nat) (acc:List Value) (vs:List (Key × Value)),KV kvs vs->acc.length=vs.length->(∀ (j:Nat) (v:Value),acc[j]?=some v->∃ k x,vs[j]?=some (k,x)/\(mixKind X.prog X.w).is k v=true)->(∀ b o,s.heap.get? b=some o->h'.get? b=some o) ->
   wpAny (model X.prog X.w) A.in1 (call (.builtin "list.sort") [.ref h'.objs.size]) (fun _ s'=>Q (.ref h'.objs.size) s') E { s with heap:=h'.push (seqObj "list" acc.toArray 0),toks:=tk }) :
  wpAny (model X.prog X.w) A (call (.builtin "sorted") [.ref a]) Q E s:=by
 obtain ⟨z,lo,vs,rel,dd⟩:=dk_of I.hok hH
 obtain ⟨ep,hat⟩:=dd.dictAt
 have hlen:=rel.length
 refine Calls.call_function_entry kind_sorted plain_sorted entry_sorted (args_sorted1 _) ?_
 unfold Builtin.«sorted»
 refine wpAny_bind (m:=checkCount "sorted" 1 1 _) (wpAny_pure ?_)
 refine wpAny_bind (PySem.W.kdu_collect (A:=A.in1) (PySem.W.kdl_dict (knd:=mixKind X.prog X.w) (kvs:=vs) (ep:=ep) lo) hh hat (by rw [<- hlen]; exact z) fun h' tk acc hk hacc => ?_)
 have hl:acc.toList.length=vs.length:=by rw [Array.length_toList]; exact hacc.1
 refine wpAny_bind (wpAny_newList ?_ (by rw [hl,<- hlen]; exact z))
 have hg:=h h' tk acc.toList vs rel hl (fun j v e=>hacc.2 j v (by rw [<- Array.getElem?_toList]; exact e)) hk
 refine wpAny_bind (wpAny_holding (wpAny_mono hg (fun _ s' x => ?_) fun _ _ e=>e))
 exact wpAny_pure ⟨_,rfl,x⟩
def rSortDS:List V->Hp->VK->Prop:=fun xs H Q=>∃ a kvs,∃ ss:List Str,xs=[.ref a]/\H a=some (.dK kvs)/\kvs.map (·.1)=ss.map Sum.inr/\kvs.length < 64/\∀ (p:Addr) (ss':List Str),ss'.Perm ss->sortedS ss'=true->H p=none->Q (.ref p) (upd H p (.lst (ss'.map V.str)))
theorem call_sortDS (hc:X.calm=true):CallR X (.builtin "sorted") rSortDS:=by
 intro pins s σ H xs us Q I r h
 obtain ⟨a,kvs,ss,rfl,hH,hk,h64,q⟩:=h
 obtain ⟨u,rfl,rx⟩:=vals1 r
 cases rx
 refine sorted_dict (I.ok.hd hc) I hH fun h' tk acc vs rel hl hacc keep => ?_
 have hS:=keys_strs (ss:=ss) (by rw [<- rel.keys]; exact hk) hl hacc
 have hlen:=rel.length
 have hssl:ss.length=kvs.length:=by
  have:=congrArg List.length hk
  rw [List.length_map,List.length_map] at this
  exact this.symm
 have hoL:(h'.push (seqObj "list" acc.toArray 0)).get? h'.objs.size=some (seqObj "list" acc.toArray 0):=Heap.get?_push_size _ rfl
 refine wpAny_call_entry slot_list_sort ⟨_,hoL,rfl⟩ entry_list_sort (list_sort_treeK strKind_oneLt hoL hS.keysOf (fun v₁ v₂ rest e=>keyKind_strs (by rw [<- e]; exact hS)) (by omega) fun st' hp hs=>⟨_,rfl,?_⟩) (args_list_sort _)
 obtain ⟨ss',a1,a2,a3⟩:=sorted_out_str hS hp hs
 obtain ⟨e,he⟩ : ∃ e,(sortedHeap (h'.push (seqObj "list" acc.toArray 0)) h'.objs.size acc ((arrOf st').map (·.2))).get? h'.objs.size=some (seqObj "list" ((arrOf st').map (·.2)) e):=sortedHeap_at hoL
 have I1:=I.kept (t':=tk) keep
 refine ⟨.ref h'.objs.size,_,I1.laid (a:=h'.objs.size) (o:=.lst (ss'.map V.str)) (t':=tk) (fun b o hb' => ?_) (Nat.le_refl _) (lst_ok (its:=((arrOf st').map (·.2)).toList) (e:=e) (vals_of_strs a1) ?_ (by rw [Array.toArray_toList]; exact he)),rfl,q _ ss' a2 a3 (I1.hok.fresh (Nat.le_refl _))⟩
 ·have lt:=Heap.lt_size hb'
  rw [sortedHeap_old (Nat.ne_of_lt lt) (by rw [Heap.size_push]; exact Nat.lt_succ_of_lt lt)]
  exact Heap.get?_push_of_some _ hb'
 ·rw [List.length_map,a2.length_eq]
  exact sz1000 (by omega)
def rSortDI:List V->Hp->VK->Prop:=fun xs H Q=>∃ a kvs,∃ ns:List Int,xs=[.ref a]/\H a=some (.dK kvs)/\kvs.map (·.1)=ns.map Sum.inl/\kvs.length < 64/\∀ (p:Addr) (ns':List Int),ns'.Perm ns->ns'.Pairwise (· <= ·)->H p=none->Q (.ref p) (upd H p (.lst (ns'.map V.int)))
end
end L2
namespace L2
open PySem PySem.Spec PyProof.Rows
variable {X:Cx}
theorem Vals.of_get : ∀ {xs:List V} {us:List Value},xs.length=us.length->(∀ (i:Nat) (x:V) (u:Value),xs[i]?=some x->us[i]?=some u->RelV x u)->Vals xs us
 | [],[],_,_=>.nil
 | x :: xs,u :: us,hl,h=>.cons (h 0 x u rfl rfl) (Vals.of_get (by simpa using hl) fun i y v hy hv=>h (i+1) y v (by simpa using hy) (by simpa using hv))
 | [],_ :: _,hl,_=>by simp at hl
 | _ :: _,[],hl,_=>by simp at hl
theorem KV.at {kvs:List (Key × V)}{vs:List (Key × Value)}(r:KV kvs vs) : ∀ {i:Nat} {kv:Key × V} {k:Key} {v:Value},kvs[i]?=some kv->vs[i]?=some (k,v)->RelV kv.2 v:=by
 unfold KV at r
 induction r with
 | nil=>intro i _ _ _ h; simp at h
 | cons h _ ih =>
  intro i kv k v h1 h2
  cases i with
  | zero =>
   cases h1
   cases h2
   exact h.2
  | succ i=>exact ih (by simpa using h1) (by simpa using h2)
def tRev (K:PySem.W.Frag)(te:TE)(tk:TO):TE:=fun σ H Q=>te σ H fun x H1=>tk σ H1 fun st H2=>st=some (-1)/\∃ a xs,x = .ref a/\SqL K H2 a xs/\∀ p,H2 p=none->Q (.ref p) (upd H2 p (.lst xs.reverse))
def tListRng (ta:TA):TE:=fun σ H Q=>ta σ H fun vs H1=>∃ i j:Int,vs=[.int i,.int j]/\(-(2 ^ 62)<=i/\i < 2 ^ 62 /\ -(2 ^ 62)<=j/\j < 2 ^ 62)/\(j - i).toNat<=1000/\∀ p,H1 p=none->Q (.ref p) (upd H1 p (.lst (rngV i (j - i).toNat)))
def tListVals (td:TE):TE:=fun σ H Q=>td σ H fun x H1=>∃ a kvs,x = .ref a/\H1 a=some (.dK kvs)/\∀ p,H1 p=none->Q (.ref p) (upd H1 p (.lst (kvs.map (·.2))))
theorem val_vals {kvs:List (Key × V)}{vs:List (Key × Value)}{acc:Array Value}(r:KV kvs vs)(h:ItemsOf (fun i v=>∃ k,vs[i]?=some (k,v)) acc vs.length):Vals (kvs.map (·.2)) acc.toList:=by
 refine Vals.of_get (by rw [List.length_map,r.length]; exact h.1.symm) fun i x u hx hu => ?_
 obtain ⟨k,hk⟩:=h.2 i u (by rw [<- Array.getElem?_toList]; exact hu)
 rw [List.getElem?_map] at hx
 obtain ⟨kv,hkv,rfl⟩:=Option.map_eq_some_iff.mp hx
 exact KV.at r hkv hk
end L2
namespace L2
open PySem PySem.Spec PyProof.Rows
def Itz2 (K:PySem.W.Frag)(a b:Addr):It :=
  ⟨fun i H=>∃ xs ys,SqT K H a xs/\SqT K H b ys/\i < xs.length/\i < ys.length,
   fun i H v H'=>∃ T,H T=none/\v = .ref T/\∀ xs ys,SqT K H a xs->SqT K H b ys->∃ x y,xs[i]?=some x/\ys[i]?=some y/\H'=upd H T (.tup [x,y]),
   fun i H=>∃ xs ys,SqT K H a xs/\SqT K H b ys/\(i=xs.length\/(i < xs.length/\i=ys.length))⟩
def ZipSt2 (n a b:Nat)(i:Nat)(h:Heap):Prop:=IsZip h (n+4) (n+2) (n+3) .none/\IsPair h (n+2) (.ref n) (.ref (n+1))/\(∃ x y,IsPair h (n+3) x y)/\h.IsTupleIter n a i/\h.IsTupleIter (n+1) b i
abbrev yo1 (h:Heap)(a:Addr):Heap:=h.push { cls:=.type "tuple_iterator",data:=.fields #[.ref a,.int 0 0] }
abbrev yo2 (h:Heap)(a b:Addr):Heap:=(yo1 h a).push { cls:=.type "tuple_iterator",data:=.fields #[.ref b,.int 0 0] }
abbrev yo3 (h:Heap)(a b:Addr):Heap:=(yo2 h a b).push { cls:=.type "tuple",data:=.seq #[.ref h.objs.size,.ref (yo1 h a).objs.size] }
abbrev yo4 (h:Heap)(a b:Addr):Heap:=(yo3 h a b).push { cls:=.type "tuple",data:=.seq #[.none,.none] }
abbrev yo5 (h:Heap)(a b:Addr):Heap:=(yo4 h a b).push { cls:=.type "zip",data:=.fields #[.none,.bool false,.bool false,.ref (yo2 h a b).objs.size,.ref (yo3 h a b).objs.size] }
def iZip2 (K:PySem.W.Frag)(ta:TA):TI:=fun σ H R=>ta σ H fun vs H1=>∃ a b,vs=[.ref a,.ref b]/\(∃ xs,SqT K H1 a xs)/\(∃ ys,SqT K H1 b ys)/\R (Itz2 K a b) H1
end L2
namespace L2
open PySem PySem.Spec PyProof.Rows
variable {X:Cx}
def rListD:List V->Hp->VK->Prop:=fun xs H Q=>∃ a kvs,∃ ss:List Str,xs=[.ref a]/\H a=some (.dK kvs)/\kvs.map (·.1)=ss.map Sum.inr/\∀ p,H p=none->Q (.ref p) (upd H p (.lst (ss.map V.str)))
theorem strs_vals : ∀ {ss:List Str} {us:List Value},StrsAre us ss->Vals (ss.map V.str) us
 | _,_,.nil=>.nil
 | _,_,.cons x t r=>.cons ⟨t,rfl⟩ (strs_vals r)
theorem call_listD (hc:X.calm=true):CallR X (.type "list") rListD:=by
 intro pins s σ H xs us Q I r h
 obtain ⟨a,kvs,ss,rfl,hH,hk,q⟩:=h
 obtain ⟨u,rfl,rx⟩:=vals1 r
 cases rx
 obtain ⟨z,lo,vs,rel,dd⟩:=dk_of I.hok hH
 obtain ⟨ep,hat⟩:=dd.dictAt
 refine PySem.W.kdl_call (PySem.W.kdl_dict (knd:=mixKind X.prog X.w) (kvs:=vs) (ep:=ep) lo) (I.ok.hd hc) hat (by rw [<- rel.length]; exact z) fun h' tk acc' c' hk' hS' hacc => ?_
 have hl:acc'.toList.length=vs.length:=by rw [Array.length_toList]; exact hacc.1
 have hS:=keys_strs (P:=X.prog) (w:=X.w) (ss:=ss) (vs:=vs) (acc:=acc'.toList) (by rw [<- rel.keys]; exact hk) hl (fun j v e=>hacc.2 j v (by rw [<- Array.getElem?_toList]; exact e))
 have hss:ss.length=kvs.length:=by
  have:=congrArg List.length hk
  rw [List.length_map,List.length_map] at this
  exact this.symm
 refine ⟨.ref _,_,I.laid (o:=.lst (ss.map V.str)) hk' (Nat.le_refl _) ?_,rfl,q _ (I.hok.fresh (Nat.le_refl _))⟩
 exact ⟨by rw [List.length_map,hss]; exact z,acc'.toList,c',strs_vals hS,hS'⟩
def tListRng3 (ta:TA):TE:=fun σ H Q=>ta σ H fun vs H1=>∃ i j c:Int,vs=[.int i,.int j,.int c]/\(-(2 ^ 20)<=i/\i < 2 ^ 20 /\ -(2 ^ 20)<=j/\j < 2 ^ 20/\1<=c/\c < 2 ^ 20)/\(j - i) / c<=900 /\
 ∀ p (ms:List Int),(∀ x ∈ ms,i<=x/\x < j)->(ms.length:Int)<=max 0 ((j - i - 1) / c+1)->H1 p=none->Q (.ref p) (upd H1 p (.lst (ms.map V.int)))
end L2
namespace L2
open PySem PySem.Spec PyProof.Rows
variable {X:Cx}
theorem Inv.freeze {pins:List (Addr × Obj)}{σ:St}{H:Hp}{s:Shared}(I:Inv X pins σ H s){d:Addr}{kvs:List (Key × V)}{ob:Obj}(hH:H d=some (.dK kvs))(ho:s.heap.get? d=some ob) :
  Inv X pins σ (upd H d (.frz ob (.dK kvs))) s:=by
 have nd : ∀ b u,H b=some u->u ≠ .dK kvs->b ≠ d:=fun b u e n z=>by
  rw [z,hH] at e
  exact n (Option.some.inj e).symm
 refine I.step (g':=s.gens) (d':=s.drawn) (t':=s.toks) (h':=s.heap) (ch:=[]) (fun _ z=>nomatch z) (fun b o _ _ _ e _=>e) (fun b o _ _ _ e _=>⟨o.slots,e⟩) (fun b o _ e n => ?_) (fun b o _ e=>⟨o,e⟩) (fun b xs e => ?_) (fun b o u e => ?_) (fun b ps e=>⟨#[],?_⟩) (fun m hm=>hm) (fun b u e => ?_) I.bare
 ·rw [upd_ne (fun z=>by rw [z,hH] at n; cases n)]
  exact n
 ·rw [upd_ne (nd b _ e (by intro z; cases z))]
  exact e
 ·rw [upd_ne (nd b _ e (by intro z; cases z))]
  exact e
 ·rw [upd_ne (nd b _ e (by intro z; cases z)),e]
  simp
 ·have st : ∀ {a:Addr} {u:HO},ObjOk X.prog X.w H s.heap a u->ObjOk X.prog X.w (upd H d (.frz ob (.dK kvs))) s.heap a u:=fun x =>
   x.stay (fun c v _ q=>q) (fun c q=>by rw [upd_ne (nd c _ q (by intro z; cases z))]; exact q) fun c xs q=>by rw [upd_ne (nd c _ q (by intro z; cases z))]; exact q
  by_cases e':b=d
  ·subst e'
   rw [upd_same] at e
   cases e
   exact ⟨ho,st (I.hok b _ hH)⟩
  ·rw [upd_ne e'] at e
   exact st (I.hok b u e)
def Itd (d:Addr)(ob:Obj)(kvs:List (Key × V)):It :=
 ⟨fun i H=>H d=some (.frz ob (.dK kvs))/\i < kvs.length,fun i H v H'=>H'=H/\∃ kv,kvs[i]?=some kv/\v=kV kv.1,fun i H=>H d=some (.frz ob (.dK kvs))/\kvs.length<=i⟩
theorem key_rel {P:Program}{w:World}{k:Key}{v:Value}(h:(mixKind P w).is k v=true):RelV (kV k) v:=by
 cases k with
 | inl n =>
  obtain ⟨t,rfl⟩:=Value.isInt_shape (k:=n) (v:=v) h
  exact ⟨t,rfl⟩
 | inr x =>
  obtain ⟨t,rfl⟩:=Value.isStrOf_shape (x:=x) (v:=v) h
  exact ⟨t,rfl⟩
theorem turn_dict {P:Program}{w:World}{K:PySem.W.Frag}{tg:Expr}(d it:Addr)(ob:Obj)(kvs:List (Key × V))(vs:List (Key × Value))(ep:Nat)(rel:KV kvs vs)(hob : ∀ h:Heap,h.get? d=some ob->h.DictAt (mixKind P w) d vs ep) :
  Turn P w K tg (Itd d ob kvs) [it] it (fun i h=>h.IsKeyIter it d i vs.length ep) where
 mem:=by simp
 obj:=fun i h st b hb=>by
  have e:b=it:=by simpa using hb
  subst e
  obtain ⟨o,e,c,d⟩:=st
  exact ⟨o,e,fun v z=>by rw [d] at z; cases z⟩
 keep:=fun i h h' st k=>st.at fun o e=>k it (by simp) o e
 item:=by
  intro X hP hw hK hc i pins s σ H E I hf st hg
  subst hP hw hK
  obtain ⟨hfz,hi⟩:=hg
  have ho:s.heap.get? d=some ob:=(show ObjOk X.prog X.w H s.heap d (.frz ob (.dK kvs)) from I.hok d _ hfz).1
  have hat:=hob _ ho
  have hl:=rel.length
  obtain ⟨⟨k,x⟩,hx⟩ : ∃ p,vs[i]?=some p:=⟨_,List.getElem?_eq_getElem (by omega)⟩
  obtain ⟨f0,f1,f2,f3,f4,f5⟩:=hf it (by simp)
  refine wpAny_pyNext_dict_item st hat hx fun key h' hkey st' sb => ?_
  have I1:Inv X pins σ H { s with heap:=h' }:=I.turned (t':=s.toks) (fun b o hb e=>(sb.2 b hb).trans e) f0 f1 f3 f4 f5
  obtain ⟨kv,hkv⟩ : ∃ kv,kvs[i]?=some kv:=⟨_,List.getElem?_eq_getElem hi⟩
  have ek:kv.1=k:=by
   have:=congrArg (fun l=>l[i]?) rel.keys
   simp only [List.getElem?_map,hkv,hx,Option.map_some] at this
   exact Option.some.inj this
  obtain ⟨o,e,c,d'⟩:=id st'
  exact ⟨key,rfl,go_of (s:={ s with heap:=h' }) e c d' (by decide) ⟨kV k,H,I1,key_rel hkey,⟨rfl,kv,hkv,by rw [ek]⟩,st',fun b hb=>(hf b hb).1⟩⟩
 done:=by
  intro X hP hw hK hc i pins s σ H E I hf st hg
  subst hP hw hK
  obtain ⟨hfz,hi⟩:=hg
  have ho:s.heap.get? d=some ob:=(show ObjOk X.prog X.w H s.heap d (.frz ob (.dK kvs)) from I.hok d _ hfz).1
  have hat:=hob _ ho
  have hl:=rel.length
  obtain ⟨f0,f1,f2,f3,f4,f5⟩:=hf it (by simp)
  exact wpAny_pyNext_dict_end (I.ok.hd hc) st hat (List.getElem?_eq_none (by omega)) fun h' eb=>⟨rfl,I.turned (t':=s.toks) (fun b o hb e=>eb b o hb e) f0 f1 f3 f4 f5⟩
 self:=fun _ _ _ _ _ st h=>wpAny_pyIter_keyiter st h
def iDict (tl:TE):TI:=fun σ H R=>tl σ H fun x H1=>∃ d kvs,x = .ref d/\H1 d=some (.dK kvs)/\∀ ob,R (Itd d ob kvs) (upd H1 d (.frz ob (.dK kvs)))
theorem pi_dict {tg l:Expr}{tl:TE}(hl:PE X l tl):PI X tg l (iDict tl):=by
 intro pins s σ H R I h
 refine thn (hl pins s σ H _ I h) fun v s1 ⟨x,H1,I1,r1,q1⟩ => ?_
 obtain ⟨d,kvs,e,hH,q⟩:=q1
 subst e
 cases r1
 obtain ⟨z,lo,vs,rel,dd⟩:=dk_of I1.hok hH
 obtain ⟨ep,hat⟩:=dd.dictAt
 obtain ⟨ob,es,ho,rest⟩:=id hat
 refine wpAny_pyIter_dict lo hat ?_
 have I2:=I1.freeze hH ho
 refine ⟨s1.heap.objs.size,[s1.heap.objs.size],_,_,_,rfl,I2.kept (t':=s1.toks) fun b o e=>Heap.get?_push_of_some _ e,turn_dict d _ ob kvs vs ep rel (fun h e=>⟨ob,es,e,rest⟩),⟨_,Heap.get?_push_size _ rfl,rfl,rfl⟩,fun b hb => ?_,q ob⟩
 have e:b=s1.heap.objs.size:=by simpa using hb
 subst e
 exact I2.fpOk (Nat.le_refl _) (I2.hok.fresh (Nat.le_refl _))
theorem Ys.dict {d:Addr}{ob:Obj}{kvs:List (Key × V)}{H1:Hp}(h:H1 d=some (.frz ob (.dK kvs))):Ys (Itd d ob kvs) (kvs.map fun kv=>kV kv.1) H1 where
 go:=fun i H s hi=>⟨s _ _ h,by rwa [List.length_map] at hi⟩
 yld:=fun i H x H' s hi y=>by
  obtain ⟨e,kv,hkv,rfl⟩:=y
  exact ⟨e,by rw [List.getElem?_map,hkv]; rfl⟩
 stop:=fun i H s hi=>⟨s _ _ h,by rwa [List.length_map] at hi⟩
theorem for_dict {d:Addr}{ob:Obj}{kvs:List (Key × V)}{g:TG}{tb:TS}{D:Ends}{σ:St}{H:Hp}(Pv:Nat->St->Hp->Prop)(h0:Pv 0 σ H)(hl : ∀ i σ H,i<=kvs.length->Pv i σ H->H d=some (.frz ob (.dK kvs)))
  (hs : ∀ i kv σ H,kvs[i]?=some kv->Pv i σ H->g (kV kv.1) σ H fun σ2 H2=>tb { D with nx:=Pv (i+1),ct:=Pv (i+1),bk:=D.nx } σ2 H2) (hd : ∀ σ H,Pv kvs.length σ H->D.nx σ H) :
  ∃ W:Nat->Nat->St->Hp->Prop,(∃ m,W 0 m σ H)/\∀ i m σ H,W i m σ H ->
   ((Itd d ob kvs).stop i H/\D.nx σ H)\/((Itd d ob kvs).go i H/\∃ N:St->Hp->Prop,(∀ σ' H',N σ' H'->∃ m',m' < m/\W (i+1) m' σ' H')/\∀ v H',(Itd d ob kvs).yld i H v H'->g v σ H' fun σ2 H2=>tb { D with nx:=N,ct:=N,bk:=D.nx } σ2 H2):=by
 refine ⟨fun i m σ H=>m=kvs.length - i/\i<=kvs.length/\Pv i σ H,⟨kvs.length,by simp,Nat.zero_le _,h0⟩,?_⟩
 rintro i m σ H ⟨rfl,hi,p⟩
 have q:=hl i σ H hi p
 by_cases hlt:i < kvs.length
 ·refine .inr ⟨⟨q,hlt⟩,Pv (i+1),fun σ' H' p'=>⟨kvs.length - (i+1),by omega,rfl,hlt,p'⟩,fun v H' y => ?_⟩
  obtain ⟨rfl,kv,hkv,rfl⟩:=y
  exact hs i kv σ H' hkv p
 ·have e:i=kvs.length:=by omega
  subst e
  exact .inl ⟨⟨q,Nat.le_refl _⟩,hd σ H p⟩
end L2
namespace L2
open PySem PySem.Spec PyProof.Rows PySem.W
def PassesAt (CX:CXT)(X:Cx)(σ:St)(E:XK):Prop:=∀ (pins:List (Addr × Obj)) (H:Hp) (s:Shared) (e:Value) (s':Shared),Inv X pins σ H s->CX X.stack H s E e s'->X.xe e s'
section
variable {X:Cx}
def tTryS (K:Frag)(i j:Nat)(Dc:Addr)(tb:St->XK->TS):TS:=fun D σ H=>tb σ (fun cls dd H'=>∃ C,cls = .ref C/\ExK K C/\subIn K (.ref C) (.ref Dc)=some true/\∀ a,H' a=none->D.nx (((σ.set i (some (.ref a))).set j (some (.ref a))).set i none) (upd H' a (excD a C dd))) D σ H
end
end L2
namespace L2
open PySem PySem.Spec PyProof.Rows
variable {X:Cx}
def rSortDSR:List V->Hp->VK->Prop:=fun xs H Q=>∃ a kvs,∃ ss:List Str,xs=[.ref a]/\Rd H a (.dK kvs)/\kvs.map (·.1)=ss.map Sum.inr/\kvs.length < 64/\∀ (p:Addr) (ss':List Str),ss'.Perm ss->sortedS ss'=true->H p=none->Q (.ref p) (upd H p (.lst (ss'.map V.str)))
def tListValsR (td:TE):TE:=fun σ H Q=>td σ H fun x H1=>∃ a kvs,x = .ref a/\Rd H1 a (.dK kvs)/\∀ p,H1 p=none->Q (.ref p) (upd H1 p (.lst (kvs.map (·.2))))
theorem pe_listValsR {o:Expr}{td:TE}{p apos cpos pos:Pos}(hc:X.calm=true)(hg:Gl X "list")(hm:X.mg "list" = none)(ho:PE X o td)
  (hbase:attributeBase o "values" X.env (eval o X.env)=eval o X.env:=by rfl) (hline:(apos.endLine == cpos.line)=true:=by rfl)
  (hs3:starEach [Expr.Call (.Attribute o "values" apos) [] [] cpos] X.env=[(false,eval (.Call (.Attribute o "values" apos) [] [] cpos) X.env)]:=by rfl) :
  PE X (.Call (.Name "list" p) [.Call (.Attribute o "values" apos) [] [] cpos] [] pos) (tListValsR td):=by
 intro pins s σ H Q I h
 refine wpAny_Call_Name_kw (ld_blt I hg hm bt_list (PyProof.Rows.callWith_type1 ?_ hs3 rfl))
 rw [hs3]
 show wpAny _ _ (spliced ((false,eval (.Call (.Attribute o "values" apos) [] [] cpos) X.env) :: backTo pos [])) _ _ s
 refine Calls.spliced_cons ?_
 refine wpAny_Call_method0_late hbase hline (thn (ho pins s σ H _ I h) fun v s1 ⟨x,H1,I1,r1,a,kvs,ex,hH,q⟩ => ?_)
 subst ex
 cases r1
 obtain ⟨z,lo,vs,rel,dd⟩:=dk_rd I1.hok hH
 obtain ⟨t1,t2,_⟩:=isD_at I1 (.inl ⟨kvs,hH⟩)
 refine ⟨"dict","dict.values",PySem.F.plainAttrs_dict,PySem.F.slot_dict_values,PySem.F.type_dict_values,t1,t2,Calls.callWith_builtin rfl (PySem.evalArgs_none ?_)⟩
 refine call_meetsIn PySem.F.slot_dict_values t1 PySem.F.entry_dict_values (PySem.F.args_dict_values_1 _) (meets_dict_values (mixKind X.prog X.w) a lo) ⟨⟨vs,dd⟩,Calls.spliced_nil ?_⟩
 have I2:Inv X pins σ H1 { s1 with heap:=s1.heap.push { cls:=.type "dict_values",data:=.fields #[.ref a] } }:=I1.kept (t':=s1.toks) fun b o e=>Heap.get?_push_of_some _ e
 obtain ⟨z2,lo2,vs2,rel2,dd2⟩:=dk_rd I2.hok hH
 obtain ⟨ep,hat⟩:=dd2.dictAt
 refine PySem.W.kdl_call (PySem.W.kdl_values (knd:=mixKind X.prog X.w) (kvs:=vs2) (ep:=ep)) (I2.ok.hd hc) ⟨⟨_,Heap.get?_push_size _ rfl,rfl,rfl⟩,hat⟩ (by rw [<- rel2.length]; exact z2) fun h' tk acc' c' hk hS' hacc => ?_
 refine ⟨.ref _,_,I2.laid (o:=.lst (kvs.map (·.2))) hk (Nat.le_refl _) ?_,rfl,q _ (I2.hok.fresh (Nat.le_refl _))⟩
 exact ⟨by rw [List.length_map]; exact z2,acc'.toList,c',val_vals rel2 hacc,hS'⟩
theorem DGet.r {H:Hp}{a:Addr}{kvs:List (Key × V)}{k:Key}(e:Rd H a (.dK kvs)):DGet H a (kV k) (valV kvs k):=.inl ⟨kvs,k,e,rfl,rfl⟩
end L2
namespace L2
open PySem PySem.Spec PyProof.Rows
def Ite (K:PySem.W.Frag)(b:Addr):It :=
  ⟨fun i H=>∃ ys,SqL K H b ys/\i < ys.length,
   fun i H v H'=>∃ T,H T=none/\v = .ref T/\∀ ys,SqL K H b ys->∃ y,ys[i]?=some y/\H'=upd H T (.tup [.int i,y]),
   fun i H=>∃ ys,SqL K H b ys/\i=ys.length⟩
def EnuSt (n b:Nat)(i:Nat)(h:Heap):Prop:=(∃ old,IsEnum h (n+1) n (i:Int) old)/\h.IsListIter n b i
def iEnu (K:PySem.W.Frag)(ta:TA):TI:=fun σ H R=>ta σ H fun vs H1=>∃ b,vs=[.ref b]/\(∃ ys,SqL K H1 b ys)/\R (Ite K b) H1
end L2
namespace L2
open PySem PySem.Spec PyProof.Rows
section
variable {X:Cx}{a b c d:Expr}{ta tb tc td:TE}{pos:Pos}
def tChain3 (r r' r'':R2)(ta tb tc td:TE):TE:=fun σ H Q=>ta σ H fun x H1=>tb σ H1 fun y H2=>r x y H2 fun z H3=>∃ k,z = .bl k /\
 (if k=true then tc σ H3 fun w' H4=>r' y w' H4 fun z' H5=>∃ k',z' = .bl k'/\(if k'=true then td σ H5 fun w'' H6=>r'' w' w'' H6 Q else Q (.bl false) H5) else Q (.bl false) H3)
end
end L2
namespace L2
open PySem PySem.Spec PyProof.Rows
def Fz (H H':Hp):Prop:=∀ b o,H b=some o->H' b=some o\/∃ ob kvs,o = .dK kvs/\H' b=some (.frz ob (.dK kvs))
theorem Fz.of {H H':Hp}(s:Same H H'):Fz H H':=fun b o e=>.inl (s b o e)
theorem Fz.trans {H H1 H2:Hp}(h:Fz H H1)(k:Fz H1 H2):Fz H H2:=fun b o e=>by
 rcases h b o e with h | ⟨ob,kvs,rfl,h⟩
 ·exact k b o h
 ·rcases k b _ h with k | ⟨_,_,z,_⟩
  ·exact .inr ⟨ob,kvs,rfl,k⟩
  ·cases z
theorem Fz.at {H H':Hp}(h:Fz H H'){b:Addr}{o:HO}(e:H b=some o)(n : ∀ kvs,o ≠ .dK kvs):H' b=some o:=by
 rcases h b o e with h | ⟨_,kvs,z,_⟩
 ·exact h
 ·exact absurd z (n kvs)
theorem Fz.tk {H H':Hp}(h:Fz H H'):Tk H H':=fun _ _ e=>h.at e fun _ z=>by cases z
def Hld (d:Addr)(ob:Obj)(kvs:List (Key × V))(H H':Hp):Prop:=H' d=some (.frz ob (.dK kvs))/\(∀ b,b ≠ d->H' b=H b)/\(H d=some (.dK kvs)\/H d=some (.frz ob (.dK kvs)))
theorem Hld.fz {d:Addr}{ob:Obj}{kvs:List (Key × V)}{H H':Hp}(h:Hld d ob kvs H H'):Fz H H':=fun b o e=>by
 by_cases z:b=d
 ·subst z
  rcases h.2.2 with r | r
  ·rw [r] at e
   cases e
   exact .inr ⟨ob,kvs,rfl,h.1⟩
  ·rw [r] at e
   cases e
   exact .inl h.1
 ·exact .inl (by rw [h.2.1 b z]; exact e)
section
variable {X:Cx}
def iDictR (tl:TE):TI:=fun σ H R=>tl σ H fun x H1=>∃ d kvs,x = .ref d/\Rd H1 d (.dK kvs)/\∀ ob H2,Hld d ob kvs H1 H2->R (Itd d ob kvs) H2
def rDictD:List V->Hp->VK->Prop:=fun xs H Q=>∃ a kvs,xs=[.ref a]/\Rd H a (.dK kvs)/\∀ p,H p=none->Q (.ref p) (upd H p (.dK kvs))
theorem call_dictD:CallR X (.type "dict") rDictD:=by
 intro pins s σ H xs us Q I r h
 obtain ⟨a,kvs,rfl,hH,q⟩:=h
 obtain ⟨u,rfl,rx⟩:=vals1 r
 cases rx
 exact d_copyOf I hH fun p s' hp I'=>⟨.ref p,_,I',rfl,q p hp⟩
def DDeq (K:PySem.W.Frag)(H:Hp)(ka kb:List (Key × V)):Prop:=ka.length=kb.length/\∀ kv ∈ ka,∃ v' d,valV kb kv.1=some v'/\Dv K H 30 kv.2 d/\Dv K H 30 v' d
theorem hits_of {pins:List (Addr × Obj)}{σ:St}{H:Hp}{s:Shared}(I:Inv X pins σ H s){A:Around}(hu:A.units+30 < cLine){kb:List (Key × V)}{vb:List (Key × Value)}(rb:KV kb vb) :
  ∀ {ka:List (Key × V)} {va:List (Key × Value)},KV ka va->(∀ kv ∈ ka,∃ v' d,valV kb kv.1=some v'/\Dv X.K H 30 kv.2 d/\Dv X.K H 30 v' d)->PySem.W.KeqHits A s vb va true:=fun {ka va} ra=>by
 unfold KV at ra
 induction ra with
 | nil=>exact fun _=>.nil
 | @cons p q ps qs h t ih =>
  intro hk
  obtain ⟨h1,h2⟩:=h
  obtain ⟨v',d,e1,d1,d2⟩:=hk p List.mem_cons_self
  have rv:=rb.val p.1
  rw [e1] at rv
  cases hy:valueAt vb p.1 with
  | none=>rw [hy] at rv; exact rv.elim
  | some y =>
   rw [hy] at rv
   have ee:SeqAt.EqAt A s q.2 y true:=(d1.eq d2).at I hu h2 rv
   have:=PySem.W.KeqHits.hit (k:=q.1) (v:=q.2) (by rw [<- h1]; exact hy) ee (ih fun kv hkv=>hk kv (List.mem_cons_of_mem _ hkv))
   exact this
def rNeDD (K:PySem.W.Frag):R2:=fun x y H Q=>∃ a b ka kb,x = .ref a/\y = .ref b/\Rd H a (.dK ka)/\Rd H b (.dK kb)/\DDeq K H ka kb/\Q (.bl false) H
def rEqDD (K:PySem.W.Frag):R2:=fun x y H Q=>∃ a b ka kb,x = .ref a/\y = .ref b/\Rd H a (.dK ka)/\Rd H b (.dK kb)/\DDeq K H ka kb/\Q (.bl true) H
end
end L2
namespace L2.TS
open PySem PySem.Spec PyProof.Rows
abbrev Ky:=List Nat
def ka (f:Value->Ky)(xs:Array Keyed)(i:Nat):Ky:=(xs[i]?.map fun p=>f p.1).getD []
def Up (f:Value->Ky)(xs:Array Keyed)(n:Nat):Prop:=∀ i j,i < j->j < n->ka f xs i < ka f xs j
def Dn (f:Value->Ky)(xs:Array Keyed)(n:Nat):Prop:=∀ i j,i < j->j < n->ka f xs j < ka f xs i
def Df (f:Value->Ky)(xs:List Keyed):Prop:=xs.Pairwise fun p q=>f p.1 ≠ f q.1
structure Sb (f:Value->Ky)(kd:SortKind)(o:Array Keyed)(st:SortSt):Prop where
 pm:(arrOf st).Perm o
 kn:kindOf st=kd
 fl:failedOf st=none
 pe:pendingOf st = #[]
 df:Df f (arrOf st).toList
section
variable {prog:Program}{w:World}{A:Around}{E:Value->Shared->Prop}{s:Shared}{o:Array Keyed}{f:Value->Ky}{kd:SortKind}
def Cmp (prog:Program)(w:World)(A:Around)(s:Shared)(kd:SortKind)(f:Value->Ky)(o:Array Keyed):Prop :=
 ∀ (p q:Keyed) (E:Value->Shared->Prop) (Q:Bool->Shared->Prop),p ∈ o.toList->q ∈ o.toList->f p.1 ≠ f q.1->Q (decide (f p.1 < f q.1)) s->wpAny (model prog w) A (keyLt' kd p.1 q.1) Q E s
end
end L2.TS
namespace L2.TS
open PySem PySem.Spec PyProof.Rows
section
variable {prog:Program}{w:World}{A:Around}{E:Value->Shared->Prop}{s:Shared}{o:Array Keyed}{f:Value->Ky}{kd:SortKind}
def At (f:Value->Ky)(xs:Array Keyed)(k l r:Nat):Prop:=(∀ i,i < l->ka f xs i < ka f xs k)/\∀ i,r<=i->i < k->ka f xs k < ka f xs i
def Dne (f:Value->Ky)(o:Array Keyed)(st:SortSt):Prop:=(arrOf st).Perm o/\failedOf st=none/\(pendingOf st).size=1/\Up f (arrOf st) o.size
end
end L2.TS
namespace L2.TS
open PySem PySem.Spec PyProof.Rows
def Tp (h:Heap)(nm:Value->Str)(v:Value):Prop:=∃ a o xs n t r,v = .ref a/\h.get? a=some o/\o.cls = .type "tuple" /\ o.data = .seq xs n/\xs.toList = .str (nm v) t :: r
section
variable {prog:Program}{w:World}{A:Around}{E:Value->Shared->Prop}{s:Shared}{nm:Value->Str}{vs:List Value}
abbrev kf (nm:Value->Str):Value->Ky:=fun v=>(nm v).cps.toList
end
end L2.TS
namespace L2
open PySem PySem.Spec PyProof.Rows
def nmH (H:Hp)(a:Addr):Str:=match H a with
 | some (.tup (.str x :: _))=>x
 | _=>⟨#[]⟩
def nmV (H:Hp):Value->Str
 | .ref a=>nmH H a
 | _=>⟨#[]⟩
def adOf:Value->Addr
 | .ref a=>a
 | _=>0
def rSortT (K:PySem.W.Frag):List V->Hp->VK->Prop:=fun xs H Q=>∃ a as,xs=[.ref a]/\SqL K H a (as.map V.ref)/\as.length < 64/\(∀ q ∈ as,∃ x r,H q=some (.tup (.str x :: r)))/\(as.map (nmH H)).Nodup /\
 ∀ (p:Addr) (as':List Addr),as'.Perm as->(as'.Pairwise fun u v=>(nmH H u).cps.toList < (nmH H v).cps.toList)->H p=none->Q (.ref p) (upd H p (.lst (as'.map V.ref)))
end L2
namespace L2
open PySem PySem.Spec PyProof.Rows
theorem call_list_ofK {X:Cx}{K:PySem.W.Frag}(h:X.K=K):CallR X (.type "list") (fun xs H Q=>∃ p ys,xs=[.ref p]/\(SqL K H p ys\/SqT K H p ys)/\∀ l,H l=none->Q (.ref l) (upd H l (.lst ys))):=h ▸ call_list_of
end L2
namespace L2
open PySem PySem.Spec PyProof.Rows
theorem Inv.thaw {X:Cx}{pins:List (Addr × Obj)}{σ:St}{H:Hp}{s:Shared}{d:Addr}{ob:Obj}{kvs:List (Key × V)}(I:Inv X pins σ H s)(hd:H d=some (.frz ob (.dK kvs)))(h0 : ∀ o u,X.H₀ d ≠ some (.frz o u)):Inv X pins σ (upd H d (.dK kvs)) s:=by
 have ne : ∀ b,H b=none->b ≠ d:=fun b n z=>by rw [z,hd] at n; cases n
 have nd : ∀ b u,H b=some u->u ≠ .frz ob (.dK kvs)->b ≠ d:=fun b u e n z=>by
  rw [z,hd] at e
  exact n (Option.some.inj e).symm
 have st : ∀ {a:Addr} {u:HO},ObjOk X.prog X.w H s.heap a u->ObjOk X.prog X.w (upd H d (.dK kvs)) s.heap a u:=fun x =>
  x.stay (fun c v _ q=>q) (fun c q=>by rw [upd_ne (nd c _ q (by intro z; cases z))]; exact q) fun c xs q=>by rw [upd_ne (nd c _ q (by intro z; cases z))]; exact q
 refine ⟨I.ok,I.os,I.bare,⟨I.base.keep,I.base.slot,fun b o e n hx => ?_,I.base.there,fun b xs e => ?_,fun b o u e => ?_,fun b ps e => ?_⟩,I.loc,I.cell,?_,fun x c e => ?_,fun p hp => ?_,fun b u e => ?_,I.len⟩
 ·have z:=I.base.free b o e n hx
  rw [upd_ne (ne b z)]
  exact z
 ·have z:=I.base.tups b xs e
  rw [upd_ne (nd b _ z (by intro z; cases z))]
  exact z
 ·have z:=I.base.frzs b o u e
  rw [upd_ne (fun q=>h0 o u (by rw [<- q]; exact e))]
  exact z
 ·obtain ⟨m,z⟩:=I.base.tbls b ps e
  exact ⟨m,by rw [upd_ne (nd b _ z (by intro z; cases z))]; exact z⟩
 ·rw [upd_ne (ne _ I.free)]
  exact I.free
 ·rw [upd_ne (ne _ (I.freeC x c e))]
  exact I.freeC x c e
 ·obtain ⟨q1,q2,q3⟩:=I.pin p hp
  exact ⟨q1,by rw [upd_ne (ne _ q2)]; exact q2,q3⟩
 ·by_cases e':b=d
  ·subst e'
   rw [upd_same] at e
   cases e
   exact st (I.hok b _ hd).2
  ·rw [upd_ne e'] at e
   exact st (I.hok b u e)
def tThaw (H₀:Hp)(te:TE):TE:=fun σ H Q=>te σ H fun v H'=>∃ d ob kvs,H' d=some (.frz ob (.dK kvs))/\(∀ o u,H₀ d ≠ some (.frz o u))/\Q v (upd H' d (.dK kvs))
theorem pe_thaw {X:Cx}{e:Expr}{te:TE}(he:PE X e te):PE X e (tThaw X.H₀ te):=by
 intro pins s σ H Q I h
 refine thn (he pins s σ H _ I h) fun v s1 ⟨x,H1,I1,r1,d,ob,kvs,hd,h0,q⟩ => ?_
 exact ⟨x,_,I1.thaw hd h0,r1,q⟩
theorem ps_no {X:Cx}{st:Stmt}:PS X st (fun _ _ _=>False):=fun pins s σ H D I h=>h.elim
def rUpd:V->List V->Hp->VK->Prop:=fun x vs H Q=>∃ d o kvs more,x = .ref d/\vs=[.ref o]/\d ≠ o/\H d=some (.dK kvs)/\H o=some (.dK more)/\kvs.length+more.length<=1000/\Q .non (upd H d (.dK (mergeK kvs more)))
theorem mt_update {X:Cx}:MtR X "dict.update" rUpd:=by
 intro pins s σ H x vs v us Q I rx rv h
 obtain ⟨d,o,kvs,more,rfl,rfl,ne,hd,ho,hz,q⟩:=h
 cases rx
 obtain ⟨u,rfl,ru⟩:=vals1 rv
 cases ru
 obtain ⟨z,ld,vs,rel,dd⟩:=dk_of I.hok hd
 obtain ⟨z',lo,ws,rel',dd'⟩:=dk_of I.hok ho
 refine call_meetsIn PySem.F.slot_dict_update dd.typeIs PySem.F.entry_dict_update (PySem.F.args_dict_update_2 _ _) (meets_dict_update (mixKind X.prog X.w) d o ne lo) ⟨vs,ws,dd,dd',by rw [<- rel.length,<- rel'.length]; exact sz1000 hz,fun h' e1 e2 hs => ?_⟩
 have he : ∃ q,h'.get? d=some q:=let ⟨q,_,_,hq,_⟩:=e1; ⟨q,hq⟩
 have hl:=length_mergeK more kvs
 exact ⟨.non,_,d_write I (by rw [hd]; exact True.intro) hs he (dk_new (sz1000 (by omega)) ld (rel'.merge rel) e1),rfl,q⟩
section
variable {prog:Program}{w:World}{A:Around}{E:Value->Shared->Prop}{s:Shared}
end
end L2
namespace L2
open PySem PySem.Spec PyProof.Rows
def tMinD (te:TE):TE:=fun σ H Q=>te σ H fun x H1=>∃ l n,x = .ref l/\H1 l=some (.lst [.int n])/\Q (.int n) H1
end L2
namespace L2
open PySem PySem.Spec PyProof.Rows
structure MCal (P:Program)(w:World)(K:PySem.W.Frag)(mg:Str->Option Value)(base:Heap)(CX:CXT)(k:Nat)(C:Addr)(m:Str)(ps:List Str)(sp:Sp):Prop where
 ex : ∃ (f:Addr) (fd:FuncData),Meth K C m f/\Binds K fd ps []/\FnOk P w K mg base CX k f fd ps sp
theorem MCal.mono {P:Program}{w:World}{K:PySem.W.Frag}{mg:Str->Option Value}{base:Heap}{CX:CXT}{j k:Nat}{C:Addr}{m:Str}{ps:List Str}{sp:Sp}(M:MCal P w K mg base CX j C m ps sp)(h:j<=k):MCal P w K mg base CX k C m ps sp:=by
 obtain ⟨f,fd,hm,hb,F⟩:=M.ex
 exact ⟨f,fd,hm,hb,F.mono h⟩
section
variable {X:Cx}{CX:CXT}{k:Nat}{C:Addr}{m:Str}{ps:List Str}{sp:Sp}{E:XK}{o e:Expr}{es:List Expr}{ta:TE}{t:TA}{apos pos:Pos}
theorem pe_mc {pl:Sem Bool}(c:Cls X.K C)(M:MCal X.prog X.w X.K X.mg X.base CX k C m ps sp)(hr:Room k X.A)(hx:Passes CX X E)(he:PE X o ta)(ha:PA X (e :: es) t)
  (hst:starEach (e :: es) X.env=(false,eval e X.env) :: starEach es X.env:=by rfl) (hpl:(backTo pos (starEach es X.env)).any (·.1)=false:=by rfl)
  (ht:eval (.Call (.Attribute o m apos) (e :: es) [] pos) X.env=(do
   let ov <- eval o X.env
   standAt apos.atName
   let (f,first) <- holding [ov] (getMethod ov m pl)
   callWith pos f first (backTo pos (starEach (e :: es) X.env)) (backToKw pos (keywordEach [] X.env))):=by rfl) :
  PE X (.Call (.Attribute o m apos) (e :: es) [] pos) (tMeth C m sp [] E ta t):=by
 obtain ⟨f,fd,hm,hb,F⟩:=M.ex
 exact pe_meth he c hm F hr hb .nil hx ha hst hpl ht
theorem pe_fldK {K:PySem.W.Frag}{f:Str}(h:X.K=K)(he:PE X o ta)(hb:attributeBase o f X.env (eval o X.env)=eval o X.env):PE X (.Attribute o f pos) (tFld K ta f):=h ▸ pe_fld he hb
end
def tThawS (H₀:Hp)(t:TS):TS:=fun D σ H=>t { D with nx:=fun σ' H'=>∃ d ob kvs,H' d=some (.frz ob (.dK kvs))/\(∀ o u,H₀ d ≠ some (.frz o u))/\D.nx σ' (upd H' d (.dK kvs)) } σ H
theorem ps_thaw {X:Cx}{st:Stmt}{t:TS}(h:PS X st t):PS X st (tThawS X.H₀ t):=by
 intro pins s σ H D I q
 refine thn (h pins s σ H _ I q) fun f s1 z => ?_
 cases f with
 | next =>
  obtain ⟨σ',H',I',d,ob,kvs,hd,h0,q'⟩:=z
  exact ⟨σ',_,I'.thaw hd h0,q'⟩
 | brk=>exact z
 | cont=>exact z
 | ret u=>exact z
theorem thaw_same {H H5:Hp}{c:Addr}{ob:Obj}{kvs:List (Key × V)}(h:H c=some (.dK kvs))(s:Same (upd H c (.frz ob (.dK kvs))) H5):Same H (upd H5 c (.dK kvs)):=fun b o e=>by
 by_cases z:b=c
 ·subst z
  rw [h] at e
  cases e
  exact upd_same
 ·rw [upd_ne z]
  exact s b o (by rw [upd_ne z]; exact e)
end L2
namespace L2
open PySem PySem.Spec PyProof.Rows
section
variable {D:Ends}{σ:L2.St}{H:Hp}
end
end L2
namespace L2
open PySem PySem.Spec PyProof.Rows PySem.W
section
variable {X:Cx}
end
end L2
namespace TM
open PySem PySem.Spec PyProof.Rows PySem.W
def rd (c j:Nat):Nat:=97+(c - 97+j) % 26
abbrev LET:Str := "abcdefghijklmnopqrstuvwxyz"
theorem at_let {j:Nat}(h:j < 26):(cps LET)[j]?=some (97+j):=by
 have all : ∀ k:Fin 26,(cps LET)[k.val]?=some (97+k.val):=by decide +kernel
 exact all ⟨j,h⟩
end TM
namespace GM
structure Fr (M t b N:Int):Prop where
 am:Amt t b
 e:t*M=N*b
theorem Fr.zero {M:Int}:Fr M 0 1 0:=⟨amt_one (by decide),by simp⟩
theorem Fr.plus {M t1 b1 N1 t2 b2 N2:Int}(h1:Fr M t1 b1 N1)(h2:Fr M t2 b2 N2):Fr M ((t1*b2+t2*b1) / G (t1*b2+t2*b1) (b1*b2)) (b1*b2 / G (t1*b2+t2*b1) (b1*b2)) (N1+N2):=by
 have a1:=h1.am.b1
 have a2:=h2.am.b1
 have n1:=Int.mul_nonneg h1.am.t0 (show 0<=b2 by omega)
 have n2:=Int.mul_nonneg h2.am.t0 (show 0<=b1 by omega)
 have hb:1<=b1*b2:=by
  have:=Int.mul_le_mul a1 a2 (by decide) (by omega)
  omega
 refine ⟨low_amt (by omega) hb,?_⟩
 have crs:=low_cross (t1*b2+t2*b1) (b1*b2)
 generalize (t1*b2+t2*b1) / G (t1*b2+t2*b1) (b1*b2)=x at *
 generalize b1*b2 / G (t1*b2+t2*b1) (b1*b2)=y at *
 refine Int.eq_of_mul_eq_mul_right (show b1*b2 ≠ 0 by omega) ?_
 calc x*M*(b1*b2)=(x*(b1*b2))*M:=by rw [Int.mul_assoc,Int.mul_comm M,<- Int.mul_assoc]
  _=((t1*b2+t2*b1)*y)*M:=by rw [crs]
  _=((t1*M)*b2+(t2*M)*b1)*y:=by
   rw [Int.mul_right_comm,Int.add_mul,Int.mul_right_comm t1,Int.mul_right_comm t2]
  _=((N1*b1)*b2+(N2*b2)*b1)*y:=by rw [h1.e,h2.e]
  _=(N1+N2)*y*(b1*b2):=by
   rw [Int.mul_right_comm (N1+N2),Int.add_mul N1,Int.mul_assoc N1,Int.mul_assoc N2,Int.mul_comm b2 b1]
theorem Fr.uniq {M t b N t' b':Int}(hM:0 < M)(h:Fr M t b N)(h':Fr M t' b' N):t=t'/\b=b':=by
 have c:t'*b=t*b':=by
  refine Int.eq_of_mul_eq_mul_right (show M ≠ 0 by omega) ?_
  calc t'*b*M=(t'*M)*b:=by rw [Int.mul_right_comm]
   _=(N*b')*b:=by rw [h'.e]
   _=(N*b)*b':=by rw [Int.mul_right_comm]
   _=t*M*b':=by rw [h.e]
   _=t*b'*M:=by rw [Int.mul_right_comm]
 obtain ⟨e1,e2⟩:=low_unique h.am.t0 h.am.b1 h'.am c
 rw [h.am.g,Int.ediv_one] at e1 e2
 exact ⟨e1,e2⟩
theorem Fr.nonneg {M t b N:Int}(hM:0 < M)(h:Fr M t b N):0<=N:=by
 have a1:=h.am.b1
 have n1:=Int.mul_nonneg h.am.t0 (show 0<=M by omega)
 rw [h.e] at n1
 by_cases z:0<=N
 ·exact z
 ·have:=Int.mul_neg_of_neg_of_pos (show N < 0 by omega) (show 0 < b by omega)
  omega
theorem Fr.dvd {M t b N:Int}(h:Fr M t b N):b ∣ M:=by
 have d:b ∣ M*t:=⟨N,by rw [Int.mul_comm M,h.e,Int.mul_comm]⟩
 have g:Int.gcd b t=1:=by
  have:=h.am.g
  unfold G at this
  rw [Int.gcd_comm]
  omega
 have d':b.natAbs ∣ M.natAbs*t.natAbs:=by
  rw [<- Int.natAbs_mul]
  exact Int.natAbs_dvd_natAbs.mpr d
 have c:Nat.Coprime b.natAbs t.natAbs:=g
 exact Int.natAbs_dvd_natAbs.mp (c.dvd_of_dvd_mul_right d')
theorem Fr.nought {M t b N:Int}(hM:0 < M)(h:Fr M t b N):N=0 ↔ t=0:=by
 have a1:=h.am.b1
 constructor
 ·intro z
  have:=h.e
  rw [z,Int.zero_mul] at this
  rcases Int.mul_eq_zero.mp this with q | q
  ·exact q
  ·omega
 ·intro z
  have:=h.e
  rw [z,Int.zero_mul] at this
  rcases Int.mul_eq_zero.mp this.symm with q | q
  ·exact q
  ·omega
end GM
namespace K76
open PySem PySem.Spec PyProof.Rows L2 GM TM
def top (i:Nat):Stmt:=PySem.Challenge.pw_phialhouse_k76_called_back.main.body.getD i (.Pass ⟨0,0,0,0⟩)
abbrev sIsWh:Stmt:=top 12
abbrev sGcd:Stmt:=top 13
abbrev sLow:Stmt:=top 14
abbrev sPlus:Stmt:=top 15
abbrev sMinus:Stmt:=top 16
abbrev sTimes:Stmt:=top 17
abbrev sOver:Stmt:=top 18
abbrev sLess:Stmt:=top 19
abbrev sTotal:Stmt:=top 21
abbrev sShared:Stmt:=top 22
abbrev sPut:Stmt:=top 23
abbrev sIsWare:Stmt:=top 27
abbrev sNewLot:Stmt:=top 31
abbrev sNewV:Stmt:=top 32
abbrev sWith:Stmt:=top 33
abbrev sPoured:Stmt:=top 34
abbrev sRNoSp:Stmt:=top 35
abbrev sRNoDay:Stmt:=top 36
abbrev sRNoName:Stmt:=top 37
abbrev cBooks:Stmt:=top 38
abbrev sCell:Stmt:=top 40
abbrev sWhole:Stmt:=top 41
abbrev sMixed:Stmt:=top 42
abbrev sNames:Stmt:=top 43
abbrev sNew:Stmt:=top 44
abbrev sLtot:Stmt:=top 45
abbrev sLpour:Stmt:=top 46
abbrev sApply:Stmt:=top 47
abbrev sDo:Stmt:=top 48
abbrev sGood:Stmt:=top 49
abbrev sFresh:Stmt:=top 50
abbrev sWord:Stmt:=top 55
abbrev sNameBy:Stmt:=top 56
abbrev sTold:Stmt:=top 57
abbrev sCan:Stmt:=top 58
abbrev sNext:Stmt:=top 59
abbrev sLaw:Stmt:=top 60
abbrev sInit:Stmt:=inClass cBooks 0
abbrev sTake:Stmt:=inClass cBooks 1
abbrev sPour:Stmt:=inClass cBooks 2
abbrev sGive:Stmt:=inClass cBooks 3
abbrev sGo:Stmt:=inClass cBooks 4
abbrev sNote:Stmt:=inClass cBooks 5
abbrev sBack:Stmt:=inClass cBooks 6
abbrev sHad:Stmt:=inClass cBooks 7
abbrev sOneOf:Stmt:=inClass cBooks 8
abbrev sNoSrc:Stmt:=inClass cBooks 9
abbrev sNoGoal:Stmt:=inClass cBooks 10
abbrev sToPour:Stmt:=inClass cBooks 11
abbrev sThing:Stmt:=inClass cBooks 12
abbrev sHeld:Stmt:=inClass cBooks 13
abbrev sTot:Stmt:=inClass cBooks 14
abbrev sLast:Stmt:=inClass cBooks 15
abbrev sRows:Stmt:=inClass cBooks 16
abbrev sCalled:Stmt:=inClass cBooks 17
abbrev sDone:Stmt:=inClass cBooks 18
abbrev sToday:Stmt:=inClass cBooks 19
abbrev sNms:Stmt:=inClass cBooks 20
structure Txt (mg:Str->Option Value):Prop where
 isi:mg "isinstance" = none
 int':mg "int" = none
 bool':mg "bool" = none
 tup':mg "tuple" = none
 str':mg "str" = none
 len:mg "len" = none
 range:mg "range" = none
 min':mg "min" = none
 max':mg "max" = none
 abs':mg "abs" = none
 list':mg "list" = none
 all':mg "all" = none
 sorted':mg "sorted" = none
 sum':mg "sum" = none
 dict':mg "dict" = none
 zip':mg "zip" = none
 val:mg "ValueError" = none
def spCell (K:PySem.W.Frag):Sp:=fun vs H Q _=>∃ (a:Addr) (ns:List Int) (k:Int),vs=[.ref a,.int k]/\SqL K H a (ns.map V.int)/\0<=k/\∀ c:Int,Q (.int c) H
structure Wr (x:Str):Prop where
 l1:1<=x.length
 l8:x.length<=8
 lt : ∀ c ∈ cps x,97<=c/\c<=122
instance (x:Str):Decidable (Wr x):=decidable_of_iff ((1<=x.length/\x.length<=8)/\∀ c ∈ cps x,97<=c/\c<=122) ⟨fun h=>⟨h.1.1,h.1.2,h.2⟩,fun h=>⟨⟨h.l1,h.l8⟩,h.lt⟩⟩
def spIsWare (K:PySem.W.Frag):Sp:=fun vs H Q _=>∃ v,vs=[v]/\((IsiD K H v "str" false/\Q (.bl false) H)\/∃ x:Str,v = .str x/\x.length<=1000/\(Wr x->∀ H',Same H H'->Q (.bl true) H')/\(¬ Wr x->∀ H',Same H H'->Q (.bl false) H'))
inductive Nv:V->Bool->Prop where
 | int {n}:Nv (.int n) true
 | bl {b}:Nv (.bl b) false
 | non:Nv .non false
 | str {x}:Nv (.str x) false
def spWh:Sp:=fun vs H Q _=>∃ v b,vs=[v]/\Nv v b/\Q (.bl b) H
def spMixed:Sp:=fun vs H Q _=>∃ c k:Int,vs=[.int c,.int k]/\0<=k/\k<=1000/\∀ n:Int,0<=n->n < 2147483587->Q (.int n) H
def spGcd:Sp:=fun vs H Q _=>∃ a b:Int,vs=[.int a,.int b]/\0<=a/\0<=b/\Q (.int (G a b)) H
def spLow:Sp:=fun vs H Q _=>∃ t b:Int,vs=[.int t,.int b]/\0<=t/\1<=b/\Bt 9000 b/\RetT H Q [t / G t b,b / G t b]
structure Two (K:PySem.W.Frag)(H:Hp)(p q:Addr)(t1 b1 t2 b2:Int):Prop where
 sp:SqT K H p [.int t1,.int b1]
 sq:H q=some (.tup [.int t2,.int b2])
 ht1:0<=t1
 hb1:1<=b1
 am:Amt t2 b2
 st1:Bt 4000 t1
 sb1:Bt 4000 b1
 st2:Bt 4000 t2
 sb2:Bt 4000 b2
def spPlus (K:PySem.W.Frag):Sp:=fun vs H Q _=>∃ (p q:Addr) (t1 b1 t2 b2:Int),vs=[.ref p,.ref q]/\Two K H p q t1 b1 t2 b2 /\
 RetT H Q [(t1*b2+t2*b1) / G (t1*b2+t2*b1) (b1*b2),(b1*b2) / G (t1*b2+t2*b1) (b1*b2)]
structure Tw (K:PySem.W.Frag)(H:Hp)(p q:Addr)(t1 b1 t2 b2:Int):Prop where
 sp:SqT K H p [.int t1,.int b1]
 sq:SqT K H q [.int t2,.int b2]
 a1:Amt t1 b1
 a2:Amt t2 b2
 st1:Bt 4000 t1
 sb1:Bt 4000 b1
 st2:Bt 4000 t2
 sb2:Bt 4000 b2
def spTimes (K:PySem.W.Frag):Sp:=fun vs H Q _=>∃ (p q:Addr) (t1 b1 t2 b2:Int),vs=[.ref p,.ref q]/\Tw K H p q t1 b1 t2 b2 /\
 RetT H Q [(t1*t2) / G (t1*t2) (b1*b2),(b1*b2) / G (t1*t2) (b1*b2)]
def spOver (K:PySem.W.Frag):Sp:=fun vs H Q _=>∃ (p q:Addr) (t1 b1 t2 b2:Int),vs=[.ref p,.ref q]/\Tw K H p q t1 b1 t2 b2/\1<=t2 /\
 RetT H Q [(t1*b2) / G (t1*b2) (b1*t2),(b1*t2) / G (t1*b2) (b1*t2)]
def spLess (K:PySem.W.Frag):Sp:=fun vs H Q _=>∃ (p q:Addr) (t1 b1 t2 b2:Int),vs=[.ref p,.ref q]/\Tw K H p q t1 b1 t2 b2/\Q (.bl (decide (t1*b2 < t2*b1))) H
def spMinus (K:PySem.W.Frag):Sp:=fun vs H Q _=>∃ (p q:Addr) (t1 b1 t2 b2:Int),vs=[.ref p,.ref q]/\Tw K H p q t1 b1 t2 b2/\t2*b1<=t1*b2 /\
 RetT H Q [(t1*b2 - t2*b1) / G (t1*b2 - t2*b1) (b1*b2),(b1*b2) / G (t1*b2 - t2*b1) (b1*b2)]
structure DK (kvs:List (Key × V))(ks:List Str):Prop where
 keys:kvs.map (·.1)=ks.map Sum.inr
 nd:ks.Nodup
abbrev leS (a b:Str):Prop:=a.cps.toList<=b.cps.toList
section
variable {P:Program}{w:World}{K:PySem.W.Frag}{mg:Str->Option Value}{base:Heap}
theorem b6 {n:Nat}{x:Int}(h:Bt n x)(hn:n<=1000000:=by decide):Bt 1000000 x:=h.mono hn
theorem bt_lt (n:Nat){x c:Int}(h0:0<=x)(h:x < c)(hc:c<=((2 ^ n:Nat):Int):=by decide +kernel):Bt n x:=by
 show x.natAbs < 2 ^ n
 omega
theorem emod_in (x:Int){m:Int}(h:0 < m):0<=x % m/\x % m < m:=⟨Int.emod_nonneg x (by omega),Int.emod_lt_of_pos x h⟩
theorem bt_int:bootBuiltins "int" = some (.type "int"):=by decide +kernel
theorem bt_bool:bootBuiltins "bool" = some (.type "bool"):=by decide +kernel
theorem bt_tuple:bootBuiltins "tuple" = some (.type "tuple"):=by decide +kernel
theorem bt_str:bootBuiltins "str" = some (.type "str"):=by decide +kernel
theorem bl {c:Int}(h0:0<=c:=by decide)(h:c < 18446744073709551616:=by decide):Bt 1000000 c:=b6 (bt_lt 64 h0 h)
theorem bk {c:Int}(h0:0<=c:=by decide)(h:c < 18446744073709551616:=by decide):Bt 1000 c:=(bt_lt 64 h0 h).mono (by decide)
theorem scCell:FnScope ["_law_script","_law_k"] ["_law_script","_law_k"] (defScope sCell):=⟨rfl,rfl,rfl,by decide +kernel,rfl,by decide +kernel,by decide +kernel⟩
theorem ok_cell {f:Addr}{fd:FuncData}(F:Fun K "_law_cell_at" "_law_cell_at" sCell f fd)(T:Txt mg):FnOk P w K mg base CX0 1 f fd ["_law_script","_law_k"] (spCell K):=by
 refine F.ok scCell (fun vs H Q E h => ?_) (fun cdv A outer s H vs Q E hr h => ?_)
 ·obtain ⟨_,_,_,rfl,_⟩:=h
  rfl
 ·obtain ⟨a,ns,j,rfl,hS,h0,k⟩:=h
  refine ⟨_,(pss_cons (ps_if (pt_cmpR op_lt (pv 1) (pe_callB call_len_seq rfl T.len PySem.boot_len (pa_cons (pv 0) pa_nil)) (nomark _))
    (pss_one (ps_ret (pe_ix ix_list (pv 0) (pv 1) (fun _ _=>rfl))))
    pss_nil)
   (pss_one (ps_ret pe_int))),?_⟩
  refine ⟨_,rfl,_,rfl,a,_,rfl,.inl hS,_,_,rfl,rfl,_,rfl,ite2 (fun hc => ?_) (fun _=>k _)⟩
  have hc':j < ((ns.map V.int).length:Int):=of_decide_eq_true hc
  rw [List.length_map] at hc'
  obtain ⟨i,rfl⟩:=Int.eq_ofNat_of_zero_le h0
  obtain ⟨c,hc⟩ : ∃ c,ns[i]?=some c:=⟨_,List.getElem?_eq_getElem (show i < ns.length by omega)⟩
  exact ⟨_,rfl,_,rfl,a,_,(i:Int),.int c,rfl,rfl,hS,atI_nat (by rw [List.getElem?_map,hc]; rfl),k c⟩
theorem bt_abs:bootBuiltins "abs" = some (.builtin "abs"):=by decide +kernel
theorem lenC (x:Str):x.length=(cps x).length:=by simp [Str.length,cps]
theorem lenA (x y:Str):(x ++ y).length=x.length+y.length:=by rw [lenC,cps_append',List.length_append,<- lenC,<- lenC]
theorem in_strs {x:Str}{ws:List Str}:inV (.str x) (ws.map V.str)=true ↔ x ∈ ws:=by
 unfold inV
 rw [List.any_map,List.any_eq_true]
 constructor
 ·rintro ⟨y,hy,e⟩
  have:y=x:=by simpa [eqV] using e
  exact this ▸ hy
 ·intro h
  exact ⟨x,h,by simp [eqV]⟩
theorem flat_strs (ws:List Str):(ws.map V.str).all flatV=true:=by
 rw [List.all_map,List.all_eq_true]
 intro x _
 rfl
theorem nodup_snoc {ws:List Str}{x:Str}(h:ws.Nodup)(n:x ∉ ws):(ws ++ [x]).Nodup:=by
 rw [List.nodup_append]
 refine ⟨h,by simp,fun y hy z hz e => ?_⟩
 rw [List.mem_singleton.mp hz] at e
 exact n (e ▸ hy)
theorem clOk_plain {X:Cx}{scope:Scope}(h : ∀ y ∈ scope.names,y.2 = .local\/y.2 = .globalImplicit):ClOk X scope []:=by
 refine ⟨closureFor_none fun x hx z => ?_,fun x c e=>by simp at e,fun x e => ?_⟩
 ·rcases h x hx with q | q <;> rw [q] at z <;> cases z
 ·exfalso
  have e' : ∃ k,(k=NameKind.cell\/k=NameKind.free)/\(relabel scope X.env).names.lookup x=some k:=by
   rcases e with e | e
   ·exact ⟨_,.inl rfl,e⟩
   ·exact ⟨_,.inr rfl,e⟩
  obtain ⟨k,hk,e⟩:=e'
  have hm:=PySem.mem_of_lookup e
  obtain ⟨y,hy,hy2⟩:=List.mem_map.mp hm
  have hl:=h y hy
  obtain ⟨n,kk⟩:=y
  simp only at hl
  rcases hl with hl | hl <;> subst hl <;> simp at hy2 <;> rcases hk with rfl | rfl <;> exact absurd hy2.2 (by decide)
theorem nd1:(["sign"]:List Str).Nodup:=by decide +kernel
theorem let_mem (c:Nat):(!(Builtin.Str.occurrences LET ⟨#[c]⟩ 0 LET.length 1).isEmpty)=decide (97<=c/\c<=122):=by
 rw [StrLaws.found_one]
 have e:LET.cps.toList=(List.range 26).map (97 + ·):=by decide +kernel
 rw [e]
 refine decide_eq_decide.mpr ⟨fun h => ?_,fun h => ?_⟩
 ·obtain ⟨j,hj,rfl⟩:=List.mem_map.mp h
  have:=List.mem_range.mp hj
  omega
 ·exact List.mem_map.mpr ⟨c - 97,List.mem_range.mpr (by omega),by omega⟩
theorem scIsWare:FnScope ["thing"] ["thing"] (defScope sIsWare):=⟨rfl,rfl,rfl,by decide +kernel,rfl,by decide +kernel,by decide +kernel⟩
theorem ok_isware {f:Addr}{fd:FuncData}{tk tk':Tok}(F:Fun K "is_ware" "is_ware" sIsWare f fd)(T:Txt mg)(mM:mg "MOST_LETTERS" = some (.int 8 tk))(mL:mg "LETTERS" = some (.str LET tk')):FnOk P w K mg base CX0 1 f fd ["thing"] (spIsWare K):=by
 refine F.ok scIsWare (fun vs H Q E h => ?_) (fun cdv A outer s H vs Q E hr h => ?_)
 ·obtain ⟨_,rfl,_⟩:=h
  rfl
 ·obtain ⟨v,rfl,h⟩:=h
  refine ⟨_,(pss_cons (ps_if (pt_not (pt_val (pe_callB call_isiZ rfl T.isi boot_isinstance (pa_cons (pv 0) (pa_cons (pe_bltn (v:=.ty "str") rfl T.str' bt_str rfl) pa_nil)))))
    (pss_one (ps_ret pe_bl)) pss_nil)
   (pss_one (ps_ret (pe_and (pe_chain op_le op_le pe_int (pe_callB call_len_str rfl T.len PySem.boot_len (pa_cons (pv 0) pa_nil)) (pe_glob (v:=.int 8) rfl mM ⟨_,rfl⟩)) (pe_one (pe_callB (call_allB rfl) rfl T.all' boot_all (pa_cons (pe_comp (N':=["sign"]) (cl:=[]) (fun _=>[none]) rfl rfl (by decide +kernel) (by decide +kernel) (clOk_plain (by decide +kernel)) (fun _ _=>blkN_none)
      (pi_str (pv 0)) (fun _ _ _ _ _=>pg_name (i:=0) nd1 rfl (Or.inl rfl)) (fun _ _ _ _ _=>pifs_nil) (fun _ _ _ _ _=>pe_cmpR op_in_str (pv 0) (pe_glob (v:=.str LET) rfl mL ⟨_,rfl⟩) rfl)) pa_nil))))))),?_⟩
  rcases h with ⟨hi,hb⟩ | ⟨x,rfl,hl,kT,kF⟩
  ·exact ⟨_,rfl,v,"str",false,rfl,hi,_,rfl,iteT hb⟩
  ·have hz:=sz1000 hl
   have le:=lenC x
   refine ⟨_,rfl,_,"str",true,rfl,.inl .str_str,_,rfl,iteF ?_⟩
   refine ⟨_,rfl,x,rfl,hz,_,_,rfl,rfl,_,rfl,ite2 (fun h1 => ?_) (fun h1 => ?_)⟩
   ·have h1':(1:Int)<=(x.length:Int):=of_decide_eq_true h1
    refine ⟨_,_,rfl,rfl,_,rfl,?_⟩
    by_cases h2:(x.length:Int)<=8
    ·rw [decide_eq_true h2]
     refine iteT ⟨_,rfl,x,rfl,fun D hD => ?_⟩
     refine comp_str (fun i ys H'=>ys=((cps x).take i).map (fun c=>V.bl (decide (97<=c/\c<=122)))/\Same H H'/\H' D=some (.lst ys)) ⟨by simp,Same.upd hD,upd_same⟩ ?_ ?_ ?_
     ·rintro i ys H' hi ⟨rfl,_,hD'⟩
      refine ⟨hD',?_⟩
      rw [List.length_map,List.length_take]
      exact small1000 (by omega)
     ·rintro i c ys H' hc ⟨rfl,sm,hD'⟩
      refine ⟨(Keep.refl _).set rfl,?_⟩
      unfold tNoIf
      dsimp only
      rw [if_pos rfl]
      refine ⟨_,rfl,_,_,rfl,rfl,hD',Nx.mk (List.getElem?_eq_some_iff.mp hc).1 ⟨?_,fun b o hb => ?_,upd_same⟩⟩
      ·rw [let_mem,List.take_add_one,hc,List.map_append]
       rfl
      ·have ne:b ≠ D:=fun z=>by rw [z,hD] at hb; cases hb
       rw [upd_ne ne]
       exact sm b o hb
     ·rintro ys H' ⟨rfl,sm,hD'⟩
      rw [List.take_of_length_le (Nat.le_refl _)] at hD'
      refine ⟨D,(cps x).map (fun c=>decide (97<=c/\c<=122)),rfl,SqL.of (by rw [List.map_map]; exact hD'),?_⟩
      by_cases a : ∀ c ∈ cps x,97<=c/\c<=122
      ·have e:((cps x).map (fun c=>decide (97<=c/\c<=122))).all id=true:=by
        rw [List.all_map,List.all_eq_true]
        exact fun c hc=>decide_eq_true (a c hc)
       rw [e]
       exact kT ⟨by omega,by omega,a⟩ _ sm
      ·have e:((cps x).map (fun c=>decide (97<=c/\c<=122))).all id=false:=by
        rw [Bool.eq_false_iff,Ne,List.all_map,List.all_eq_true]
        exact fun h=>a fun c hc=>of_decide_eq_true (h c hc)
       rw [e]
       exact kF (fun z=>a z.lt) _ sm
    ·rw [decide_eq_false h2]
     exact iteF (kF (fun z=>h2 (by have:=z.l8; omega)) _ (Same.refl _))
   ·have h1' : ¬ (1:Int)<=(x.length:Int):=fun z=>h1 (decide_eq_true z)
    exact ⟨_,rfl,iteF (kF (fun z=>h1' (by have:=z.l1; omega)) _ (Same.refl _))⟩
theorem b9 {c:Int}(h0:0<=c:=by decide)(h:c < 18446744073709551616:=by decide):Bt 9000 c:=(bt_lt 64 h0 h).mono (by decide)
theorem same_own {H H':Hp}{p:Addr}{o:HO}(s:Same H H')(n:H p=none):Same H (upd H' p o):=fun b u e=>by
 rw [upd_ne (fun z=>by rw [z,n] at e; cases e)]
 exact s _ _ e
theorem same_none {H H':Hp}{p:Addr}(s:Same H H')(n:H' p=none):H p=none:=by
 cases e:H p with
 | none=>rfl
 | some o =>
  have:=s _ _ e
  rw [n] at this
  cases this
theorem scIsWh:FnScope ["thing"] ["thing"] (defScope sIsWh):=⟨rfl,rfl,rfl,by decide +kernel,rfl,by decide +kernel,by decide +kernel⟩
theorem ok_iswh {f:Addr}{fd:FuncData}(F:Fun K "is_whole_number" "is_whole_number" sIsWh f fd)(T:Txt mg):FnOk P w K mg base CX0 1 f fd ["thing"] spWh:=by
 refine F.ok scIsWh (fun vs H Q E h => ?_) (fun cdv A outer s H vs Q E hr h => ?_)
 ·obtain ⟨_,_,rfl,_⟩:=h
  rfl
 ·obtain ⟨v,β,rfl,h,k⟩:=h
  refine ⟨_,pss_one (ps_ret (pe_and (pe_callB call_isi rfl T.isi boot_isinstance (pa_cons (pv 0) (pa_cons (pe_bltn (v:=.ty "int") rfl T.int' bt_int rfl) pa_nil)))
   (pe_one (pe_not (pe_callB call_isi rfl T.isi boot_isinstance (pa_cons (pv 0) (pa_cons (pe_bltn (v:=.ty "bool") rfl T.bool' bt_bool rfl) pa_nil))))))),?_⟩
  cases h with
  | int=>exact ⟨_,rfl,_,"int",true,rfl,.int_int,_,rfl,iteT ⟨_,rfl,_,"bool",false,rfl,.int_bool,_,rfl,k⟩⟩
  | bl=>exact ⟨_,rfl,_,"int",true,rfl,.bl_int,_,rfl,iteT ⟨_,rfl,_,"bool",true,rfl,.bl_bool,_,rfl,k⟩⟩
  | non=>exact ⟨_,rfl,_,"int",false,rfl,.non_int,_,rfl,iteF k⟩
  | str=>exact ⟨_,rfl,_,"int",false,rfl,.str_int,_,rfl,iteF k⟩
theorem scWhole:FnScope ["_law_found"] ["_law_found"] (defScope sWhole):=⟨rfl,rfl,rfl,by decide +kernel,rfl,by decide +kernel,by decide +kernel⟩
theorem ok_whole {f:Addr}{fd:FuncData}(F:Fun K "_law_whole" "_law_whole" sWhole f fd)(T:Txt mg):FnOk P w K mg base CX0 1 f fd ["_law_found"] spWh:=by
 refine F.ok scWhole (fun vs H Q E h => ?_) (fun cdv A outer s H vs Q E hr h => ?_)
 ·obtain ⟨_,_,rfl,_⟩:=h
  rfl
 ·obtain ⟨v,β,rfl,h,k⟩:=h
  refine ⟨_,pss_one (ps_ret (pe_and (pe_callB call_isi rfl T.isi boot_isinstance (pa_cons (pv 0) (pa_cons (pe_bltn (v:=.ty "int") rfl T.int' bt_int rfl) pa_nil)))
   (pe_one (pe_not (pe_callB call_isi rfl T.isi boot_isinstance (pa_cons (pv 0) (pa_cons (pe_bltn (v:=.ty "bool") rfl T.bool' bt_bool rfl) pa_nil))))))),?_⟩
  cases h with
  | int=>exact ⟨_,rfl,_,"int",true,rfl,.int_int,_,rfl,iteT ⟨_,rfl,_,"bool",false,rfl,.int_bool,_,rfl,k⟩⟩
  | bl=>exact ⟨_,rfl,_,"int",true,rfl,.bl_int,_,rfl,iteT ⟨_,rfl,_,"bool",true,rfl,.bl_bool,_,rfl,k⟩⟩
  | non=>exact ⟨_,rfl,_,"int",false,rfl,.non_int,_,rfl,iteF k⟩
  | str=>exact ⟨_,rfl,_,"int",false,rfl,.str_int,_,rfl,iteF k⟩
theorem scMixed:FnScope ["_law_cell","_law_k"] ["_law_cell","_law_k"] (defScope sMixed):=⟨rfl,rfl,rfl,by decide +kernel,rfl,by decide +kernel,by decide +kernel⟩
theorem ok_mixed {f:Addr}{fd:FuncData}(F:Fun K "_law_mixed" "_law_mixed" sMixed f fd):FnOk P w K mg base CX0 1 f fd ["_law_cell","_law_k"] spMixed:=by
 refine F.ok scMixed (fun vs H Q E h => ?_) (fun cdv A outer s H vs Q E hr h => ?_)
 ·obtain ⟨_,_,rfl,_⟩:=h
  rfl
 ·obtain ⟨c,k,rfl,k0,k1,q⟩:=h
  refine ⟨_,pss_one (ps_ret (pe_op op_mod (pe_op op_mulB (pe_op op_add (pe_op op_mod (pv 0) pe_int) pe_int) (pe_op op_add pe_int (pe_op op_mulB (pe_op op_mulB pe_int (pv 1)) (pv 1)))) pe_int)),?_⟩
  have c1:=emod_in c (m:=2147483647) (by decide)
  have bk1:Bt 32 k:=bt_lt 32 (c:=1001) k0 (by omega)
  have b2:Bt 34 (2*k):=(bt_lt 2 (x:=2) (c:=3) (by decide) (by decide)).mul bk1
  have b3:Bt 66 (c % 2147483647+13):=bt_lt 66 (c:=2147483647+13) (by omega) (by omega)
  have b4:Bt 67 (69621+2*k*k):=(bt_lt 66 (x:=69621) (c:=69622) (by decide) (by decide)).add (b2.mul bk1)
  refine ⟨_,rfl,_,_,rfl,rfl,(by show (0:Int) < 2147483647; decide),_,_,rfl,rfl,_,rfl,_,_,rfl,rfl,⟨bl,b6 bk1⟩,_,rfl,_,_,rfl,rfl,⟨b6 b2,b6 bk1⟩,_,_,rfl,rfl,_,_,rfl,rfl,⟨b6 b3,b6 b4⟩,_,_,rfl,rfl,(by show (0:Int) < 2147483587; decide),?_⟩
  have e:=emod_in ((c % 2147483647+13)*(69621+2*k*k)) (m:=2147483587) (by decide)
  exact q _ e.1 e.2
abbrev Lw (x:Str):Prop:=∀ c ∈ cps x,97<=c/\c<=122
theorem lw_one {c:Nat}(h:97<=c/\c<=122):Lw ⟨#[c]⟩:=fun d hd=>by
 have:d=c:=by simpa [cps] using hd
 rw [this]
 exact h
theorem lw_app {x y:Str}(hx:Lw x)(hy:Lw y):Lw (x ++ y):=fun c hc=>by
 rw [cps_append'] at hc
 rcases List.mem_append.mp hc with h | h
 ·exact hx c h
 ·exact hy c h
theorem at_LET {e:Int}(h0:0<=e)(h:e < 26) : ∃ c,atI LET.cps.toList e=some c/\97<=c/\c<=122:=by
 obtain ⟨n,rfl⟩:=Int.eq_ofNat_of_zero_le h0
 exact ⟨97+n,atI_nat (at_let (by omega)),by omega,by omega⟩
def spWord:Sp:=fun vs H Q _=>∃ n:Int,vs=[.int n]/\0<=n/\∀ (x:Str) (n':Int) p H',0<=n'->Wr x->Same H H'->H' p=some (.tup [.str x,.int n'])->Q (.ref p) H'
theorem scWord:FnScope ["_law_left","_law_word","_law_many","_law_k"] ["_law_left"] (defScope sWord):=⟨rfl,rfl,rfl,by decide +kernel,rfl,by decide +kernel,by decide +kernel⟩
theorem ok_word {f:Addr}{fd:FuncData}(F:Fun K "_law_word_by" "_law_word_by" sWord f fd)(T:Txt mg):FnOk P w K mg base CX0 1 f fd ["_law_left"] spWord:=by
 refine F.ok scWord (fun vs H Q E h => ?_) (fun cdv A outer s H vs Q E hr h => ?_)
 ·obtain ⟨_,rfl,_⟩:=h
  rfl
 ·obtain ⟨n,rfl,n0,k⟩:=h
  refine ⟨_,(pss_cons (ps_set (i:=1) scWord.nd rfl (Or.inl rfl) pe_str)
   (pss_cons (ps_set (i:=2) scWord.nd rfl (Or.inl rfl) (pe_op op_add pe_int (pe_op op_mod (pv 0) pe_int)))
   (pss_cons (ps_set (i:=0) scWord.nd rfl (Or.inl rfl) (pe_op op_fdivB (pv 0) pe_int))
   (pss_cons (ps_for PassesOwn.never rfl (pi_range1 rfl T.range (pa_cons (pv 2) pa_nil)) (pg_name (i:=3) scWord.nd rfl (Or.inl rfl))
    (pss_cons (ps_set (i:=1) scWord.nd rfl (Or.inl rfl) (pe_op op_add_str (pv 1) (pe_ix ix_str pe_str (pe_op op_mod (pv 0) pe_int) (fun _ _=>rfl))))
    (pss_one (ps_set (i:=0) scWord.nd rfl (Or.inl rfl) (pe_op op_fdivB (pv 0) pe_int)))))
   (pss_one (ps_ret (pe_tup (pa_cons (pv 1) (pa_cons (pv 0) pa_nil))))))))),?_⟩
  have zL:LET.length<=sizeLine:=by decide +kernel
  have e8:=emod_in n (m:=8) (by decide)
  refine ⟨_,rfl,_,_,rfl,rfl,(by show (0:Int) < 8; decide),_,_,rfl,rfl,?_⟩
  refine ⟨_,rfl,_,_,rfl,rfl,⟨by decide,b9⟩,?_⟩
  refine ⟨_,rfl,_,rfl,by omega,by omega,?_⟩
  refine for_range (fun i σ H'=>∃ (x:Str) (l:Int) (v3:Option V),σ=[some (.int l),some (.str x),some (.int (1+n % 8)),v3]/\x.length=i/\Lw x/\0<=l/\H'=H) ⟨"",n / 8,none,rfl,rfl,(by decide +kernel),Int.ediv_nonneg n0 (by decide),rfl⟩ ?_ ?_
  ·rintro i σ H' hi ⟨x,l,v3,rfl,xl,lw,l0,rfl⟩
   have e:=emod_in l (m:=26) (by decide)
   obtain ⟨c,hc,hc'⟩:=at_LET e.1 e.2
   refine ⟨_,rfl,_,rfl,_,_,rfl,rfl,(by show (0:Int) < 26; decide),LET,_,c,rfl,rfl,zL,hc,_,_,rfl,rfl,sz1000 (by show x.length+1<=1000; omega),?_⟩
   refine ⟨_,rfl,_,_,rfl,rfl,⟨by decide,b9⟩,?_⟩
   refine ⟨_,_,_,rfl,?_,lw_app lw (lw_one hc'),Int.ediv_nonneg l0 (by decide),rfl⟩
   rw [lenA,xl]
   rfl
  ·rintro σ H' ⟨x,l,v3,rfl,xl,lw,l0,rfl⟩
   exact ⟨_,rfl,_,rfl,(show 2<=sizeLine by decide +kernel),fun p hp=>k x l p _ l0 ⟨by omega,by omega,lw⟩ (Same.upd hp) upd_same⟩
theorem ix_tupK {X:Cx}{K:PySem.W.Frag}(h:X.K=K):IxR X (rIxT K):=h ▸ ix_tup
theorem abs_nn (c:Int):0<=(if c < 0 then -c else c):=by split <;> omega
theorem sorted_pw : ∀ {ss:List Str},sortedS ss=true->ss.Pairwise (fun a b=>a.cps.toList<=b.cps.toList)
 | [],_=>.nil
 | x :: r,h=>by
  have key : ∀ (r:List Str) (x:Str),risingS x r=true->(∀ y ∈ r,x.cps.toList<=y.cps.toList)/\r.Pairwise (fun a b=>a.cps.toList<=b.cps.toList):=by
   intro r
   induction r with
   | nil=>intro x _; exact ⟨(fun _ h=>nomatch h),.nil⟩
   | cons y r ih =>
    intro x hx
    have hx':(!ltCps y.cps.toList x.cps.toList && risingS y r)=true:=hx
    simp only [Bool.and_eq_true,Bool.not_eq_true'] at hx'
    obtain ⟨h1,h2⟩:=hx'
    rw [ltCps_eq] at h1
    have le:x.cps.toList<=y.cps.toList:=List.not_lt.mp (of_decide_eq_false h1)
    obtain ⟨i1,i2⟩:=ih y h2
    refine ⟨fun z hz => ?_,.cons i1 i2⟩
    rcases List.mem_cons.mp hz with rfl | hz
    ·exact le
    ·exact List.le_trans le (i1 z hz)
  obtain ⟨k1,k2⟩:=key r x h
  exact .cons k1 k2
theorem sorted_uniq {a b:List Str}(h:a.Perm b)(ha:sortedS a=true)(hb:sortedS b=true):a=b:=by
 refine h.eq_of_pairwise (le:=fun a b=>a.cps.toList<=b.cps.toList) (fun x y _ _ h1 h2 => ?_) (sorted_pw ha) (sorted_pw hb)
 exact TM.ext (List.le_antisymm h1 h2)
theorem paired_mono {α β:Type}{R R':α->β->Prop}(k : ∀ a b,R a b->R' a b) : ∀ {xs:List α} {ys:List β},Paired R xs ys->Paired R' xs ys
 | _,_,.nil=>.nil
 | _,_,.cons h t=>.cons (k _ _ h) (paired_mono k t)
theorem paired_snoc {α β:Type}{R:α->β->Prop} : ∀ {xs:List α} {ys:List β} {a:α} {b:β},Paired R xs ys->R a b->Paired R (xs ++ [a]) (ys ++ [b])
 | _,_,_,_,.nil,r=>.cons r .nil
 | _,_,_,_,.cons h t,r=>.cons h (paired_snoc t r)
theorem paired_get {α β:Type}{R:α->β->Prop} : ∀ {xs:List α} {ys:List β} {i:Nat} {a:α},Paired R xs ys->xs[i]?=some a->∃ b,ys[i]?=some b/\R a b
 | _,_,_,_,.nil,h=>by simp at h
 | _,_,0,_,.cons r t,h=>by
  simp at h
  subst h
  exact ⟨_,rfl,r⟩
 | _,_,i+1,_,.cons r t,h=>by
  rw [List.getElem?_cons_succ] at h
  obtain ⟨b,e,r'⟩:=paired_get t h
  exact ⟨b,by rw [List.getElem?_cons_succ]; exact e,r'⟩
theorem paired_len {α β:Type}{R:α->β->Prop} : ∀ {xs:List α} {ys:List β},Paired R xs ys->xs.length=ys.length
 | _,_,.nil=>rfl
 | _,_,.cons _ t=>by rw [List.length_cons,List.length_cons,paired_len t]
theorem at_LETe {e:Int}(h0:0<=e)(h:e < 26):atI LET.cps.toList e=some (97+e.toNat):=by
 obtain ⟨n,rfl⟩:=Int.eq_ofNat_of_zero_le h0
 exact atI_nat (at_let (by omega))
theorem gcd_turn {a0 b0 a b:Int}(e:G a b=G a0 b0)(hb:0<=b)(h : ¬ b=0):0<=a % b/\G b (a % b)=G a0 b0:=⟨Int.emod_nonneg a h,by rw [G_step]; exact e⟩
theorem scGcd:FnScope ["one","other","rest"] ["one","other"] (defScope sGcd):=⟨rfl,rfl,rfl,by decide +kernel,rfl,by decide +kernel,by decide +kernel⟩
theorem ok_gcd {f:Addr}{fd:FuncData}(F:Fun K "common_divisor" "common_divisor" sGcd f fd):FnOk P w K mg base CX0 1 f fd ["one","other"] spGcd:=by
 refine F.ok scGcd (fun vs H Q E h => ?_) (fun cdv A outer s H vs Q E hr h => ?_)
 ·obtain ⟨a,b,rfl,_⟩:=h
  rfl
 ·obtain ⟨a,b,rfl,ha,hb,k⟩:=h
  refine ⟨_,pss_cons (ps_while PassesOwn.never (pt_cmpR op_ne (pv 1) pe_int (nomark _))
   (pss_cons (ps_set (i:=2) scGcd.nd rfl (Or.inl rfl) (pe_op op_mod (pv 0) (pv 1)))
   (pss_cons (ps_set (i:=0) scGcd.nd rfl (Or.inl rfl) (pv 1))
   (pss_one (ps_set (i:=1) scGcd.nd rfl (Or.inl rfl) (pv 2))))))
   (pss_one (ps_ret (pv 0))),?_⟩
  refine while_by (fun σ H'=>H'=H/\∃ (x y:Int) (r:Option V),σ=[some (.int x),some (.int y),r]/\0<=x/\0<=y/\G x y=G a b) (fun σ _=>match σ with | [_,some (.int y),_]=>y.toNat | _=>0) ⟨rfl,a,b,none,rfl,ha,hb,rfl⟩ ?_ ?_
  ·rintro σ H' ⟨rfl,x,y,r,rfl,hx,hy,e⟩
   refine ⟨_,rfl,rfl,_,rfl,?_⟩
   refine ite2 (fun hc => ?_) (fun hc => ?_)
   ·have hy0 : ¬ y=0:=by
     intro z
     subst z
     simp at hc
    have t:=gcd_turn e hy hy0
    refine ⟨_,rfl,_,rfl,_,_,rfl,rfl,(by show 0 < y; omega),_,rfl,_,rfl,⟨rfl,y,x % y,_,rfl,hy,t.1,t.2⟩,?_⟩
    have:=Int.emod_lt_of_pos x (show 0 < y by omega)
    have:=t.1
    show (x % y).toNat < y.toNat
    omega
   ·have hy0:y=0:=by
     by_cases z:y=0
     ·exact z
     ·exfalso
      apply hc
      simp [z]
    subst hy0
    rw [G_zero hx] at e
    exact ⟨_,rfl,by rw [e]; exact k⟩
  ·rintro σ H' Q1 Q2 hq ⟨v,e,z,q⟩
   exact ⟨v,e,z,by obtain ⟨k,e,q⟩:=q; exact ⟨k,e,hq _ _ q⟩⟩
theorem low_small {t b:Int}(h1:1<=b)(hs:Bt 9000 b):0 < G t b/\Bt 9000 (G t b):=by
 have p:=G_pos (a:=t) (b:=b) (by omega)
 exact ⟨p,hs.le (by omega) (G_le_r (by omega))⟩
theorem scLow:FnScope ["top","bottom","divisor"] ["top","bottom"] (defScope sLow):=⟨rfl,rfl,rfl,by decide +kernel,rfl,by decide +kernel,by decide +kernel⟩
theorem ok_low {f:Addr}{fd:FuncData}(F:Fun K "lowest_terms" "lowest_terms" sLow f fd)(cG:Cal P w K mg base CX0 1 "common_divisor" ["one","other"] spGcd):FnOk P w K mg base CX0 2 f fd ["top","bottom"] spLow:=by
 refine F.ok scLow (fun vs H Q E h => ?_) (fun cdv A outer s H vs Q E hr h => ?_)
 ·obtain ⟨a,b,rfl,_⟩:=h
  rfl
 ·obtain ⟨t,b,rfl,ht,hb,hs,k⟩:=h
  refine ⟨_,pss_cons (ps_set (i:=2) scLow.nd rfl (Or.inl rfl) (pe_cal cG hr rfl pass0 (pa_cons (pv 0) (pa_cons (pv 1) pa_nil))))
   (pss_one (ps_ret (pe_tup (pa_cons (pe_op op_fdivB (pv 0) (pv 2)) (pa_cons (pe_op op_fdivB (pv 1) (pv 2)) pa_nil))))),?_⟩
  refine ⟨_,rfl,_,rfl,t,b,rfl,ht,by omega,?_⟩
  have g:=low_small (t:=t) hb hs
  refine ⟨_,rfl,_,rfl,_,_,rfl,rfl,g,_,rfl,_,rfl,_,_,rfl,rfl,g,(by show 2<=sizeLine; decide),fun p hp => ?_⟩
  exact k p _ (Same.upd hp) upd_same
theorem frSmall {M t b N:Int}(hM:0 < M)(h:Fr M t b N):t<=N/\b<=M:=by
 have hb:=Int.le_of_dvd hM h.dvd
 refine ⟨?_,hb⟩
 have n0:=h.nonneg hM
 have:=Int.mul_le_mul_of_nonneg_left hb n0
 rw [<- h.e] at this
 exact Int.le_of_mul_le_mul_right this hM
theorem Two.botS {K:PySem.W.Frag}{H:Hp}{p q:Addr}{t1 b1 t2 b2:Int}(T:Two K H p q t1 b1 t2 b2):1<=b1*b2/\Bt 8000 (b1*b2):=by
 have:=Int.mul_le_mul T.hb1 T.am.b1 (by decide) (by have:=T.hb1; omega)
 exact ⟨by omega,T.sb1.mul T.sb2⟩
theorem scPlus:FnScope ["one","other"] ["one","other"] (defScope sPlus):=⟨rfl,rfl,rfl,by decide +kernel,rfl,by decide +kernel,by decide +kernel⟩
theorem ok_plus {f aN:Addr}{fd:FuncData}(F:Fun K "plus" "plus" sPlus f fd)(mN:mg "NOUGHT" = some (.ref aN))(sN : ∀ H:Hp,SqT K H aN [.int 0,.int 1])(cL:Cal P w K mg base CX0 2 "lowest_terms" ["top","bottom"] spLow):FnOk P w K mg base CX0 3 f fd ["one","other"] (spPlus K):=by
 refine F.ok scPlus (fun vs H Q E h => ?_) (fun cdv A outer s H vs Q E hr h => ?_)
 ·obtain ⟨_,_,_,_,_,_,rfl,_⟩:=h
  rfl
 ·obtain ⟨p,q,t1,b1,t2,b2,rfl,T,k⟩:=h
  refine ⟨_,pss_cons (ps_if (pt_cmpR (op_eqI hr.units) (pv 0) (pe_glob (v:=.ref aN) rfl mN rfl) (nomark _)) (pss_one (ps_ret (pv 1))) pss_nil)
   (pss_one (ps_ret (pe_cal cL hr rfl pass0 (pa_cons (pe_op op_add (pe_op op_mulB (pit 0 0) (pit 1 1)) (pe_op op_mulB (pit 1 0) (pit 0 1))) (pa_cons (pe_op op_mulB (pit 0 1) (pit 1 1)) pa_nil))))),?_⟩
  have bs:=T.botS
  have hs:=SqT.of (K:=K) T.sq
  have m1:=Int.mul_nonneg T.ht1 (show 0<=b2 by have:=T.am.b1; omega)
  have m2:=Int.mul_nonneg T.am.t0 (show 0<=b1 by have:=T.hb1; omega)
  have a0:=T.am.t0
  have a1:=T.am.b1
  refine ⟨_,rfl,p,aN,[t1,b1],[0,1],rfl,rfl,T.sp,sN H,_,rfl,ite2 (fun hc => ?_) (fun _ => ?_)⟩
  ·have e:=of_decide_eq_true hc
   injection e with e1 e
   injection e with e2 e
   subst e1 e2
   refine ⟨_,rfl,?_⟩
   have u:=low_unique (t:=0*b2+t2*1) (b:=1*b2) (by omega) (by omega) T.am (by rw [Int.zero_mul,Int.zero_add,Int.one_mul,Int.mul_one])
   rw [u.1,u.2] at k
   exact k q H (Same.refl H) T.sq
  ·refine ⟨p,_,_,rfl,T.sp,rfl,q,_,_,rfl,hs,rfl,_,_,rfl,rfl,⟨b6 T.st1,b6 T.sb2⟩,q,_,_,rfl,hs,rfl,p,_,_,rfl,T.sp,rfl,_,_,rfl,rfl,⟨b6 T.st2,b6 T.sb1⟩,_,_,rfl,rfl,?_⟩
   exact ⟨p,_,_,rfl,T.sp,rfl,q,_,_,rfl,hs,rfl,_,_,rfl,rfl,⟨b6 T.sb1,b6 T.sb2⟩,_,_,rfl,by omega,bs.1,bs.2.mono (by decide),k⟩
theorem scTimes:FnScope ["one","other"] ["one","other"] (defScope sTimes):=⟨rfl,rfl,rfl,by decide +kernel,rfl,by decide +kernel,by decide +kernel⟩
theorem mul1 {a b:Int}(ha:1<=a)(hb:1<=b):1<=a*b:=by
 have:=Int.mul_le_mul ha hb (by decide) (by omega)
 omega
theorem ok_times {f:Addr}{fd:FuncData}(F:Fun K "times" "times" sTimes f fd)(cL:Cal P w K mg base CX0 2 "lowest_terms" ["top","bottom"] spLow):FnOk P w K mg base CX0 3 f fd ["one","other"] (spTimes K):=by
 refine F.ok scTimes (fun vs H Q E h => ?_) (fun cdv A outer s H vs Q E hr h => ?_)
 ·obtain ⟨_,_,_,_,_,_,rfl,_⟩:=h
  rfl
 ·obtain ⟨p,q,t1,b1,t2,b2,rfl,T,k⟩:=h
  refine ⟨_,pss_one (ps_ret (pe_cal cL hr rfl pass0 (pa_cons (pe_op op_mulB (pit 0 0) (pit 1 0)) (pa_cons (pe_op op_mulB (pit 0 1) (pit 1 1)) pa_nil)))),?_⟩
  refine ⟨p,_,_,rfl,T.sp,rfl,q,_,_,rfl,T.sq,rfl,_,_,rfl,rfl,⟨b6 T.st1,b6 T.st2⟩,?_⟩
  exact ⟨p,_,_,rfl,T.sp,rfl,q,_,_,rfl,T.sq,rfl,_,_,rfl,rfl,⟨b6 T.sb1,b6 T.sb2⟩,_,_,rfl,Int.mul_nonneg T.a1.t0 T.a2.t0,mul1 T.a1.b1 T.a2.b1,(T.sb1.mul T.sb2).mono (by decide),k⟩
theorem scOver:FnScope ["one","other"] ["one","other"] (defScope sOver):=⟨rfl,rfl,rfl,by decide +kernel,rfl,by decide +kernel,by decide +kernel⟩
theorem ok_over {f aN:Addr}{fd:FuncData}(F:Fun K "over" "over" sOver f fd)(mN:mg "NOUGHT" = some (.ref aN))(sN : ∀ H:Hp,SqT K H aN [.int 0,.int 1])(cL:Cal P w K mg base CX0 2 "lowest_terms" ["top","bottom"] spLow):FnOk P w K mg base CX0 3 f fd ["one","other"] (spOver K):=by
 refine F.ok scOver (fun vs H Q E h => ?_) (fun cdv A outer s H vs Q E hr h => ?_)
 ·obtain ⟨_,_,_,_,_,_,rfl,_⟩:=h
  rfl
 ·obtain ⟨p,q,t1,b1,t2,b2,rfl,T,h1,k⟩:=h
  refine ⟨_,pss_cons (ps_if (pt_cmpR (op_eqI hr.units) (pv 1) (pe_glob (v:=.ref aN) rfl mN rfl) (nomark _)) (pss_one ps_never) pss_nil)
   (pss_one (ps_ret (pe_cal cL hr rfl pass0 (pa_cons (pe_op op_mulB (pit 0 0) (pit 1 1)) (pa_cons (pe_op op_mulB (pit 0 1) (pit 1 0)) pa_nil))))),?_⟩
  refine ⟨_,rfl,q,aN,[t2,b2],[0,1],rfl,rfl,T.sq,sN H,_,rfl,?_⟩
  rw [decide_eq_false (fun e=>by injection e with e1 e; omega)]
  refine iteF ⟨p,_,_,rfl,T.sp,rfl,q,_,_,rfl,T.sq,rfl,_,_,rfl,rfl,⟨b6 T.st1,b6 T.sb2⟩,?_⟩
  exact ⟨p,_,_,rfl,T.sp,rfl,q,_,_,rfl,T.sq,rfl,_,_,rfl,rfl,⟨b6 T.sb1,b6 T.st2⟩,_,_,rfl,Int.mul_nonneg T.a1.t0 (by have:=T.a2.b1; omega),mul1 T.a1.b1 h1,(T.sb1.mul T.st2).mono (by decide),k⟩
theorem fr_minus {M1 M2 t1 b1 n1 t2 b2 n2:Int}(h1:0 < M1)(h2:0 < M2)(f1:Fr M1 t1 b1 n1)(f2:Fr M2 t2 b2 n2)(le:n2*M1<=n1*M2):t2*b1<=t1*b2/\Fr (M1*M2) ((t1*b2 - t2*b1) / G (t1*b2 - t2*b1) (b1*b2)) ((b1*b2) / G (t1*b2 - t2*b1) (b1*b2)) (n1*M2 - n2*M1):=by
 have e1:=f1.e
 have e2:=f2.e
 have a1:=f1.am.b1
 have a2:=f2.am.b1
 have bb:1<=b1*b2:=mul1 a1 a2
 have MM:0 < M1*M2:=Int.mul_pos h1 h2
 have key:(t1*b2 - t2*b1)*(M1*M2)=(n1*M2 - n2*M1)*(b1*b2):=by grind
 have le':0<=t1*b2 - t2*b1:=by
  have r:0<=(n1*M2 - n2*M1)*(b1*b2):=Int.mul_nonneg (by omega) (by omega)
  rw [<- key] at r
  exact Int.nonneg_of_mul_nonneg_left r MM
 refine ⟨by omega,low_amt le' bb,?_⟩
 have c:=low_cross (t1*b2 - t2*b1) (b1*b2)
 generalize (t1*b2 - t2*b1) / G (t1*b2 - t2*b1) (b1*b2)=x at *
 generalize b1*b2 / G (t1*b2 - t2*b1) (b1*b2)=y at *
 refine Int.eq_of_mul_eq_mul_right (show b1*b2 ≠ 0 by omega) ?_
 grind
theorem scLess:FnScope ["one","other"] ["one","other"] (defScope sLess):=⟨rfl,rfl,rfl,by decide +kernel,rfl,by decide +kernel,by decide +kernel⟩
theorem ok_less {f:Addr}{fd:FuncData}(F:Fun K "less" "less" sLess f fd):FnOk P w K mg base CX0 1 f fd ["one","other"] (spLess K):=by
 refine F.ok scLess (fun vs H Q E h => ?_) (fun cdv A outer s H vs Q E hr h => ?_)
 ·obtain ⟨_,_,_,_,_,_,rfl,_⟩:=h
  rfl
 ·obtain ⟨p,q,t1,b1,t2,b2,rfl,T,k⟩:=h
  refine ⟨_,pss_one (ps_ret (pe_cmpR op_lt (pe_op op_mulB (pit 0 0) (pit 1 1)) (pe_op op_mulB (pit 1 0) (pit 0 1)) (nomark _))),?_⟩
  refine ⟨p,_,_,rfl,T.sp,rfl,q,_,_,rfl,T.sq,rfl,_,_,rfl,rfl,⟨b6 T.st1,b6 T.sb2⟩,q,_,_,rfl,T.sq,rfl,p,_,_,rfl,T.sp,rfl,_,_,rfl,rfl,⟨b6 T.st2,b6 T.sb1⟩,_,_,rfl,rfl,k⟩
theorem scMinus:FnScope ["one","other"] ["one","other"] (defScope sMinus):=⟨rfl,rfl,rfl,by decide +kernel,rfl,by decide +kernel,by decide +kernel⟩
theorem ok_minus {f:Addr}{fd:FuncData}(F:Fun K "minus" "minus" sMinus f fd)(cE:Cal P w K mg base CX0 2 "less" ["one","other"] (spLess K))(cL:Cal P w K mg base CX0 2 "lowest_terms" ["top","bottom"] spLow):FnOk P w K mg base CX0 3 f fd ["one","other"] (spMinus K):=by
 refine F.ok scMinus (fun vs H Q E h => ?_) (fun cdv A outer s H vs Q E hr h => ?_)
 ·obtain ⟨_,_,_,_,_,_,rfl,_⟩:=h
  rfl
 ·obtain ⟨p,q,t1,b1,t2,b2,rfl,T,le,k⟩:=h
  refine ⟨_,pss_cons (ps_if (pt_val (pe_cal cE hr rfl pass0 (pa_cons (pv 0) (pa_cons (pv 1) pa_nil)))) (pss_one ps_never) pss_nil)
   (pss_one (ps_ret (pe_cal cL hr rfl pass0 (pa_cons (pe_op op_sub (pe_op op_mulB (pit 0 0) (pit 1 1)) (pe_op op_mulB (pit 1 0) (pit 0 1))) (pa_cons (pe_op op_mulB (pit 0 1) (pit 1 1)) pa_nil))))),?_⟩
  refine ⟨_,rfl,_,rfl,p,q,t1,b1,t2,b2,rfl,T,_,rfl,?_⟩
  rw [decide_eq_false (by omega)]
  refine iteF ⟨p,_,_,rfl,T.sp,rfl,q,_,_,rfl,T.sq,rfl,_,_,rfl,rfl,⟨b6 T.st1,b6 T.sb2⟩,q,_,_,rfl,T.sq,rfl,p,_,_,rfl,T.sp,rfl,_,_,rfl,rfl,⟨b6 T.st2,b6 T.sb1⟩,_,_,rfl,rfl,?_⟩
  exact ⟨p,_,_,rfl,T.sp,rfl,q,_,_,rfl,T.sq,rfl,_,_,rfl,rfl,⟨b6 T.sb1,b6 T.sb2⟩,_,_,rfl,by omega,mul1 T.a1.b1 T.a2.b1,(T.sb1.mul T.sb2).mono (by decide),k⟩
theorem DK.nil:DK [] []:=⟨rfl,.nil⟩
theorem DK.len {kvs:List (Key × V)}{ks:List Str}(h:DK kvs ks):kvs.length=ks.length:=by
 have:=congrArg List.length h.keys
 rwa [List.length_map,List.length_map] at this
theorem DK.get {kvs:List (Key × V)}{ks:List Str}(h:DK kvs ks)(y:Str):(valV kvs (Sum.inr y)).isSome=true ↔ y ∈ ks:=by
 rw [<- valV_any,List.any_eq_true]
 constructor
 ·rintro ⟨kv,hm,e⟩
  have e':kv.1=Sum.inr y:=of_decide_eq_true e
  have:kv.1 ∈ ks.map Sum.inr:=by rw [<- h.keys]; exact List.mem_map.mpr ⟨kv,hm,rfl⟩
  obtain ⟨z,hz,ez⟩:=List.mem_map.mp this
  rw [e'] at ez
  cases ez
  exact hz
 ·intro hy
  have:Sum.inr y ∈ kvs.map (·.1):=by rw [h.keys]; exact List.mem_map.mpr ⟨y,hy,rfl⟩
  obtain ⟨kv,hm,e⟩:=List.mem_map.mp this
  exact ⟨kv,hm,decide_eq_true e⟩
theorem DK.put {kvs:List (Key × V)}{ks:List Str}(h:DK kvs ks)(y:Str)(v:V) : ∃ ks',DK (putK kvs (Sum.inr y) v) ks'/\(∀ z,z ∈ ks' ↔ z ∈ ks\/z=y)/\ks'.length<=ks.length+1:=by
 unfold putK
 split
 ·rename_i hany
  have hy:y ∈ ks:=(h.get y).mp (by rw [<- valV_any]; exact hany)
  refine ⟨ks,⟨?_,h.nd⟩,fun z=>⟨.inl,fun q=>q.elim id fun e=>e ▸ hy⟩,Nat.le_succ _⟩
  rw [<- h.keys,List.map_map]
  refine List.map_congr_left fun kv _ => ?_
  show (if kv.1=Sum.inr y then (kv.1,v) else kv).1=kv.1
  split <;> rfl
 ·rename_i hany
  have hy:y ∉ ks:=fun q=>hany (by rw [valV_any]; exact (h.get y).mpr q)
  refine ⟨ks ++ [y],⟨by rw [List.map_append,List.map_append,h.keys]; rfl,?_⟩,fun z=>by simp,by simp⟩
  exact List.nodup_append.mpr ⟨h.nd,by simp,fun a ha b hb e=>hy (by rw [List.mem_singleton.mp hb] at e; exact e ▸ ha)⟩
end
end K76
namespace K76
open PySem PySem.Spec PyProof.Rows L2 GM TM
structure HA (H:Hp)(kvs:List (Key × V))(ks:List Str)(M:Int)(f:Str->Int):Prop where
 dk:DK kvs ks
 am : ∀ y ∈ ks,∃ (p:Addr) (t b:Int),valV kvs (Sum.inr y)=some (.ref p)/\H p=some (.tup [.int t,.int b])/\Fr M t b (f y)
 out : ∀ y,y ∉ ks->f y=0
theorem HA.keep {H H':Hp}{kvs:List (Key × V)}{ks:List Str}{M:Int}{f:Str->Int}(h:HA H kvs ks M f)(k:Tk H H'):HA H' kvs ks M f:=⟨h.dk,fun y hy=>by
 obtain ⟨p,t,b,e1,e2,e3⟩:=h.am y hy
 exact ⟨p,t,b,e1,k _ _ e2,e3⟩,h.out⟩
theorem HA.congr {H:Hp}{kvs:List (Key × V)}{ks:List Str}{M:Int}{f g:Str->Int}(h:HA H kvs ks M f)(e : ∀ y,f y=g y):HA H kvs ks M g:=by
 have:f=g:=funext e
 exact this ▸ h
theorem Fr.scale {M t b n c:Int}(h:Fr M t b n):Fr (M*c) t b (n*c):=⟨h.am,by have:=h.e; grind⟩
theorem HA.scale {H:Hp}{kvs:List (Key × V)}{ks:List Str}{M:Int}{f:Str->Int}(c:Int)(h:HA H kvs ks M f):HA H kvs ks (M*c) (fun y=>f y*c):=⟨h.dk,fun y hy=>by
 obtain ⟨p,t,b,e1,e2,e3⟩:=h.am y hy
 exact ⟨p,t,b,e1,e2,Fr.scale e3⟩,fun y hy=>by show f y*c=0; rw [h.out y hy,Int.zero_mul]⟩
theorem HA.nonneg {H:Hp}{kvs:List (Key × V)}{ks:List Str}{M:Int}{f:Str->Int}(h:HA H kvs ks M f)(M0:0 < M)(y:Str):0<=f y:=by
 by_cases hy:y ∈ ks
 ·obtain ⟨_,_,_,_,_,fr⟩:=h.am y hy
  exact fr.nonneg M0
 ·rw [h.out y hy]
  exact Int.le_refl _
theorem DK.at {kvs:List (Key × V)}{ks:List Str}(h:DK kvs ks){i:Nat}{kv:Key × V}(hk:kvs[i]?=some kv) : ∃ y,ks[i]?=some y/\kv.1=Sum.inr y:=by
 have:=congrArg (fun l=>l[i]?) h.keys
 simp only [List.getElem?_map,hk,Option.map_some] at this
 cases hy:ks[i]? with
 | none=>rw [hy] at this; cases this
 | some y =>
  rw [hy] at this
  exact ⟨y,rfl,Option.some.inj this⟩
theorem take_snoc {ks:List Str}{i:Nat}{y:Str}(h:ks[i]?=some y):ks.take (i+1)=ks.take i ++ [y]:=by rw [List.take_add_one,h]; rfl
theorem not_before {ks:List Str}(nd:ks.Nodup){i:Nat}{y:Str}(h:ks[i]?=some y):y ∉ ks.take i:=fun hm=>by
 have hi:=(List.getElem?_eq_some_iff.mp h).1
 have e:ks.take i ++ ks.drop i=ks:=List.take_append_drop i ks
 rw [<- e] at nd
 have hd:y ∈ ks.drop i:=by
  have:(ks.drop i)[0]?=some y:=by rw [List.getElem?_drop]; simpa using h
  exact List.mem_of_getElem? this
 exact (List.nodup_append.mp nd).2.2 y hm y hd rfl
theorem sum_snoc {f:Str->Int}{ks:List Str}{i:Nat}{y:Str}(h:ks[i]?=some y):((ks.take (i+1)).map f).sum=((ks.take i).map f).sum+f y:=by
 rw [take_snoc h,List.map_append,List.sum_append]
 simp
theorem sum_take {f:Str->Int}(nn : ∀ y,0<=f y) : ∀ (ks:List Str) (i:Nat),0<=((ks.take i).map f).sum/\((ks.take i).map f).sum<=(ks.map f).sum
 | [],i=>by simp
 | y :: ks,0=>by
  have:=(sum_take nn ks ks.length).1
  rw [List.take_length] at this
  have:=nn y
  rw [List.take_zero,List.map_cons,List.sum_cons]
  simp
  omega
 | y :: ks,i+1=>by
  have:=sum_take nn ks i
  have:=nn y
  rw [List.take_succ_cons,List.map_cons,List.map_cons,List.sum_cons,List.sum_cons]
  omega
theorem sum_mem {f:Str->Int}(nn : ∀ y,0<=f y){y:Str} : ∀ {ks:List Str},y ∈ ks->f y<=(ks.map f).sum
 | z :: ks,h=>by
  have h0:=(sum_take nn ks ks.length).1
  rw [List.take_length] at h0
  have hz:=nn z
  rw [List.map_cons,List.sum_cons]
  rcases List.mem_cons.mp h with rfl | h
  ·omega
  ·have:=sum_mem nn h
   omega
theorem Tk.dk {H:Hp}{a:Addr}{kvs:List (Key × V)}{o:HO}(h:H a=some (.dK kvs)):Tk H (upd H a o):=fun b xs e=>by
 rw [upd_ne (fun z=>by rw [z,h] at e; cases e)]
 exact e
theorem HA.put {H:Hp}{kvs:List (Key × V)}{ks:List Str}{M t b:Int}{f g:Str->Int}{y:Str}{r:Addr}(h:HA H kvs ks M f)(hr:H r=some (.tup [.int t,.int b]))(fr:Fr M t b (g y))(eg : ∀ z,z ≠ y->g z=f z) :
  ∃ ks',HA H (putK kvs (Sum.inr y) (.ref r)) ks' M g/\(∀ z,z ∈ ks' ↔ z ∈ ks\/z=y)/\ks'.length<=ks.length+1:=by
 obtain ⟨ks',d,m,l⟩:=h.dk.put y (.ref r)
 refine ⟨ks',⟨d,fun z hz => ?_,fun z hz => ?_⟩,m,l⟩
 ·rw [valV_put]
  by_cases e:z=y
  ·subst e
   rw [if_pos rfl]
   exact ⟨r,t,b,rfl,hr,fr⟩
  ·rw [if_neg (fun q=>e (Sum.inr.inj q)),eg z e]
   exact h.am z (((m z).mp hz).elim id fun q=>absurd q e)
 ·have hn:z ∉ ks/\z ≠ y:=⟨fun q=>hz ((m z).mpr (.inl q)),fun q=>hz ((m z).mpr (.inr q))⟩
  rw [eg z hn.2,h.out z hn.1]
structure HI (kvs:List (Key × V))(ks:List Str)(f:Str->Int):Prop where
 dk:DK kvs ks
 v : ∀ y ∈ ks,valV kvs (Sum.inr y)=some (.int (f y))
 out : ∀ y,y ∉ ks->f y=0
theorem HI.congr {kvs:List (Key × V)}{ks:List Str}{f g:Str->Int}(h:HI kvs ks f)(e : ∀ y,f y=g y):HI kvs ks g:=by
 have:f=g:=funext e
 exact this ▸ h
theorem HI.put {kvs:List (Key × V)}{ks:List Str}{f g:Str->Int}{y:Str}(h:HI kvs ks f)(eg : ∀ z,z ≠ y->g z=f z) :
  ∃ ks',HI (putK kvs (Sum.inr y) (.int (g y))) ks' g/\(∀ z,z ∈ ks' ↔ z ∈ ks\/z=y)/\ks'.length<=ks.length+1:=by
 obtain ⟨ks',d,m,l⟩:=h.dk.put y (.int (g y))
 refine ⟨ks',⟨d,fun z hz => ?_,fun z hz => ?_⟩,m,l⟩
 ·rw [valV_put]
  by_cases e:z=y
  ·subst e
   rw [if_pos rfl]
  ·rw [if_neg (fun q=>e (Sum.inr.inj q)),eg z e]
   exact h.v z (((m z).mp hz).elim id fun q=>absurd q e)
 ·have hn:z ∉ ks/\z ≠ y:=⟨fun q=>hz ((m z).mpr (.inl q)),fun q=>hz ((m z).mpr (.inr q))⟩
  rw [eg z hn.2,h.out z hn.1]
theorem HI.getD {kvs:List (Key × V)}{ks:List Str}{f:Str->Int}(h:HI kvs ks f)(y:Str):(valV kvs (Sum.inr y)).getD (.int 0) = .int (f y):=by
 by_cases hy:y ∈ ks
 ·rw [h.v y hy]
  rfl
 ·have hv:valV kvs (Sum.inr y)=none:=by
   cases hz:valV kvs (Sum.inr y) with
   | none=>rfl
   | some _=>exact absurd ((h.dk.get y).mp (by rw [hz]; rfl)) hy
  rw [hv,h.out y hy]
  rfl
theorem val_mem {kv:Key × V} : ∀ {kvs:List (Key × V)},(kvs.map (·.1)).Nodup->kv ∈ kvs->valV kvs kv.1=some kv.2
 | p :: ps,nd,h=>by
  rw [List.map_cons] at nd
  have nd':=List.nodup_cons.mp nd
  rcases List.mem_cons.mp h with rfl | h
  ·rw [valV_pos rfl]
  ·have:p.1 ≠ kv.1:=fun e=>nd'.1 (by rw [e]; exact List.mem_map.mpr ⟨kv,h,rfl⟩)
   rw [valV_neg this]
   exact val_mem nd'.2 h
theorem DK.nodup {kvs:List (Key × V)}{ks:List Str}(h:DK kvs ks):(kvs.map (·.1)).Nodup:=by
 rw [h.keys]
 exact List.pairwise_map.mpr (h.nd.imp fun n e=>n (Sum.inr.inj e))
theorem HI.vals {kvs:List (Key × V)}{ks:List Str}{f:Str->Int}(h:HI kvs ks f):kvs.map (·.2)=(ks.map f).map V.int:=by
 refine List.ext_getElem? fun i => ?_
 rw [List.getElem?_map,List.getElem?_map,List.getElem?_map]
 cases hk:kvs[i]? with
 | none =>
  have:kvs.length<=i:=List.getElem?_eq_none_iff.mp hk
  rw [List.getElem?_eq_none (by rw [<- h.dk.len]; exact this)]
  rfl
 | some kv =>
  obtain ⟨y,hy,ey⟩:=h.dk.at hk
  have ev:=val_mem h.dk.nodup (List.mem_of_getElem? hk)
  rw [ey,h.v y (List.mem_of_getElem? hy)] at ev
  rw [hy]
  exact ev.symm
theorem fr_share {M t b S m:Int}(hM:0 < M)(h:Fr M t b S)(t1:1<=t)(m0:0<=m):Fr S (m*b / G (m*b) (1*t)) (1*t / G (m*b) (1*t)) (m*M):=by
 have b1:=h.am.b1
 have mb:=Int.mul_nonneg m0 (show 0<=b by omega)
 refine ⟨low_amt mb (by omega),?_⟩
 have c:=low_cross (m*b) (1*t)
 have e:=h.e
 generalize m*b / G (m*b) (1*t)=x at *
 generalize 1*t / G (m*b) (1*t)=y at *
 refine Int.eq_of_mul_eq_mul_right (show b ≠ 0 by omega) ?_
 grind
theorem fr_part {M S t b n ts bs m:Int}(hM:0 < M)(h:Fr M t b n)(k:Fr S ts bs (m*M)):Fr S (t*ts / G (t*ts) (b*bs)) (b*bs / G (t*ts) (b*bs)) (n*m):=by
 have b1:=h.am.b1
 have b2:=k.am.b1
 have tt:=Int.mul_nonneg h.am.t0 k.am.t0
 have bb:1<=b*bs:=by
  have:=Int.mul_le_mul b1 b2 (by decide) (by omega)
  omega
 refine ⟨low_amt tt bb,?_⟩
 have c:=low_cross (t*ts) (b*bs)
 have e1:=h.e
 have e2:=k.e
 generalize t*ts / G (t*ts) (b*bs)=x at *
 generalize b*bs / G (t*ts) (b*bs)=y at *
 refine Int.eq_of_mul_eq_mul_right (show b*bs ≠ 0 by omega) ?_
 grind
end K76
namespace K76
open PySem PySem.Spec PyProof.Rows L2 GM TM
theorem Tk.frz {H:Hp}{a:Addr}{kvs:List (Key × V)}{ob:Obj}{o:HO}(h:H a=some (.frz ob (.dK kvs))):Tk H (upd H a o):=fun b xs e=>by
 rw [upd_ne (fun z=>by rw [z,h] at e; cases e)]
 exact e
theorem sq_frz {K:PySem.W.Frag}{H:Hp}{a b:Addr}{xs:List V}{kvs kvs':List (Key × V)}{ob:Obj}(h:H a=some (.frz ob (.dK kvs)))(e:SqT K H b xs):SqT K (upd H a (.dK kvs')) b xs:=by
 rcases e with (e | ⟨o,e⟩) | e
 ·exact .inl (.inl (by rw [upd_ne (fun z=>by rw [z,h] at e; cases e)]; exact e))
 ·exact .inl (.inr ⟨o,by rw [upd_ne (fun z=>by rw [z,h] at e; cases e)]; exact e⟩)
 ·exact .inr e
theorem no_frz {H:Hp}{a:Addr}{kvs:List (Key × V)}(h:H a=some (.dK kvs)) : ∀ o u,H a ≠ some (.frz o u):=fun o u z=>by rw [h] at z; cases z
def spTotal (K:PySem.W.Frag):Sp:=fun vs H Q _=>∃ (d:Addr) (kvs:List (Key × V)) (ks:List Str) (M:Int) (f:Str->Int),vs=[.ref d]/\H d=some (.dK kvs)/\HA H kvs ks M f/\0 < M/\Bt 2000 M/\Bt 2000 (ks.map f).sum /\
 ∀ (p:Addr) (t b:Int) H',Same H H'->SqT K H' p [.int t,.int b]->Fr M t b (ks.map f).sum->Q (.ref p) H'
structure PuIn (H:Hp)(d1 d2:Addr)(kvs1 kvs2:List (Key × V))(ks1 ks2:List Str)(M:Int)(f g:Str->Int):Prop where
 r1:H d1=some (.dK kvs1)
 r2:H d2=some (.dK kvs2)
 a1:HA H kvs1 ks1 M f
 a2:HA H kvs2 ks2 M g
 M0:0 < M
 l1:ks1.length<=100
 l2:ks2.length<=100
 bM:Bt 2000 M
 b1 : ∀ y,Bt 2000 (f y)
 b2 : ∀ y,Bt 2000 (g y)
def spPut:Sp:=fun vs H Q _=>∃ (d1 d2:Addr) (kvs1 kvs2:List (Key × V)) (ks1 ks2:List Str) (M:Int) (f g:Str->Int),vs=[.ref d1,.ref d2]/\PuIn H d1 d2 kvs1 kvs2 ks1 ks2 M f g /\
 ∀ d kvs ks H',Same H H'->H d=none->H' d=some (.dK kvs)->HA H' kvs ks M (fun y=>f y+g y)->(∀ y,y ∈ ks ↔ y ∈ ks1\/y ∈ ks2)->ks.length<=200->Q (.ref d) H'
structure ShIn (H:Hp)(d:Addr)(kvs:List (Key × V))(ks:List Str)(M m:Int)(f:Str->Int):Prop where
 r:H d=some (.dK kvs)
 a:HA H kvs ks M f
 p : ∀ y ∈ ks,1<=f y
 M0:0 < M
 m1:1<=m
 le:m*M<=(ks.map f).sum
 l:ks.length<=100
 bM:Bt 1500 M
 bm:Bt 300 m
 bS:Bt 1500 (ks.map f).sum
structure Shd (H:Hp)(r:Addr)(ks:List Str)(M m:Int)(f:Str->Int)(dg ds:Addr)(kg kt:List (Key × V))(gs ts:List Str):Prop where
 hr:H r=some (.tup [.ref dg,.ref ds])
 hg:H dg=some (.dK kg)
 ht:H ds=some (.dK kt)
 ag:HA H kg gs (ks.map f).sum (fun y=>f y*m)
 at':HA H kt ts (M*(ks.map f).sum) (fun y=>f y*((ks.map f).sum - m*M))
 mg : ∀ y,y ∈ gs ↔ y ∈ ks
 mt : ∀ y,y ∈ ts ↔ y ∈ ks/\m*M < (ks.map f).sum
 lg:gs.length<=100
 lt:ts.length<=100
def spShared (K:PySem.W.Frag):Sp:=fun vs H Q _=>∃ (d:Addr) (kvs:List (Key × V)) (ks:List Str) (M m:Int) (f:Str->Int),vs=[.ref d,.int m]/\ShIn H d kvs ks M m f /\
 ∀ r dg ds kg kt gs ts H',Same H H'->H dg=none->H ds=none->Shd H' r ks M m f dg ds kg kt gs ts->Q (.ref r) H'
section
variable {P:Program}{w:World}{K:PySem.W.Frag}{mg:Str->Option Value}{base:Heap}
theorem scTotal:FnScope ["holding","found","lot"] ["holding"] (defScope sTotal):=⟨rfl,rfl,rfl,by decide +kernel,rfl,by decide +kernel,by decide +kernel⟩
theorem ok_total {f aN:Addr}{fd:FuncData}(F:Fun K "total_of" "total_of" sTotal f fd)(mN:mg "NOUGHT" = some (.ref aN))(sN : ∀ H:Hp,SqT K H aN [.int 0,.int 1])(cP:Cal P w K mg base CX0 3 "plus" ["one","other"] (spPlus K)):FnOk P w K mg base CX0 4 f fd ["holding"] (spTotal K):=by
 refine F.ok scTotal (fun vs H Q E h => ?_) (fun cdv A outer s H vs Q E hr h => ?_)
 ·obtain ⟨_,_,_,_,_,rfl,_⟩:=h
  rfl
 ·obtain ⟨d,kvs,ks,M,fn,rfl,hd,ha,M0,bM,bS,k⟩:=h
  refine ⟨_,(pss_cons (ps_set (i:=1) scTotal.nd rfl (Or.inl rfl) (pe_glob (v:=.ref aN) rfl mN rfl))
   (pss_cons (ps_thaw (ps_for PassesOwn.never rfl (pi_dict (pv 0)) (pg_name (i:=2) scTotal.nd rfl (Or.inl rfl))
    (pss_one (ps_set (i:=1) scTotal.nd rfl (Or.inl rfl) (pe_cal cP hr rfl pass0 (pa_cons (pv 1) (pa_cons (pe_dget (hu_of hr) (pv 0) (pv 2) (fun _ _=>rfl)) pa_nil)))))))
   (pss_one (ps_ret (pv 1))))),?_⟩
  refine ⟨_,rfl,d,kvs,rfl,hd,fun ob => ?_⟩
  have hld:(upd H d (.frz ob (.dK kvs))) d=some (.frz ob (.dK kvs)):=upd_same
  have A1:=ha.keep (Tk.dk (o:=.frz ob (.dK kvs)) hd)
  have th : ∀ {H':Hp},Same (upd H d (.frz ob (.dK kvs))) H'->Same H (upd H' d (.dK kvs)):=fun s=>thaw_same hd s
  generalize upd H d (.frz ob (.dK kvs))=H1 at hld A1 th ⊢
  have nn:=ha.nonneg M0
  refine for_dict (fun i σ H'=>∃ (g:Addr) (t b:Int) (v2:Option V),σ=[some (.ref d),some (.ref g),v2]/\SqT K H' g [.int t,.int b]/\Fr M t b ((ks.take i).map fn).sum/\Same H1 H')
   ⟨aN,0,1,none,rfl,sN _,Fr.zero,Same.refl _⟩ ?_ ?_ ?_
  ·rintro i σ H' _ ⟨_,_,_,_,rfl,_,_,s2⟩
   exact s2 _ _ hld
  ·rintro i ⟨kk,kv⟩ σ H' hkv ⟨g,t,b,v2,rfl,hg,fr,s2⟩
   obtain ⟨y,hy,ey⟩:=ha.dk.at hkv
   cases ey
   obtain ⟨p,t2,b2,e1,e2,f2⟩:=A1.am y (List.mem_of_getElem? hy)
   have gg:DGet H' d (.str y) (some (.ref p)):=by
    have:=DGet.r (k:=Sum.inr y) (.inr ⟨ob,s2 _ _ hld⟩)
    rw [e1] at this
    exact this
   have sm:=frSmall M0 fr
   have sm2:=frSmall M0 f2
   have tk:=sum_take nn ks i
   have fm:=sum_mem nn (List.mem_of_getElem? hy)
   have fb:=fr.am
   have f2b:=f2.am
   refine ⟨_,rfl,_,rfl,_,rfl,d,_,rfl,gg,g,p,t,b,t2,b2,rfl,⟨hg,s2 _ _ e2,fb.t0,fb.b1,f2b,((bS.le tk.1 tk.2).le fb.t0 sm.1).mono (by decide),(bM.le (by have:=fb.b1; omega) sm.2).mono (by decide),((bS.le (nn y) fm).le f2b.t0 sm2.1).mono (by decide),(bM.le (by have:=f2b.b1; omega) sm2.2).mono (by decide)⟩,fun r H3 s3 h3 => ?_⟩
   refine ⟨r,_,_,_,rfl,SqT.of h3,?_,s2.trans s3⟩
   rw [sum_snoc hy]
   exact fr.plus f2
  ·rintro σ H' ⟨g,t,b,v2,rfl,hg,fr,s2⟩
   rw [ha.dk.len,List.take_length] at fr
   exact ⟨d,ob,kvs,s2 _ _ hld,no_frz hd,_,rfl,k g t b _ (th s2) (sq_frz (s2 _ _ hld) hg) fr⟩
theorem scPut:FnScope ["one","other","found","lot"] ["one","other"] (defScope sPut):=⟨rfl,rfl,rfl,by decide +kernel,rfl,by decide +kernel,by decide +kernel⟩
theorem ok_put {f aN:Addr}{fd:FuncData}(F:Fun K "put_together" "put_together" sPut f fd)(T:Txt mg)(mN:mg "NOUGHT" = some (.ref aN))(sN : ∀ H:Hp,SqT K H aN [.int 0,.int 1])(cP:Cal P w K mg base CX0 3 "plus" ["one","other"] (spPlus K)):FnOk P w K mg base CX0 4 f fd ["one","other"] spPut:=by
 refine F.ok scPut (fun vs H Q E h => ?_) (fun cdv A outer s H vs Q E hr h => ?_)
 ·obtain ⟨_,_,_,_,_,_,_,_,_,rfl,_⟩:=h
  rfl
 ·obtain ⟨d1,d2,kvs1,kvs2,ks1,ks2,M,fn,gn,rfl,B,k⟩:=h
  refine ⟨_,(pss_cons (ps_set (i:=2) scPut.nd rfl (Or.inl rfl) (pe_callTy call_dictD rfl T.dict' bt_dict (pa_cons (pv 0) pa_nil)))
   (pss_cons (ps_thaw (ps_for PassesOwn.never rfl (pi_dict (pv 1)) (pg_name (i:=3) scPut.nd rfl (Or.inl rfl))
    (pss_one (ps_dput (hu_of hr) (pv 2) (pv 3) (pe_cal cP hr rfl pass0 (pa_cons (pe_dget2 (hu_of hr) (pv 2) (pv 3) (pe_glob (v:=.ref aN) rfl mN rfl) ⟨rfl,rfl,rfl,rfl⟩) (pa_cons (pe_dget (hu_of hr) (pv 1) (pv 3) (fun _ _=>rfl)) pa_nil))) rfl))))
   (pss_one (ps_ret (pv 2))))),?_⟩
  obtain ⟨r1,r2,a1,a2,M0,l1,l2,bM,b1,b2⟩:=B
  refine ⟨_,rfl,d1,kvs1,rfl,.inl r1,fun d3 h3 => ?_⟩
  have s1:Same H (upd H d3 (.dK kvs1)):=Same.upd h3
  have hd3:(upd H d3 (.dK kvs1)) d3=some (.dK kvs1):=upd_same
  have r2':=s1 _ _ r2
  refine ⟨_,rfl,d2,kvs2,rfl,r2',fun ob => ?_⟩
  have hld:Hld d2 ob kvs2 (upd H d3 (.dK kvs1)) (upd (upd H d3 (.dK kvs1)) d2 (.frz ob (.dK kvs2))):=⟨upd_same,fun b hb=>upd_ne hb,.inl r2'⟩
  have th : ∀ b,b ≠ d3->b ≠ d2->(upd (upd H d3 (.dK kvs1)) d2 (.frz ob (.dK kvs2))) b=H b:=fun b n1 n2=>by rw [upd_ne n2,upd_ne n1]
  generalize upd (upd H d3 (.dK kvs1)) d2 (.frz ob (.dK kvs2))=H1 at hld th ⊢
  have n32:d3 ≠ d2:=fun z=>by
   subst z
   rw [h3] at r2
   cases r2
  have hd3':H1 d3=some (.dK kvs1):=by rw [hld.2.1 d3 n32]; exact hd3
  have f1:Fz H H1:=(Fz.of s1).trans hld.fz
  have A1:=a1.keep f1.tk
  have A2:=a2.keep f1.tk
  have nn1:=a1.nonneg M0
  have nn2:=a2.nonneg M0
  refine for_dict (fun i σ H'=>∃ (kvs3:List (Key × V)) (ks3:List Str) (v3:Option V),σ=[some (.ref d1),some (.ref d2),some (.ref d3),v3]/\H' d3=some (.dK kvs3)/\HA H' kvs3 ks3 M (fun y=>fn y+if y ∈ ks2.take i then gn y else 0)/\(∀ y,y ∈ ks3 ↔ y ∈ ks1\/y ∈ ks2.take i)/\ks3.length<=ks1.length+i/\∀ b o,b ≠ d3->H1 b=some o->H' b=some o)
   ⟨kvs1,ks1,none,rfl,hd3',A1.congr fun y=>by simp,fun y=>by simp,Nat.le_refl _,fun _ _ _ e=>e⟩ ?_ ?_ ?_
  ·rintro i σ H' _ ⟨_,_,_,rfl,_,_,_,_,s2⟩
   exact s2 _ _ (Ne.symm n32) hld.1
  ·rintro i ⟨kk,kv⟩ σ H' hkv ⟨kvs3,ks3,v3,rfl,h3',A3,mem,len,s2⟩
   obtain ⟨y,hy,ey⟩:=a2.dk.at hkv
   cases ey
   have hi:=(List.getElem?_eq_some_iff.mp hy).1
   have yn:=not_before a2.dk.nd hy
   obtain ⟨p2,t2,b2',e1,e2,fr2⟩:=A2.am y (List.mem_of_getElem? hy)
   have tk:Tk H1 H':=fun b o e=>s2 _ _ (fun z=>by rw [z,hd3'] at e; cases e) e
   have gg:DGet H' d2 (.str y) (some (.ref p2)):=by
    have:=DGet.r (k:=Sum.inr y) (.inr ⟨ob,s2 _ _ (Ne.symm n32) hld.1⟩)
    rw [e1] at this
    exact this
   have fe:(fn y+if y ∈ ks2.take i then gn y else 0)=fn y:=by rw [if_neg yn]; omega
   obtain ⟨p,t,b,ep,sp,fr⟩ : ∃ (p:Addr) (t b:Int),(valV kvs3 (Sum.inr y)).getD (.ref aN) = .ref p/\SqT K H' p [.int t,.int b]/\Fr M t b (fn y):=by
    by_cases hm:y ∈ ks3
    ·obtain ⟨p,t,b,q1,q2,q3⟩:=A3.am y hm
     exact ⟨p,t,b,by rw [q1]; rfl,SqT.of q2,by rw [<- fe]; exact q3⟩
    ·have hv:valV kvs3 (Sum.inr y)=none:=by
      cases hz:valV kvs3 (Sum.inr y) with
      | none=>rfl
      | some _=>exact absurd ((A3.dk.get y).mp (by rw [hz]; rfl)) hm
     have z0:=A3.out y hm
     refine ⟨aN,0,1,by rw [hv]; rfl,sN _,?_⟩
     rw [<- fe,z0]
     exact Fr.zero
   have sm:=frSmall M0 fr
   have sm2:=frSmall M0 fr2
   have fb:=fr.am
   have f2b:=fr2.am
   refine ⟨_,rfl,d3,rfl,.inl ⟨kvs3,.inl h3'⟩,_,rfl,_,DGet.k (k:=Sum.inr y) h3',?_⟩
   rw [ep]
   refine ⟨_,rfl,_,rfl,d2,_,rfl,gg,p,p2,t,b,t2,b2',rfl,⟨sp,tk _ _ e2,fb.t0,fb.b1,f2b,((b1 y).le fb.t0 sm.1).mono (by decide),(bM.le (by have:=fb.b1; omega) sm.2).mono (by decide),((b2 y).le f2b.t0 sm2.1).mono (by decide),(bM.le (by have:=f2b.b1; omega) sm2.2).mono (by decide)⟩,fun r H3 s3 hr3 => ?_⟩
   have h33:=s3 _ _ h3'
   refine ⟨_,rfl,_,rfl,d3,_,rfl,DPut.k (k:=Sum.inr y) h33 (small1000 (by rw [A3.dk.len]; omega)),?_⟩
   have tk3:Tk H3 (upd H3 d3 (.dK (putK kvs3 (Sum.inr y) (.ref r)))):=Tk.dk h33
   obtain ⟨ks4,A4,m4,l4⟩:=(A3.keep (Same.tk s3)).put (g:=fun z=>fn z+if z ∈ ks2.take (i+1) then gn z else 0) (y:=y) (r:=r) hr3 (by
    have:y ∈ ks2.take (i+1):=by rw [take_snoc hy]; simp
    show Fr M _ _ (fn y+if y ∈ ks2.take (i+1) then gn y else 0)
    rw [if_pos this]
    exact fr.plus fr2) (fun z hz=>by
    show (fn z+if z ∈ ks2.take (i+1) then gn z else 0)=fn z+if z ∈ ks2.take i then gn z else 0
    have:z ∈ ks2.take (i+1) ↔ z ∈ ks2.take i:=by rw [take_snoc hy]; simp [hz]
    simp only [this])
   refine ⟨_,ks4,_,rfl,upd_same,A4.keep tk3,fun z => ?_,by omega,fun b' o nb e => ?_⟩
   ·rw [m4,mem,take_snoc hy]
    simp [or_assoc]
   ·rw [upd_ne nb]
    exact s3 _ _ (s2 _ _ nb e)
  ·rintro σ H' ⟨kvs3,ks3,v3,rfl,h3',A3,mem,len,s2⟩
   rw [a2.dk.len,List.take_length] at A3 mem
   rw [a2.dk.len] at len
   have hd2:=s2 _ _ (Ne.symm n32) hld.1
   have tk2:Tk H' (upd H' d2 (.dK kvs2)):=Tk.frz hd2
   refine ⟨d2,ob,kvs2,hd2,no_frz r2,_,rfl,k d3 kvs3 ks3 _ (fun b o e => ?_) h3 (by rw [upd_ne n32]; exact h3') ((A3.keep tk2).congr fun y => ?_) mem (by omega)⟩
   ·by_cases z:b=d2
    ·subst z
     rw [r2] at e
     cases e
     exact upd_same
    ·rw [upd_ne z]
     have nb:b ≠ d3:=fun z=>by rw [z,h3] at e; cases e
     exact s2 _ _ nb (by rw [th b nb z]; exact e)
   ·by_cases hy:y ∈ ks2
    ·rw [if_pos hy]
    ·rw [if_neg hy,a2.out y hy]
theorem scShared:FnScope ["holding","many","share","goes","stays","lot","left"] ["holding","many"] (defScope sShared):=⟨rfl,rfl,rfl,by decide +kernel,rfl,by decide +kernel,by decide +kernel⟩
theorem ok_shared {f aN:Addr}{fd:FuncData}(F:Fun K "shared" "shared" sShared f fd)(mN:mg "NOUGHT" = some (.ref aN))(sN : ∀ H:Hp,SqT K H aN [.int 0,.int 1])(cT:Cal P w K mg base CX0 4 "total_of" ["holding"] (spTotal K))(cO:Cal P w K mg base CX0 4 "over" ["one","other"] (spOver K))
  (cI:Cal P w K mg base CX0 4 "times" ["one","other"] (spTimes K)) (cM:Cal P w K mg base CX0 4 "minus" ["one","other"] (spMinus K)):FnOk P w K mg base CX0 5 f fd ["holding","many"] (spShared K):=by
 refine F.ok scShared (fun vs H Q E h => ?_) (fun cdv A outer s H vs Q E hr h => ?_)
 ·obtain ⟨_,_,_,_,_,_,rfl,_⟩:=h
  rfl
 ·obtain ⟨d,kvs,ks,M,m,fn,rfl,B,k⟩:=h
  refine ⟨_,(pss_cons (ps_set (i:=2) scShared.nd rfl (Or.inl rfl) (pe_cal cO hr rfl pass0 (pa_cons (pe_tup (pa_cons (pv 1) (pa_cons pe_int pa_nil))) (pa_cons (pe_cal cT hr rfl pass0 (pa_cons (pv 0) pa_nil)) pa_nil))))
   (pss_cons (ps_set (i:=3) scShared.nd rfl (Or.inl rfl) pe_dnewK)
   (pss_cons (ps_set (i:=4) scShared.nd rfl (Or.inl rfl) pe_dnewK)
   (pss_cons (ps_thaw (ps_for PassesOwn.never rfl (pi_dict (pv 0)) (pg_name (i:=5) scShared.nd rfl (Or.inl rfl))
    (pss_cons (ps_dput (hu_of hr) (pv 3) (pv 5) (pe_cal cI hr rfl pass0 (pa_cons (pe_dget (hu_of hr) (pv 0) (pv 5) (fun _ _=>rfl)) (pa_cons (pv 2) pa_nil))) rfl)
    (pss_cons (ps_set (i:=6) scShared.nd rfl (Or.inl rfl) (pe_cal cM hr rfl pass0 (pa_cons (pe_dget (hu_of hr) (pv 0) (pv 5) (fun _ _=>rfl)) (pa_cons (pe_dget (hu_of hr) (pv 3) (pv 5) (fun _ _=>rfl)) pa_nil))))
    (pss_one (ps_if (pt_cmpR (op_neI hr.units) (pv 6) (pe_glob (v:=.ref aN) rfl mN rfl) (nomark _))
     (pss_one (ps_dput (hu_of hr) (pv 4) (pv 5) (pv 6) rfl))
     pss_nil))))))
   (pss_one (ps_ret (pe_tup (pa_cons (pv 3) (pa_cons (pv 4) pa_nil))))))))),?_⟩
  obtain ⟨r0,a0,pos,M0,m1,le,l0,bM,bm,bS⟩:=B
  have nn:=a0.nonneg M0
  have mM:0 < m*M:=Int.mul_pos (by omega) M0
  have S0:0 < (ks.map fn).sum:=by omega
  refine ⟨_,rfl,(show 2<=sizeLine by decide +kernel),fun z hz => ?_⟩
  have s1:Same H (upd H z (.tup [.int m,.int 1])):=Same.upd hz
  refine ⟨_,rfl,d,kvs,ks,M,fn,rfl,s1 _ _ r0,a0.keep (Same.tk s1),M0,bM.mono (by decide),bS.mono (by decide),fun p t b H2 fz2 sp fr => ?_⟩
  have sm:=frSmall M0 fr
  have fb:=fr.am
  have t1:1<=t:=by
   have h0:=fb.t0
   have:t ≠ 0:=fun z=>by have:=(fr.nought M0).mpr z; omega
   omega
  have bt:Bt 1500 t:=bS.le fb.t0 sm.1
  have bb:Bt 1500 b:=bM.le (by have:=fb.b1; omega) sm.2
  have hz2:=fz2 _ _ (upd_same (H:=H) (a:=z) (o:=.tup [.int m,.int 1]))
  refine ⟨z,p,m,1,t,b,rfl,⟨SqT.of hz2,sp,amt_one (by omega),fb,bm.mono (by decide),(bt_lt 2 (c:=2) (by decide) (by decide)).mono (by decide),bt.mono (by decide),bb.mono (by decide)⟩,t1,fun q H3 s3 hq => ?_⟩
  have frs:=fr_share M0 fr t1 (show 0<=m by omega)
  generalize m*b / G (m*b) (1*t)=ts at hq frs
  generalize 1*t / G (m*b) (1*t)=bs at hq frs
  have sms:=frSmall S0 frs
  have bts:Bt 1800 ts:=(bm.mul bM).le frs.am.t0 sms.1
  have bbs:Bt 1500 bs:=bS.le (by have:=frs.am.b1; omega) sms.2
  have f3:Same H H3:=(s1.trans fz2).trans s3
  intro dg hdg
  have s4:Same H3 (upd H3 dg (.dK [])):=Same.upd hdg
  intro ds hds
  have s5:Same (upd H3 dg (.dK [])) (upd (upd H3 dg (.dK [])) ds (.dK [])):=Same.upd hds
  have ngs:dg ≠ ds:=fun z=>by rw [<- z,upd_same] at hds; cases hds
  have hg5:(upd (upd H3 dg (.dK [])) ds (.dK [])) dg=some (.dK []):=s5 _ _ upd_same
  have ht5:(upd (upd H3 dg (.dK [])) ds (.dK [])) ds=some (.dK []):=upd_same
  have hq5:=s5 _ _ (s4 _ _ hq)
  have f5:Same H (upd (upd H3 dg (.dK [])) ds (.dK [])):=f3.trans (s4.trans s5)
  have r5:=f5 _ _ r0
  have dg0:H dg=none:=same_none f3 hdg
  have ds0:H ds=none:=same_none (f3.trans s4) hds
  have nH : ∀ {x:Addr} {o:HO},H3 x=some o->x ≠ dg/\x ≠ ds:=fun {x o} e=>⟨(fun z=>by rw [z,hdg] at e; cases e),(fun z=>by
   have:=s4 _ _ e
   rw [z,hds] at this
   cases this)⟩
  have nd:d ≠ dg/\d ≠ ds:=nH (f3 _ _ r0)
  have nq:=nH hq
  have old : ∀ x o,H x=some o->x ≠ dg/\x ≠ ds:=fun x o e=>nH (f3 x o e)
  clear s4 s5 hq hdg hds nH
  generalize upd (upd H3 dg (.dK [])) ds (.dK [])=H5 at hg5 ht5 hq5 f5 r5
  refine ⟨_,rfl,d,kvs,rfl,r5,fun ob => ?_⟩
  have hld:Hld d ob kvs H5 (upd H5 d (.frz ob (.dK kvs))):=⟨upd_same,fun b hb=>upd_ne hb,.inl r5⟩
  generalize upd H5 d (.frz ob (.dK kvs))=H6 at hld ⊢
  have f6 : ∀ b o,b ≠ d->H b=some o->H6 b=some o:=fun b o n e=>by rw [hld.2.1 b n]; exact f5 _ _ e
  have A6:=a0.keep (fun b xs e=>f6 b _ (fun z=>by rw [z,r0] at e; cases e) e)
  have hg6:H6 dg=some (.dK []):=by rw [hld.2.1 dg (Ne.symm nd.1)]; exact hg5
  have ht6:H6 ds=some (.dK []):=by rw [hld.2.1 ds (Ne.symm nd.2)]; exact ht5
  have hq6:=hld.fz.at hq5 fun _ z=>by cases z
  clear hg5 ht5 hq5 f5 r5
  refine for_dict (fun i σ H'=>∃ (kg kt:List (Key × V)) (gs ts':List Str) (v5 v6:Option V),σ=[some (.ref d),some (.int m),some (.ref q),some (.ref dg),some (.ref ds),v5,v6]/\H' dg=some (.dK kg)/\H' ds=some (.dK kt) /\
    HA H' kg gs (ks.map fn).sum (fun y=>if y ∈ ks.take i then fn y*m else 0)/\HA H' kt ts' (M*(ks.map fn).sum) (fun y=>if y ∈ ks.take i then fn y*((ks.map fn).sum - m*M) else 0) /\
    (∀ y,y ∈ gs ↔ y ∈ ks.take i)/\(∀ y,y ∈ ts' ↔ y ∈ ks.take i/\m*M < (ks.map fn).sum)/\gs.length<=i/\ts'.length<=i/\∀ b o,b ≠ dg->b ≠ ds->H6 b=some o->H' b=some o)
   ⟨[],[],[],[],none,none,rfl,hg6,ht6,⟨.nil,(fun _ h=>nomatch h),fun y _=>by simp⟩,⟨.nil,(fun _ h=>nomatch h),fun y _=>by simp⟩,fun y=>by simp,fun y=>by simp,Nat.le_refl _,Nat.le_refl _,fun _ _ _ _ e=>e⟩ ?_ ?_ ?_
  ·rintro i σ H' _ ⟨_,_,_,_,_,_,rfl,_,_,_,_,_,_,_,_,s2⟩
   exact s2 _ _ nd.1 nd.2 hld.1
  ·rintro i ⟨kk,kv⟩ σ H' hkv ⟨kg,kt,gs,ts',v5,v6,rfl,hg,ht,AG,AT,mG,mT,lG,lT,s2⟩
   obtain ⟨y,hy,ey⟩:=a0.dk.at hkv
   cases ey
   have hi:=(List.getElem?_eq_some_iff.mp hy).1
   have yn:=not_before a0.dk.nd hy
   have ym:=List.mem_of_getElem? hy
   have yi:y ∈ ks.take (i+1):=by rw [take_snoc hy]; simp
   have yo : ∀ z,z ≠ y->(z ∈ ks.take (i+1) ↔ z ∈ ks.take i):=fun z hz=>by rw [take_snoc hy]; simp [hz]
   obtain ⟨p1,t1',b1',e1,e2,fr1⟩:=A6.am y ym
   have tk:Tk H6 H':=fun b o e=>s2 _ _ (fun z=>by rw [z,hg6] at e; cases e) (fun z=>by rw [z,ht6] at e; cases e) e
   have hd':=s2 _ _ nd.1 nd.2 hld.1
   have gget : ∀ {X:Hp},X d=some (.frz ob (.dK kvs))->DGet X d (.str y) (some (.ref p1)):=fun {X} e=>by
    have:=DGet.r (k:=Sum.inr y) (.inr ⟨ob,e⟩)
    rw [e1] at this
    exact this
   have sm1:=frSmall M0 fr1
   have fb1:=fr1.am
   have fy:=sum_mem nn ym
   have bf:Bt 1500 (fn y):=bS.le (nn y) fy
   have bt1:Bt 1500 t1':=bf.le fb1.t0 sm1.1
   have bb1:Bt 1500 b1':=bM.le (by have:=fb1.b1; omega) sm1.2
   refine ⟨_,rfl,_,rfl,d,_,rfl,gget hd',_,rfl,p1,q,t1',b1',ts,bs,rfl,⟨SqT.of (tk _ _ e2),SqT.of (tk _ _ hq6),fb1,frs.am,bt1.mono (by decide),bb1.mono (by decide),bts.mono (by decide),bbs.mono (by decide)⟩,fun g1 H7 s7 hg1 => ?_⟩
   have frg:=fr_part M0 fr1 frs
   generalize t1'*ts / G (t1'*ts) (b1'*bs)=tg at hg1 frg
   generalize b1'*bs / G (t1'*ts) (b1'*bs)=bg at hg1 frg
   have hg7:=s7 _ _ hg
   refine ⟨_,rfl,_,rfl,dg,_,rfl,DPut.k (k:=Sum.inr y) hg7 (small1000 (by rw [AG.dk.len]; omega)),?_⟩
   have tk7:Tk H7 (upd H7 dg (.dK (putK kg (Sum.inr y) (.ref g1)))):=Tk.dk hg7
   obtain ⟨gs',AG',mG',lG'⟩:=(AG.keep (Same.tk s7)).put (g:=fun z=>if z ∈ ks.take (i+1) then fn z*m else 0) (y:=y) (r:=g1) hg1 (by
    show Fr _ _ _ (if y ∈ ks.take (i+1) then fn y*m else 0)
    rw [if_pos yi]
    exact frg) (fun z hz=>by
    show (if z ∈ ks.take (i+1) then fn z*m else 0)=if z ∈ ks.take i then fn z*m else 0
    simp only [yo z hz])
   have hg8:(upd H7 dg (.dK (putK kg (Sum.inr y) (.ref g1)))) dg=some (.dK (putK kg (Sum.inr y) (.ref g1))):=upd_same
   have ht8:(upd H7 dg (.dK (putK kg (Sum.inr y) (.ref g1)))) ds=some (.dK kt):=by rw [upd_ne (Ne.symm ngs)]; exact s7 _ _ ht
   have hd8:(upd H7 dg (.dK (putK kg (Sum.inr y) (.ref g1)))) d=some (.frz ob (.dK kvs)):=by rw [upd_ne nd.1]; exact s7 _ _ hd'
   have AG8:=AG'.keep tk7
   have AT8:=(AT.keep (Same.tk s7)).keep tk7
   have hg18:=tk7 _ _ hg1
   have e28:=tk7 _ _ (s7 _ _ (tk _ _ e2))
   have s28 : ∀ b o,b ≠ dg->b ≠ ds->H6 b=some o->(upd H7 dg (.dK (putK kg (Sum.inr y) (.ref g1)))) b=some o:=fun b o n1 n2 e=>by rw [upd_ne n1]; exact s7 _ _ (s2 _ _ n1 n2 e)
   have eg:valV (putK kg (Sum.inr y) (.ref g1)) (Sum.inr y)=some (.ref g1):=by rw [valV_put,if_pos rfl]
   clear tk7 hg7 AG' s2 hd' tk AG AT hg ht
   generalize upd H7 dg (.dK (putK kg (Sum.inr y) (.ref g1)))=H8 at *
   have gg8:DGet H8 dg (.str y) (some (.ref g1)):=by
    have:=DGet.k (k:=Sum.inr y) hg8
    rw [eg] at this
    exact this
   have smg:=frSmall S0 frg
   have btg:Bt 1800 tg:=(bf.mul bm).le frg.am.t0 smg.1
   have bbg:Bt 1500 bg:=bS.le (by have:=frg.am.b1; omega) smg.2
   have le':fn y*m*M<=fn y*(ks.map fn).sum:=by
    rw [Int.mul_assoc]
    exact Int.mul_le_mul_of_nonneg_left le (nn y)
   obtain ⟨lm,frl⟩:=fr_minus M0 S0 fr1 frg le'
   refine ⟨_,rfl,_,rfl,d,_,rfl,gget hd8,_,rfl,_,rfl,dg,_,rfl,gg8,p1,g1,t1',b1',tg,bg,rfl,⟨SqT.of e28,SqT.of hg18,fb1,frg.am,bt1.mono (by decide),bb1.mono (by decide),btg.mono (by decide),bbg.mono (by decide)⟩,lm,fun l1 H9 s9 hl1 => ?_⟩
   generalize (t1'*bg - tg*b1') / G (t1'*bg - tg*b1') (b1'*bg)=tl at hl1 frl
   generalize b1'*bg / G (t1'*bg - tg*b1') (b1'*bg)=bl' at hl1 frl
   have MS0:0 < M*(ks.map fn).sum:=Int.mul_pos M0 S0
   have en:fn y*(ks.map fn).sum - fn y*m*M=fn y*((ks.map fn).sum - m*M):=by grind
   rw [en] at frl
   have z0:=frl.nought MS0
   have py:=pos y ym
   have zz:tl=0 ↔ ¬ m*M < (ks.map fn).sum:=by
    rw [<- z0]
    constructor
    ·intro z
     rcases Int.mul_eq_zero.mp z with z | z <;> omega
    ·intro z
     have:(ks.map fn).sum - m*M=0:=by omega
     rw [this,Int.mul_zero]
   refine ⟨_,rfl,l1,aN,[tl,bl'],[0,1],rfl,rfl,SqT.of hl1,sN _,_,rfl,ite2 (fun hc => ?_) (fun hc => ?_)⟩
   ·have lt:m*M < (ks.map fn).sum:=by
     by_cases q:m*M < (ks.map fn).sum
     ·exact q
     ·exfalso
      have t0:=zz.mpr q
      have am:=frl.am
      rw [t0] at am
      have hb:bl'=1:=by
       have g:=am.g
       unfold G at g
       have b1:=am.b1
       simp at g
       omega
      have e2:decide ([tl,bl']=[0,1])=true:=decide_eq_true (by rw [t0,hb])
      exact absurd ((congrArg (!·) e2).symm.trans hc) (by decide)
    have ht9:=s9 _ _ ht8
    refine ⟨_,rfl,_,rfl,_,rfl,ds,_,rfl,DPut.k (k:=Sum.inr y) ht9 (small1000 (by rw [AT8.dk.len]; omega)),?_⟩
    have tk9:Tk H9 (upd H9 ds (.dK (putK kt (Sum.inr y) (.ref l1)))):=Tk.dk ht9
    obtain ⟨ts2,AT',mT',lT'⟩:=(AT8.keep (Same.tk s9)).put (g:=fun z=>if z ∈ ks.take (i+1) then fn z*((ks.map fn).sum - m*M) else 0) (y:=y) (r:=l1) hl1 (by
     show Fr _ _ _ (if y ∈ ks.take (i+1) then fn y*((ks.map fn).sum - m*M) else 0)
     rw [if_pos yi]
     exact frl) (fun z hz=>by
     show (if z ∈ ks.take (i+1) then fn z*((ks.map fn).sum - m*M) else 0)=if z ∈ ks.take i then fn z*((ks.map fn).sum - m*M) else 0
     simp only [yo z hz])
    refine ⟨_,_,gs',ts2,_,_,rfl,by rw [upd_ne ngs]; exact s9 _ _ hg8,upd_same,(AG8.keep (Same.tk s9)).keep tk9,AT'.keep tk9,fun z => ?_,fun z => ?_,by omega,by omega,fun b o n1 n2 e=>by rw [upd_ne n2]; exact s9 _ _ (s28 _ _ n1 n2 e)⟩
    ·rw [mG',mG,take_snoc hy]
     simp
    ·rw [mT',mT,take_snoc hy]
     simp
     constructor
     ·rintro (q | q)
      ·exact ⟨.inl q.1,q.2⟩
      ·exact ⟨.inr q,lt⟩
     ·rintro ⟨q | q,_⟩
      ·exact .inl ⟨q,lt⟩
      ·exact .inr q
   ·have nlt : ¬ m*M < (ks.map fn).sum:=fun q=>hc (by
     have:tl ≠ 0:=fun z=>zz.mp z q
     have e2:decide ([tl,bl']=[0,1])=false:=decide_eq_false fun z=>this (by injection z)
     show (!decide ([tl,bl']=[0,1]))=true
     rw [e2]
     rfl)
    have c0:(ks.map fn).sum - m*M=0:=by omega
    refine ⟨_,_,gs',ts',_,_,rfl,s9 _ _ hg8,s9 _ _ ht8,AG8.keep (Same.tk s9),(AT8.keep (Same.tk s9)).congr fun z => ?_,fun z => ?_,fun z => ?_,by omega,by omega,fun b o n1 n2 e=>s9 _ _ (s28 _ _ n1 n2 e)⟩
    ·rw [c0,Int.mul_zero]
     simp
    ·rw [mG',mG,take_snoc hy]
     simp
    ·rw [mT]
     constructor
     ·exact fun q=>absurd q.2 nlt
     ·exact fun q=>absurd q.2 nlt
  ·rintro σ H' ⟨kg,kt,gs,ts',v5,v6,rfl,hg,ht,AG,AT,mG,mT,lG,lT,s2⟩
   rw [a0.dk.len] at lG lT AG AT mG mT
   rw [List.take_length] at mG mT AG AT
   have hd7:=s2 _ _ nd.1 nd.2 hld.1
   have tk7:Tk H' (upd H' d (.dK kvs)):=Tk.frz hd7
   have sF:Same H (upd H' d (.dK kvs)):=fun b o e=>by
    by_cases z:b=d
    ·subst z
     rw [r0] at e
     cases e
     exact upd_same
    ·rw [upd_ne z]
     exact s2 _ _ (old b o e).1 (old b o e).2 (f6 b o z e)
   have hg':(upd H' d (.dK kvs)) dg=some (.dK kg):=by rw [upd_ne (Ne.symm nd.1)]; exact hg
   have ht':(upd H' d (.dK kvs)) ds=some (.dK kt):=by rw [upd_ne (Ne.symm nd.2)]; exact ht
   have AG':=AG.keep tk7
   have AT':=AT.keep tk7
   refine ⟨d,ob,kvs,hd7,no_frz r0,?_⟩
   generalize upd H' d (.dK kvs)=H9 at *
   refine ⟨_,rfl,_,rfl,(show 2<=sizeLine by decide +kernel),fun r hr' => ?_⟩
   have sR:Same H9 (upd H9 r (.tup [.ref dg,.ref ds])):=Same.upd hr'
   exact k r dg ds kg kt gs ts' _ (sF.trans sR) dg0 ds0 ⟨upd_same,sR _ _ hg',sR _ _ ht',(AG'.keep (Same.tk sR)).congr fun y=>(by
    by_cases q:y ∈ ks
    ·simp [q]
    ·simp [q,a0.out y q]),(AT'.keep (Same.tk sR)).congr fun y=>(by
    by_cases q:y ∈ ks
    ·simp [q]
    ·simp [q,a0.out y q]),mG,mT,by omega,by omega⟩
end
end K76
namespace K76
open PySem PySem.Spec PyProof.Rows L2 GM TM
def flds (dl dt db:Addr)(day:Int):List (Str × V):=[("deeds",.ref dl),("things",.ref dt),("day",.int day),("before",.ref db)]
section
variable {dl dt db:Addr}{day y:Int}
theorem flds_mk:putF "before" (.ref db) (putF "day" (.int day) (putF "things" (.ref dt) (putF "deeds" (.ref dl) [])))=flds dl dt db day:=by kernel_rfl
theorem flds_deeds:(flds dl dt db day).lookup ("deeds" : Str)=some (V.ref dl):=by kernel_rfl
theorem flds_things:(flds dl dt db day).lookup ("things" : Str)=some (V.ref dt):=by kernel_rfl
theorem flds_day:(flds dl dt db day).lookup ("day" : Str)=some (V.int day):=by kernel_rfl
theorem flds_before:(flds dl dt db day).lookup ("before" : Str)=some (V.ref db):=by kernel_rfl
theorem flds_put:putF "day" (.int y) (flds dl dt db day)=flds dl dt db y:=by kernel_rfl
end
structure Bk (C:Addr)(H:Hp)(p dl dt db:Addr)(bs:List V)(kvs:List (Key × V))(day:Int)(bf:List V):Prop where
 ob : ∃ dx,H p=some (.ins C dx (flds dl dt db day))
 hl:H dl=some (.lst bs)
 ht:H dt=some (.dK kvs)
 hb:H db=some (.lst bf)
 ne:dl ≠ db
def Out (p dl dt db b:Addr):Prop:=b ≠ p/\b ≠ dl/\b ≠ dt/\b ≠ db
def Kp (p dl dt db:Addr)(H H':Hp):Prop:=∀ b o,Out p dl dt db b->H b=some o->H' b=some o
section
variable {C:Addr}{H H' H'':Hp}{p dl dt db:Addr}{bs:List V}{kvs:List (Key × V)}{day:Int}{bf:List V}
theorem Kp.of (s:Same H H'):Kp p dl dt db H H':=fun b o _ e=>s b o e
theorem Kp.trans (h:Kp p dl dt db H H')(k:Kp p dl dt db H' H''):Kp p dl dt db H H'':=fun b o u e=>k b o u (h b o u e)
theorem Bk.keep (B:Bk C H p dl dt db bs kvs day bf)(s:Same H H'):Bk C H' p dl dt db bs kvs day bf:=by
 obtain ⟨⟨dx,h⟩,h1,h2,h3,n⟩:=B
 exact ⟨⟨dx,s _ _ h⟩,s _ _ h1,s _ _ h2,s _ _ h3,n⟩
theorem Bk.out (B:Bk C H p dl dt db bs kvs day bf){b:Addr}{xs:List V}(h:H b=some (.tup xs)):Out p dl dt db b:=by
 obtain ⟨⟨dx,h0⟩,h1,h2,h3,n⟩:=B
 exact ⟨ne_of h h0 (by intro z; cases z),ne_of h h1 (by intro z; cases z),ne_of h h2 (by intro z; cases z),ne_of h h3 (by intro z; cases z)⟩
theorem Bk.tk (B:Bk C H p dl dt db bs kvs day bf)(k:Kp p dl dt db H H'):Tk H H':=fun b xs h=>k b _ (B.out h) h
theorem Bk.outN (B:Bk C H p dl dt db bs kvs day bf){b:Addr}(h:H b=none):Out p dl dt db b:=by
 obtain ⟨⟨dx,h0⟩,h1,h2,h3,n⟩:=B
 exact ⟨(fun z=>by rw [z,h0] at h; cases h),(fun z=>by rw [z,h1] at h; cases h),(fun z=>by rw [z,h2] at h; cases h),(fun z=>by rw [z,h3] at h; cases h)⟩
end
structure Cl (K:PySem.W.Frag)(mg:Str->Option Value)(C:Addr):Prop where
 cl:Cls K C
 nE:NoAttr K C "deeds"
 nT:NoAttr K C "things"
 nD:NoAttr K C "day"
 nB:NoAttr K C "before"
def spInit (C:Addr):Sp:=fun vs H Q _=>∃ (p dx:Addr),vs=[.ref p]/\H p=some (.ins C dx [])/\∀ dl dt db H',H dl=none->H dt=none->H db=none->Bk C H' p dl dt db [] [] 0 []->(∀ b o,H b=some o->b ≠ p->H' b=some o)->Q .non H'
def spNote (C:Addr):Sp:=fun vs H Q _=>∃ p dl dt db bs kvs day bf q c more,vs=[.ref p,.ref q,.ref c]/\Bk C H p dl dt db bs kvs day bf/\H c=some (.dK more)/\Out p dl dt db c/\(∃ ss:List Str,more.map (·.1)=ss.map Sum.inr)/\more.length<=2/\bs.length<=100/\kvs.length<=100/\bf.length<=100 /\
 ∀ bf' H',bf'.length=bf.length+1->Bk C H' p dl dt db (bs ++ [.ref q]) (mergeK kvs more) day bf'->Kp p dl dt db H H'->Q (.int bs.length) H'
def spNewLot:Sp:=fun vs H Q _=>∃ (x:Str) (m l:Int),vs=[.str x,.int m,.int l]/\∀ q d1 d2 t e H',Same H H'->H' q=some (.tup [.str "lot",.int l,.ref d1,.ref d2])->H' d1=some (.dK [(.inr x,.ref t)])->H' t=some (.tup [.int m,.int 1])->H' d2=some (.dK [(.inr x,.ref e)])->H' e=some (.tup [])->H d1=none->H d2=none->Q (.ref q) H'
def spNoSp:Sp:=fun vs H Q _=>∃ m:Int,vs=[.int m]/\1<=m/\m<=1000000/\Q .non H
def spNoDay:Sp:=fun vs H Q _=>∃ m:Int,vs=[.int m]/\0<=m/\m<=1000000/\Q .non H
def spNoName:Sp:=fun vs H Q _=>∃ x:Str,vs=[.str x]/\Wr x/\∀ H',Same H H'->Q .non H'
theorem Bk.ns {C:Addr}{H:Hp}{p dl dt db:Addr}{bs:List V}{kvs:List (Key × V)}{day:Int}{bf:List V}(B:Bk C H p dl dt db bs kvs day bf):p ≠ dl/\p ≠ dt/\p ≠ db/\dl ≠ dt/\dt ≠ db:=by
 obtain ⟨⟨dx,h0⟩,h1,h2,h3,n⟩:=B
 exact ⟨ne_of h0 h1 (by intro z; cases z),ne_of h0 h2 (by intro z; cases z),ne_of h0 h3 (by intro z; cases z),ne_of h1 h2 (by intro z; cases z),ne_of h2 h3 (by intro z; cases z)⟩
def spHad (C:Addr):Sp:=fun vs H Q _=>∃ p dl dt db bs kvs day bf x,vs=[.ref p,.str x]/\Bk C H p dl dt db bs kvs day bf/\valV kvs (.inr x)=none/\Q .non H
def spDone (C:Addr):Sp:=fun vs H Q _=>∃ p dl dt db bs kvs day bf,vs=[.ref p]/\Bk C H p dl dt db bs kvs day bf/\∀ z,H z=none->Q (.ref z) (upd H z (.lst bs))
def spToday (C:Addr):Sp:=fun vs H Q _=>∃ p dl dt db bs kvs day bf,vs=[.ref p]/\Bk C H p dl dt db bs kvs day bf/\Q (.int day) H
section
variable {P:Program}{w:World}{K:PySem.W.Frag}{mg:Str->Option Value}{base:Heap}
theorem scNewLot:FnScope ["name","many","last_day"] ["name","many","last_day"] (defScope sNewLot):=⟨rfl,rfl,rfl,by decide +kernel,rfl,by decide +kernel,by decide +kernel⟩
theorem ok_newlot {f:Addr}{fd:FuncData}(F:Fun K "new_lot" "new_lot" sNewLot f fd):FnOk P w K mg base CX0 1 f fd ["name","many","last_day"] spNewLot:=by
 refine F.ok scNewLot (fun vs H Q E h => ?_) (fun cdv A outer s H vs Q E hr h => ?_)
 ·obtain ⟨_,_,_,rfl,_⟩:=h
  rfl
 ·obtain ⟨x,m,l,rfl,k⟩:=h
  refine ⟨_,(pss_one (ps_ret (pe_tup (pa_cons pe_str (pa_cons (pv 2) (pa_cons (pe_disp (pps_cons (pv 0) (pe_tup (pa_cons (pv 1) (pa_cons pe_int pa_nil))) pps_nil) rfl rfl (by simp) (by decide)) (pa_cons (pe_disp (pps_cons (pv 0) (pe_tup pa_nil) pps_nil) rfl rfl (by simp) (by decide)) pa_nil))))))),?_⟩
  refine ⟨_,rfl,fun d1 h1=>⟨_,rfl,_,rfl,(by show 2<=sizeLine; decide),fun t ht=>⟨?_,[(.inr x,.ref t)],rfl,by show 1<=15; decide,fun d2 h2=>⟨_,rfl,(by show 0<=sizeLine; decide),fun e he=>⟨?_,[(.inr x,.ref e)],rfl,by show 1<=15; decide,(by show 4<=sizeLine; decide),fun q hq => ?_⟩⟩⟩⟩⟩
  ·rw [upd_ne (fun z=>by rw [<- z,upd_same] at ht; cases ht)]
   exact upd_same
  ·rw [upd_ne (fun z=>by rw [<- z,upd_same] at he; cases he)]
   exact upd_same
  rw [show mergeK [] [((.inr x:Key),V.ref t)]=[(.inr x,.ref t)] from rfl] at h2 he hq ⊢
  rw [show mergeK [] [((.inr x:Key),V.ref e)]=[(.inr x,.ref e)] from rfl] at hq ⊢
  have t1:t ≠ d1:=fun z=>by rw [z,upd_same] at ht; cases ht
  have s1:Same H (upd (upd (upd H d1 (.dK [])) t (.tup [.int m,.int 1])) d1 (.dK [(.inr x,.ref t)])):=same_own ((Same.upd h1).trans (Same.upd ht)) h1
  have h2':=same_none s1 h2
  have s2:=Same.upd (o:=.dK []) h2
  have s3:=Same.upd (o:=.tup []) he
  have e2:e ≠ d2:=fun z=>by rw [z,upd_same] at he; cases he
  have s4:Same (upd (upd (upd H d1 (.dK [])) t (.tup [.int m,.int 1])) d1 (.dK [(.inr x,.ref t)])) _:=same_own (o:=.dK [(.inr x,.ref e)]) (s2.trans s3) h2
  have s5:=Same.upd (o:=.tup [.str "lot",.int l,.ref d1,.ref d2]) hq
  have s45:=s4.trans s5
  refine k q d1 d2 t e _ (s1.trans s45) upd_same (s45 _ _ upd_same) (s45 _ _ ?_) (s5 _ _ upd_same) (s5 _ _ ?_) h1 h2'
  ·rw [upd_ne t1]
   exact upd_same
  ·rw [upd_ne e2]
   exact upd_same
theorem scNoSp:FnScope ["many"] ["many"] (defScope sRNoSp):=⟨rfl,rfl,rfl,by decide +kernel,rfl,by decide +kernel,by decide +kernel⟩
theorem ok_nosp {f:Addr}{fd:FuncData}{tk:Tok}(F:Fun K "refuse_no_spoons" "refuse_no_spoons" sRNoSp f fd)(mS:mg "MOST_SPOONS" = some (.int 1000000 tk))(cW:Cal P w K mg base CX0 1 "is_whole_number" ["thing"] spWh):FnOk P w K mg base CX0 2 f fd ["many"] spNoSp:=by
 refine F.ok scNoSp (fun vs H Q E h => ?_) (fun cdv A outer s H vs Q E hr h => ?_)
 ·obtain ⟨_,rfl,_⟩:=h
  rfl
 ·obtain ⟨m,rfl,m1,m2,k⟩:=h
  refine ⟨_,(pss_one (ps_if (PW.pt (pw_or (pt_not (pt_val (pe_cal cW hr rfl pass0 (pa_cons (pv 0) pa_nil)))) (pw_or1 (pt_not (pt_chain op_le op_le pe_int (pv 0) (pe_glob (v:=.int 1000000) rfl mS ⟨_,rfl⟩)))))) (pss_one ps_no) pss_nil)),?_⟩
  refine ⟨_,rfl,_,true,rfl,.int,_,rfl,iteF ⟨_,rfl,_,_,rfl,rfl,_,rfl,ite2 (fun _=>⟨_,_,rfl,rfl,_,rfl,?_⟩) (fun z=>absurd (decide_eq_true m1) z)⟩⟩
  rw [decide_eq_true m2]
  exact iteF k
theorem scNoDay:FnScope ["day"] ["day"] (defScope sRNoDay):=⟨rfl,rfl,rfl,by decide +kernel,rfl,by decide +kernel,by decide +kernel⟩
theorem ok_noday {f:Addr}{fd:FuncData}{tk:Tok}(F:Fun K "refuse_no_day" "refuse_no_day" sRNoDay f fd)(mS:mg "LATEST_DAY" = some (.int 1000000 tk))(cW:Cal P w K mg base CX0 1 "is_whole_number" ["thing"] spWh):FnOk P w K mg base CX0 2 f fd ["day"] spNoDay:=by
 refine F.ok scNoDay (fun vs H Q E h => ?_) (fun cdv A outer s H vs Q E hr h => ?_)
 ·obtain ⟨_,rfl,_⟩:=h
  rfl
 ·obtain ⟨m,rfl,m1,m2,k⟩:=h
  refine ⟨_,(pss_one (ps_if (PW.pt (pw_or (pt_not (pt_val (pe_cal cW hr rfl pass0 (pa_cons (pv 0) pa_nil)))) (pw_or1 (pt_not (pt_chain op_le op_le pe_int (pv 0) (pe_glob (v:=.int 1000000) rfl mS ⟨_,rfl⟩)))))) (pss_one ps_no) pss_nil)),?_⟩
  refine ⟨_,rfl,_,true,rfl,.int,_,rfl,iteF ⟨_,rfl,_,_,rfl,rfl,_,rfl,ite2 (fun _=>⟨_,_,rfl,rfl,_,rfl,?_⟩) (fun z=>absurd (decide_eq_true m1) z)⟩⟩
  rw [decide_eq_true m2]
  exact iteF k
theorem scNoName:FnScope ["thing"] ["thing"] (defScope sRNoName):=⟨rfl,rfl,rfl,by decide +kernel,rfl,by decide +kernel,by decide +kernel⟩
theorem ok_noname {f:Addr}{fd:FuncData}(F:Fun K "refuse_no_name" "refuse_no_name" sRNoName f fd)(cI:Cal P w K mg base CX0 1 "is_ware" ["thing"] (spIsWare K)):FnOk P w K mg base CX0 2 f fd ["thing"] spNoName:=by
 refine F.ok scNoName (fun vs H Q E h => ?_) (fun cdv A outer s H vs Q E hr h => ?_)
 ·obtain ⟨_,rfl,_⟩:=h
  rfl
 ·obtain ⟨x,rfl,wx,k⟩:=h
  refine ⟨_,(pss_one (ps_if (pt_not (pt_val (pe_cal cI hr rfl pass0 (pa_cons (pv 0) pa_nil)))) (pss_one ps_no) pss_nil)),?_⟩
  exact ⟨_,rfl,_,rfl,.inr ⟨x,rfl,by have:=wx.l8; omega,fun _ H' s'=>⟨_,rfl,iteF (k _ s')⟩,fun n=>absurd wx n⟩⟩
theorem scInit:FnScope ["self"] ["self"] (defScope sInit):=⟨rfl,rfl,rfl,by decide +kernel,rfl,by decide +kernel,by decide +kernel⟩
theorem ok_init {f C:Addr}{fd:FuncData}(F:Fun K "__init__" "Books.__init__" sInit f fd)(T:Cl K mg C):FnOk P w K mg base CX0 1 f fd ["self"] (spInit C):=by
 refine F.ok scInit (fun vs H Q E h => ?_) (fun cdv A outer s H vs Q E hr h => ?_)
 ·obtain ⟨_,_,rfl,_⟩:=h
  rfl
 ·obtain ⟨p,dx,rfl,hp,k⟩:=h
  refine ⟨_,(pss_cons (ps_fld (pv 0) (pe_lst pa_nil) rfl) (pss_cons (ps_fld (pv 0) pe_dnewK rfl) (pss_cons (ps_fld (pv 0) pe_int rfl) (pss_one (ps_fld (pv 0) (pe_lst pa_nil) rfl))))),?_⟩
  refine ⟨(by show 0<=sizeLine; decide),fun dl hl => ?_⟩
  have n1:p ≠ dl:=ne_of_none hp hl
  refine ⟨_,rfl,p,C,dx,[],rfl,(by rw [upd_ne n1]; exact hp),T.cl,T.nE,(by show 0 < 1000; decide),fun dt ht => ?_⟩
  have n2:p ≠ dt:=fun z=>by rw [<- z,upd_same] at ht; cases ht
  have n3:dl ≠ dt:=fun z=>by rw [<- z,upd_ne (Ne.symm n1),upd_same] at ht; cases ht
  have ht0:H dt=none:=by rw [upd_ne (Ne.symm n2),upd_ne (Ne.symm n3)] at ht; exact ht
  refine ⟨_,rfl,p,C,dx,_,rfl,(by rw [upd_ne n2]; exact upd_same),T.cl,T.nT,(by show 1 < 1000; decide),?_⟩
  refine ⟨_,rfl,p,C,dx,_,rfl,upd_same,T.cl,T.nD,(by show 2 < 1000; decide),?_⟩
  refine ⟨(by show 0<=sizeLine; decide),fun db hb => ?_⟩
  have n4:p ≠ db:=fun z=>by rw [<- z,upd_same] at hb; cases hb
  have n5:dt ≠ db:=fun z=>by rw [<- z,upd_ne (Ne.symm n2),upd_ne (Ne.symm n2),upd_same] at hb; cases hb
  have n6:dl ≠ db:=fun z=>by rw [<- z,upd_ne (Ne.symm n1),upd_ne (Ne.symm n1),upd_ne n3,upd_ne (Ne.symm n1),upd_same] at hb; cases hb
  have hb0:H db=none:=by rw [upd_ne (Ne.symm n4),upd_ne (Ne.symm n4),upd_ne (Ne.symm n5),upd_ne (Ne.symm n4),upd_ne (Ne.symm n6)] at hb; exact hb
  refine ⟨_,rfl,p,C,dx,_,rfl,(by rw [upd_ne n4]; exact upd_same),T.cl,T.nB,(by show 3 < 1000; decide),?_⟩
  refine k dl dt db _ hl ht0 hb0 ⟨⟨dx,Eq.trans upd_same (congrArg (fun l=>some (HO.ins C dx l)) flds_mk)⟩,?_,?_,?_,n6⟩ fun b o e nb => ?_
  ·rw [upd_ne (Ne.symm n1),upd_ne n6,upd_ne (Ne.symm n1),upd_ne (Ne.symm n1),upd_ne n3,upd_ne (Ne.symm n1)]
   exact upd_same
  ·rw [upd_ne (Ne.symm n2),upd_ne n5,upd_ne (Ne.symm n2),upd_ne (Ne.symm n2)]
   exact upd_same
  ·rw [upd_ne (Ne.symm n4)]
   exact upd_same
  ·rw [upd_ne nb,upd_ne (ne_of_none e hb0),upd_ne nb,upd_ne nb,upd_ne (ne_of_none e ht0),upd_ne nb,upd_ne (ne_of_none e hl)]
   exact e
theorem ndNt:(["name","self"]:List Str).Nodup:=by decide +kernel
theorem scNote:FnScope ["self","deed","changed"] ["self","deed","changed"] (defScope sNote):=⟨rfl,rfl,rfl,by decide +kernel,rfl,by decide +kernel,by decide +kernel⟩
theorem ok_note {f C:Addr}{fd:FuncData}(F:Fun K "note" "Books.note" sNote f fd)(T:Txt mg)(L:Cl K mg C):FnOk P w K mg base CX0 1 f fd ["self","deed","changed"] (spNote C):=by
 refine F.ok scNote (fun vs H Q E h => ?_) (fun cdv A outer s H vs Q E hr h => ?_)
 ·obtain ⟨_,_,_,_,_,_,_,_,_,_,_,rfl,_⟩:=h
  rfl
 ·obtain ⟨p,dl,dt,db,bs,kvs,day,bf,q,c,more,rfl,B,hc,oc,⟨ss,es⟩,ml,bl',kl,fl,k⟩:=h
  refine ⟨_,(pss_cons (ps_expr (pe_bm PySem.F.plainAttrs_list PySem.F.slot_list_append PySem.F.type_list_append mt_append (pe_fld (pv 0) rfl) (pa_cons (pe_tup (pa_cons (pe_thaw (pe_compC (N':=["name","self"]) (fun σ=>[none,some 0].map fun t=>t.bind fun j=>(σ[j]?).join) rfl rfl (by decide +kernel) (by decide +kernel)
     (hk_of (sc:=defScope sNote) rfl (by decide +kernel)) (fun _ _ _=>blkN_by (sc:=defScope sNote) (N:=["self","deed","changed"]) [none,some 0] rfl rfl rfl rfl (by decide +kernel))
     (pi_dict (pv 2)) (fun _ _ _ _ _ _=>pg_name (i:=0) ndNt rfl (Or.inl rfl)) (fun _ _ _ _ _ _=>pifs_nil)
     (fun _ _ _ _ _ _=>pe_tup (pa_cons (pv 0) (pa_cons (pe_dget1 (hu_of hr) (pe_fldK (K:=K) rfl (pv 1) rfl) (pv 0) ⟨rfl,rfl,rfl,rfl⟩) pa_nil))))) (pa_cons (pe_fld (pv 0) rfl) pa_nil))) pa_nil)))
   (pss_cons (ps_expr (pe_bm PySem.F.plainAttrs_dict PySem.F.slot_dict_update PySem.F.type_dict_update mt_update (pe_fld (pv 0) rfl) (pa_cons (pv 2) pa_nil)))
   (pss_cons (ps_expr (pe_bm PySem.F.plainAttrs_list PySem.F.slot_list_append PySem.F.type_list_append mt_append (pe_fld (pv 0) rfl) (pa_cons (pv 1) pa_nil)))
   (pss_one (ps_ret (pe_op op_sub (pe_callB call_len_seq rfl T.len PySem.boot_len (pa_cons (pe_fld (pv 0) rfl) pa_nil)) pe_int)))))),?_⟩
  obtain ⟨n1,n2,n3,n4,n5⟩:=B.ns
  obtain ⟨⟨dx,h0⟩,hl,ht,hb,n6⟩:=id B
  obtain ⟨c1,c2,c3,c4⟩:=oc
  refine ⟨_,rfl,p,C,dx,_,_,rfl,h0,L.cl,L.nB,flds_before,.inl ⟨rfl,_,SqL.of hb⟩,_,rfl,c,more,rfl,hc,fun ob D hD => ?_⟩
  refine comp_rel (Ys.dict upd_same) (fun _ _ _ _=>True) (fun _ _ _ _ _ h _=>h) hD (by rw [List.length_map]; omega) (fun i v H' R hv sm hR => ?_) (fun ys H5 sm hD5 yl hy => ?_)
  ·rw [List.getElem?_map] at hv
   obtain ⟨kv,hkv,rfl⟩:=Option.map_eq_some_iff.mp hv
   obtain ⟨y,ey⟩ : ∃ y:Str,kv.1 = .inr y:=by
    have z:(more.map (·.1))[i]?=some kv.1:=by rw [List.getElem?_map,hkv]; rfl
    rw [es,List.getElem?_map] at z
    obtain ⟨y,_,e⟩:=Option.map_eq_some_iff.mp z
    exact ⟨y,e.symm⟩
   rw [ey]
   have hp':=sm p _ (by rw [upd_ne (Ne.symm c1)]; exact h0)
   have ht':=sm dt _ (by rw [upd_ne (Ne.symm c3)]; exact ht)
   exact ⟨(Keep.refl _).set rfl,_,rfl,_,rfl,p,C,dx,_,_,rfl,hp',L.cl,L.nT,flds_things,dt,rfl,.inl ⟨kvs,.inl ht'⟩,_,rfl,_,DGet.k (k:=.inr y) ht',(by show 2<=sizeLine; decide),fun z hz=>hR _ _ (Same.upd hz) trivial⟩
  ·have s6:=thaw_same hc sm
   refine ⟨c,ob,more,sm _ _ upd_same,(fun o u z=>by have z':H c=some (.frz o u):=z; rw [hc] at z'; cases z'),_,rfl,p,C,dx,_,_,rfl,s6 _ _ h0,L.cl,L.nD,flds_day,(by show 2<=sizeLine; decide),fun z hz => ?_⟩
   have t7:=Same.upd (o:=.tup [.ref D,.int day]) hz
   have s7:=s6.trans t7
   refine ⟨db,_,_,rfl,rfl,s7 _ _ hb,small1000 (by omega),?_⟩
   generalize hH7:upd (upd H5 c (.dK more)) z (.tup [.ref D,.int day])=H7 at s7
   refine ⟨_,rfl,p,C,dx,_,_,rfl,(by rw [upd_ne n3]; exact s7 _ _ h0),L.cl,L.nT,flds_things,.inr (.inr (.inl ⟨rfl,.inl ⟨kvs,by rw [upd_ne n5]; exact s7 _ _ ht⟩⟩)),_,rfl,dt,c,kvs,more,rfl,rfl,Ne.symm c3,(by rw [upd_ne n5]; exact s7 _ _ ht),(by rw [upd_ne c4]; exact s7 _ _ hc),by omega,?_⟩
   have hl9:upd (upd H7 db (.lst (bf ++ [.ref z]))) dt (.dK (mergeK kvs more)) dl=some (.lst bs):=by rw [upd_ne n4,upd_ne n6]; exact s7 _ _ hl
   refine ⟨_,rfl,p,C,dx,_,_,rfl,(by rw [upd_ne n2,upd_ne n3]; exact s7 _ _ h0),L.cl,L.nE,flds_deeds,.inl ⟨rfl,_,SqL.of hl9⟩,_,rfl,dl,_,_,rfl,rfl,hl9,small1000 (by omega),?_⟩
   refine ⟨_,rfl,p,C,dx,_,_,rfl,(by rw [upd_ne n1,upd_ne n2,upd_ne n3]; exact s7 _ _ h0),L.cl,L.nE,flds_deeds,dl,_,rfl,.inl (SqL.of upd_same),_,_,rfl,rfl,?_⟩
   have e1:((bs ++ [V.ref q]).length:Int) - 1=(bs.length:Int):=by rw [List.length_append]; show ((bs.length+1:Nat):Int) - 1=_; omega
   show Q (V.int (((bs ++ [V.ref q]).length:Int) - 1)) _
   rw [e1]
   refine k (bf ++ [.ref z]) _ (by rw [List.length_append]; rfl) ⟨⟨dx,?_⟩,upd_same,?_,?_,n6⟩ fun b o ⟨o1,o2,o3,o4⟩ e => ?_
   ·rw [upd_ne n1,upd_ne n2,upd_ne n3]; exact s7 _ _ h0
   ·rw [upd_ne (Ne.symm n4)]; exact upd_same
   ·rw [upd_ne (Ne.symm n6),upd_ne (Ne.symm n5)]; exact upd_same
   ·rw [upd_ne o2,upd_ne o3,upd_ne o4]; exact s7 _ _ e
theorem scHad:FnScope ["self","name"] ["self","name"] (defScope sHad):=⟨rfl,rfl,rfl,by decide +kernel,rfl,by decide +kernel,by decide +kernel⟩
theorem ok_had {f C:Addr}{fd:FuncData}(F:Fun K "refuse_had" "Books.refuse_had" sHad f fd)(L:Cl K mg C):FnOk P w K mg base CX0 1 f fd ["self","name"] (spHad C):=by
 refine F.ok scHad (fun vs H Q E h => ?_) (fun cdv A outer s H vs Q E hr h => ?_)
 ·obtain ⟨_,_,_,_,_,_,_,_,_,rfl,_⟩:=h
  rfl
 ·obtain ⟨p,dl,dt,db,bs,kvs,day,bf,x,rfl,B,nv,k⟩:=h
  obtain ⟨⟨dx,h0⟩,hl,ht,hb,n6⟩:=id B
  refine ⟨_,(pss_one (ps_if (pt_cmp (pc_din (hu_of hr) (pv 1) (pe_fld (pv 0) rfl))) (pss_one ps_no) pss_nil)),?_⟩
  have g:DGet H dt (.str x) none:=by rw [<- nv]; exact DGet.k (k:=.inr x) ht
  exact ⟨_,rfl,_,rfl,p,C,dx,_,_,rfl,h0,L.cl,L.nT,flds_things,dt,_,rfl,g,_,rfl,iteF k⟩
end
end K76
namespace K76
open PySem PySem.Spec PyProof.Rows L2 GM TM
theorem sl_to {x:Str}{j:Int}(h0:0<=j)(h:j<=x.length):cps (Txt.slice x none (some j))=(cps x).take j.toNat:=by
 have e:Txt.slice x none (some j)=StrLaws.sliceText x none (some j):=rfl
 rw [e,StrLaws.sliceText_to ⟨h0,by rw [lenC] at h; exact h⟩]
 simp [cps]
theorem sl_from {x:Str}{j:Int}(h0:0<=j)(h:j<=x.length):cps (Txt.slice x (some j) none)=(cps x).drop j.toNat:=by
 have e:Txt.slice x (some j) none=StrLaws.sliceText x (some j) none:=rfl
 rw [e,StrLaws.sliceText_from ⟨h0,by rw [lenC] at h; exact h⟩]
 simp [cps]
 exact List.take_of_length_le (by simp; have:x.length=x.cps.size:=rfl; omega)
def sgn (n:Int)(i:Nat):Nat:=97+((n / 24+3*(i:Int)) % 26).toNat
theorem sgn_inj {n:Int}{i j:Nat}(hi:i < 8)(hj:j < 8)(h:sgn n i=sgn n j):i=j:=by
 have e1:=emod_in (n / 24+3*(i:Int)) (m:=26) (by decide)
 have e2:=emod_in (n / 24+3*(j:Int)) (m:=26) (by decide)
 unfold sgn at h
 generalize n / 24=A at *
 omega
def nmC (n:Int)(w:List Nat)(i:Nat):List Nat:=if n % 3=0 then w.take (i+1) else if n % 3=1 then w.take (n / 3 % 8).toNat ++ [sgn n i] ++ w.drop (n / 3 % 8+1).toNat else sgn n i :: w.take ((n / 7+((0:Int)+i)*((0:Int)+i)) % 8).toNat
theorem nmC_inj {n:Int}{w:List Nat}{i j:Nat}(hw:w.length=8)(hi:i < 8)(hj:j < 8)(h:nmC n w i=nmC n w j):i=j:=by
 unfold nmC at h
 split at h
 ·have:=congrArg List.length h
  rw [List.length_take,List.length_take] at this
  omega
 ·split at h
  ·rw [List.append_assoc,List.append_assoc] at h
   have h':=List.append_cancel_left h
   simp at h'
   exact sgn_inj hi hj h'
  ·simp at h
   exact sgn_inj hi hj h.1
def NmS (n:Int)(w:List Nat)(ws:List Str):Prop:=∀ (k:Nat) x,ws[k]?=some x->cps x=nmC n w k/\Wr x
theorem NmS.nd {n:Int}{x:Str}{ws:List Str}(h:NmS n (cps x) ws)(xl:x.length=8)(l:ws.length<=8):ws.Nodup:=by
 refine List.pairwise_iff_getElem.mpr fun i j hi hj hij e => ?_
 have e1:=(h i ws[i] (List.getElem?_eq_getElem hi)).1
 have e2:=(h j ws[j] (List.getElem?_eq_getElem hj)).1
 rw [e,e2] at e1
 have:=nmC_inj (by rw [<- lenC]; exact xl) (by omega) (by omega) e1
 omega
theorem NmS.add {n:Int}{w:List Nat}{ws:List Str}{x:Str}(h:NmS n w ws)(e:cps x=nmC n w ws.length/\Wr x):NmS n w (ws ++ [x]):=fun k y hk=>by
 rcases snoc_get hk with ⟨_,z⟩ | ⟨rfl,rfl⟩
 ·exact h k y z
 ·exact e
theorem wr_of {y:Str}{l:List Nat}(e:cps y=l)(h1:1<=l.length)(h8:l.length<=8)(hl : ∀ c ∈ l,97<=c/\c<=122):Wr y:=⟨by rw [lenC,e]; exact h1,by rw [lenC,e]; exact h8,by rw [e]; exact hl⟩
theorem nm_a {n:Int}{x:Str}{i:Nat}(xl:x.length=8)(xw:Lw x)(w0:n % 3=0)(hi:i < 8):cps (Txt.slice x none (some ((0:Int)+i+1)))=nmC n (cps x) i/\Wr (Txt.slice x none (some ((0:Int)+i+1))):=by
 have e:=sl_to (x:=x) (j:=(0:Int)+i+1) (by omega) (by omega)
 rw [show ((0:Int)+i+1).toNat=i+1 by omega] at e
 have lx:=lenC x
 refine ⟨by unfold nmC; rw [if_pos w0]; exact e,wr_of e (by rw [List.length_take]; omega) (by rw [List.length_take]; omega) fun c hc=>xw c (List.mem_of_mem_take hc)⟩
theorem nm_b {n:Int}{x:Str}{i c:Nat}(xl:x.length=8)(xw:Lw x)(w0 : ¬ n % 3=0)(w1:n % 3=1)(cc:c=sgn n i)(cb:97<=c/\c<=122):cps (Txt.slice x none (some (n / 3 % 8)) ++ ⟨#[c]⟩ ++ Txt.slice x (some (n / 3 % 8+1)) none)=nmC n (cps x) i/\Wr (Txt.slice x none (some (n / 3 % 8)) ++ ⟨#[c]⟩ ++ Txt.slice x (some (n / 3 % 8+1)) none):=by
 have ea:=emod_in (n / 3) (m:=8) (by decide)
 have e:cps (Txt.slice x none (some (n / 3 % 8)) ++ ⟨#[c]⟩ ++ Txt.slice x (some (n / 3 % 8+1)) none)=(cps x).take (n / 3 % 8).toNat ++ [sgn n i] ++ (cps x).drop (n / 3 % 8+1).toNat:=by
  rw [cps_append',cps_append',sl_to (by omega) (by omega),sl_from (by omega) (by omega),cc]
 have lx:=lenC x
 refine ⟨by unfold nmC; rw [if_neg w0,if_pos w1]; exact e,wr_of e ?_ ?_ fun d hd => ?_⟩
 ·rw [List.length_append,List.length_append,List.length_take,List.length_drop,List.length_singleton]; omega
 ·rw [List.length_append,List.length_append,List.length_take,List.length_drop,List.length_singleton]; omega
 ·rcases List.mem_append.mp hd with z | z
  ·rcases List.mem_append.mp z with z | z
   ·exact xw d (List.mem_of_mem_take z)
   ·rw [List.mem_singleton.mp z,<- cc]; exact cb
  ·exact xw d (List.mem_of_mem_drop z)
theorem nm_c {n:Int}{x:Str}{i c:Nat}(xl:x.length=8)(xw:Lw x)(w0 : ¬ n % 3=0)(w1 : ¬ n % 3=1)(cc:c=sgn n i)(cb:97<=c/\c<=122):cps ((⟨#[c]⟩:Str) ++ Txt.slice x none (some ((n / 7+((0:Int)+i)*((0:Int)+i)) % 8)))=nmC n (cps x) i/\Wr ((⟨#[c]⟩:Str) ++ Txt.slice x none (some ((n / 7+((0:Int)+i)*((0:Int)+i)) % 8))):=by
 have ea:=emod_in (n / 7+((0:Int)+i)*((0:Int)+i)) (m:=8) (by decide)
 have e:cps ((⟨#[c]⟩:Str) ++ Txt.slice x none (some ((n / 7+((0:Int)+i)*((0:Int)+i)) % 8)))=sgn n i :: (cps x).take ((n / 7+((0:Int)+i)*((0:Int)+i)) % 8).toNat:=by
  rw [cps_append',sl_to (by omega) (by omega),cc]
  rfl
 have lx:=lenC x
 have first:=e
 rw [show sgn n i :: (cps x).take ((n / 7+((0:Int)+i)*((0:Int)+i)) % 8).toNat=nmC n (cps x) i by unfold nmC; rw [if_neg w0,if_neg w1]] at first
 refine ⟨first,?_⟩
 clear first
 generalize (n / 7+((0:Int)+i)*((0:Int)+i)) % 8=a at *
 refine wr_of e ?_ ?_ fun d hd => ?_
 ·simp
 ·rw [List.length_cons,List.length_take]; omega
 ·rcases List.mem_cons.mp hd with rfl | z
  ·rw [<- cc]; exact cb
  ·exact xw d (List.mem_of_mem_take z)
def spNames:Sp:=fun vs H Q _=>∃ s:Int,vs=[.int s]/\0<=s/\s < 2147483587/\∀ (ws:List Str) p H',ws.length=8->ws.Nodup->(∀ x ∈ ws,Wr x)->Same H H'->H' p=some (.lst (ws.map V.str))->Q (.ref p) H'
section
variable {P:Program}{w:World}{K:PySem.W.Frag}{mg:Str->Option Value}{base:Heap}
theorem scNames:FnScope ["_law_seed","_law_letters","_law_word","_law_k","_law_at","_law_found","_law_sign"] ["_law_seed"] (defScope sNames):=⟨rfl,rfl,rfl,by decide +kernel,rfl,by decide +kernel,by decide +kernel⟩
theorem ok_names {f:Addr}{fd:FuncData}(F:Fun K "_law_names" "_law_names" sNames f fd)(T:Txt mg):FnOk P w K mg base CX0 1 f fd ["_law_seed"] spNames:=by
 refine F.ok scNames (fun vs H Q E h => ?_) (fun cdv A outer s H vs Q E hr h => ?_)
 ·obtain ⟨_,rfl,_⟩:=h
  rfl
 ·obtain ⟨n,rfl,n0,nl,k⟩:=h
  refine ⟨_,(pss_cons (ps_set (i:=1) scNames.nd rfl (Or.inl rfl) pe_str)
   (pss_cons (ps_set (i:=2) scNames.nd rfl (Or.inl rfl) pe_str)
   (pss_cons (ps_for PassesOwn.never rfl (pi_range1 rfl T.range (pa_cons pe_int pa_nil)) (pg_name (i:=3) scNames.nd rfl (Or.inl rfl))
    (pss_one (ps_set (i:=2) scNames.nd rfl (Or.inl rfl) (pe_op op_add_str (pv 2) (pe_ix ix_str (pv 1) (pe_op op_mod (pe_op op_mod (pe_op op_mulB (pv 0) (pe_op op_add (pe_op op_mulB pe_int (pv 3)) pe_int)) pe_int) pe_int) (fun _ _=>rfl))))))
   (pss_cons (ps_set (i:=4) scNames.nd rfl (Or.inl rfl) (pe_op op_mod (pe_op op_fdivB (pv 0) pe_int) pe_int))
   (pss_cons (ps_set (i:=5) scNames.nd rfl (Or.inl rfl) (pe_lst pa_nil))
   (pss_cons (ps_for PassesOwn.never rfl (pi_range1 rfl T.range (pa_cons pe_int pa_nil)) (pg_name (i:=3) scNames.nd rfl (Or.inl rfl))
    (pss_cons (ps_set (i:=6) scNames.nd rfl (Or.inl rfl) (pe_ix ix_str (pv 1) (pe_op op_mod (pe_op op_add (pe_op op_fdivB (pv 0) pe_int) (pe_op op_mulB pe_int (pv 3))) pe_int) (fun _ _=>rfl)))
    (pss_one (ps_if (pt_cmpR op_eq (pe_op op_mod (pv 0) pe_int) pe_int (nomark _))
     (pss_one (ps_expr (pe_bm PySem.F.plainAttrs_list PySem.F.slot_list_append PySem.F.type_list_append mt_append (pv 5) (pa_cons (pe_slice sl_str (pv 2) po_none (po_some (pe_op op_add (pv 3) pe_int))) pa_nil))))
     (pss_one (ps_if (pt_cmpR op_eq (pe_op op_mod (pv 0) pe_int) pe_int (nomark _))
      (pss_one (ps_expr (pe_bm PySem.F.plainAttrs_list PySem.F.slot_list_append PySem.F.type_list_append mt_append (pv 5) (pa_cons (pe_op op_add_str (pe_op op_add_str (pe_slice sl_str (pv 2) po_none (po_some (pv 4))) (pv 6)) (pe_slice sl_str (pv 2) (po_some (pe_op op_add (pv 4) pe_int)) po_none)) pa_nil))))
      (pss_one (ps_expr (pe_bm PySem.F.plainAttrs_list PySem.F.slot_list_append PySem.F.type_list_append mt_append (pv 5) (pa_cons (pe_op op_add_str (pv 6) (pe_slice sl_str (pv 2) po_none (po_some (pe_op op_mod (pe_op op_add (pe_op op_fdivB (pv 0) pe_int) (pe_op op_mulB (pv 3) (pv 3))) pe_int)))) pa_nil))))))))))
   (pss_one (ps_ret (pv 5))))))))),?_⟩
  have zL:LET.length<=sizeLine:=by decide +kernel
  have bn:Bt 64 n:=bt_lt 64 (c:=10000000000000000000) n0 (by omega)
  refine ⟨8,rfl,by decide,by decide,?_⟩
  refine for_range (fun i σ H'=>∃ (x:Str) (v3:Option V),σ=[some (.int n),some (.str LET),some (.str x),v3,none,none,none]/\x.length=i/\Lw x/\H'=H) ⟨"",none,rfl,rfl,(by decide +kernel),rfl⟩ ?_ ?_
  ·rintro i σ H' hi ⟨x,v3,rfl,xl,xw,rfl⟩
   have hi8:i < 8:=hi
   have bi:Bt 64 ((0:Int)+i):=bt_lt 64 (c:=10000000000000000000) (by omega) (by omega)
   have b2:Bt 128 (2*((0:Int)+i)):=(bt_lt 64 (x:=2) (c:=10000000000000000000) (by decide) (by decide)).mul bi
   have b3:Bt 129 (2*((0:Int)+i)+3):=b2.add ((bt_lt 64 (x:=3) (c:=10000000000000000000) (by decide) (by decide)).mono (by decide))
   have e:=emod_in (n*(2*((0:Int)+i)+3) % 1009) (m:=26) (by decide)
   obtain ⟨c,hc,hc'⟩:=at_LET e.1 e.2
   refine ⟨_,rfl,_,rfl,_,rfl,_,rfl,_,_,rfl,rfl,⟨bl,b6 bi⟩,_,_,rfl,rfl,_,_,rfl,rfl,⟨b6 bn,b6 b3⟩,_,_,rfl,rfl,(by show (0:Int) < 1009; decide),_,_,rfl,rfl,(by show (0:Int) < 26; decide),LET,_,c,rfl,rfl,zL,hc,_,_,rfl,rfl,sz1000 (by show x.length+1<=1000; omega),?_⟩
   refine ⟨_,_,rfl,?_,lw_app xw (lw_one hc'),rfl⟩
   rw [lenA,xl]
   rfl
  ·rintro σ H' ⟨x,v3,rfl,xl,xw,rfl⟩
   have xl8:x.length=8:=xl
   have ea:=emod_in (n / 3) (m:=8) (by decide)
   refine ⟨_,rfl,_,_,rfl,rfl,⟨by decide,b9⟩,_,_,rfl,rfl,(by show (0:Int) < 8; decide),?_⟩
   refine ⟨(show 0<=sizeLine by decide +kernel),fun p hp => ?_⟩
   have s1:Same H' (upd H' p (.lst [])):=Same.upd hp
   refine ⟨8,rfl,by decide,by decide,?_⟩
   refine for_range (fun i σ H2=>∃ (ws:List Str) (v3 v6:Option V),σ=[some (.int n),some (.str LET),some (.str x),v3,some (.int (n / 3 % 8)),some (.ref p),v6]/\ws.length=i/\Same H' H2/\H2 p=some (.lst (ws.map V.str))/\NmS n (cps x) ws) ⟨[],_,none,rfl,rfl,s1,upd_same,fun k y h=>by simp at h⟩ ?_ ?_
   ·rintro i σ H2 hi ⟨ws,v3',v6,rfl,wl,s2,hp2,nm⟩
    have hi8:i < 8:=hi
    have bi:Bt 64 ((0:Int)+i):=bt_lt 64 (c:=10000000000000000000) (by omega) (by omega)
    have e:=emod_in (n / 24+3*((0:Int)+i)) (m:=26) (by decide)
    have hc:=at_LETe e.1 e.2
    generalize hcc:97+((n / 24+3*((0:Int)+i)) % 26).toNat=c at hc
    have cc:c=sgn n i:=by rw [<- hcc]; unfold sgn; rw [show ((0:Int)+i)=(i:Int) by omega]
    have cb:97<=c/\c<=122:=by omega
    have cx:=lenC x
    refine ⟨_,rfl,_,rfl,_,_,rfl,rfl,⟨by decide,b9⟩,_,rfl,_,_,rfl,rfl,⟨bl,b6 bi⟩,_,_,rfl,rfl,_,_,rfl,rfl,(by show (0:Int) < 26; decide),LET,_,c,rfl,rfl,zL,hc,?_⟩
    have zx:x.length<=sizeLine:=sz1000 (by omega)
    have put : ∀ y:Str,(cps y=nmC n (cps x) i/\Wr y)->(∃ a xs v,V.ref p = .ref a/\[V.str y]=[v]/\H2 a=some (.lst xs)/\xs.length < sizeLine/\∃ (ws':List Str) (v3 v6:Option V),[some (.int n),some (.str LET),some (.str x),some (.int ((0:Int)+i)),some (.int (n / 3 % 8)),some (.ref p),some (.str ⟨#[c]⟩)]=[some (.int n),some (.str LET),some (.str x),v3,some (.int (n / 3 % 8)),some (.ref p),v6]/\ws'.length=i+1/\Same H' (upd H2 a (.lst (xs ++ [v])))/\(upd H2 a (.lst (xs ++ [v]))) p=some (.lst (ws'.map V.str))/\NmS n (cps x) ws'):=fun y hy=>by
     refine ⟨p,ws.map V.str,.str y,rfl,rfl,hp2,small1000 (by rw [List.length_map]; omega),ws ++ [y],_,_,rfl,by rw [List.length_append,wl]; rfl,fun b o e => ?_,by rw [List.map_append]; exact upd_same,nm.add (by rw [wl]; exact hy)⟩
     rw [upd_ne (fun z=>by rw [z,hp] at e; cases e)]
     exact s2 _ _ e
    refine ⟨_,rfl,_,_,rfl,rfl,(by show (0:Int) < 3; decide),rfl,_,rfl,ite2 (fun w0 => ?_) (fun w0 => ?_)⟩
    ·have w0':n % 3=0:=V.int.inj (of_decide_eq_true w0)
     refine ⟨_,rfl,.inl ⟨rfl,_,SqL.of hp2⟩,_,rfl,_,rfl,_,_,rfl,rfl,_,rfl,x,rfl,zx,?_⟩
     obtain ⟨a,xs,v,h1,h2,h3,h4,h5⟩:=put (Txt.slice x none (some ((0:Int)+i+1))) (nm_a xl8 xw w0' hi8)
     exact ⟨a,xs,v,h1,h2,h3,h4,h5⟩
    ·have w0' : ¬ n % 3=0:=fun z=>w0 (decide_eq_true (congrArg V.int z))
     refine ⟨_,rfl,_,_,rfl,rfl,(by show (0:Int) < 3; decide),rfl,_,rfl,ite2 (fun w1 => ?_) (fun w1 => ?_)⟩
     ·have w1':n % 3=1:=V.int.inj (of_decide_eq_true w1)
      have l1:=PyProof.Txt.length_slice_le x none (some (n / 3 % 8))
      have l2:=PyProof.Txt.length_slice_le x (some (n / 3 % 8+1)) none
      refine ⟨_,rfl,.inl ⟨rfl,_,SqL.of hp2⟩,_,rfl,_,rfl,_,rfl,x,rfl,zx,_,rfl,_,_,rfl,rfl,sz1000 (by show _+1<=1000; omega),_,rfl,_,rfl,_,_,rfl,rfl,_,rfl,x,rfl,zx,_,_,rfl,rfl,sz1000 (by rw [lenA]; show _+1+_<=1000; omega),?_⟩
      obtain ⟨a,xs,v,h1,h2,h3,h4,h5⟩:=put (Txt.slice x none (some (n / 3 % 8)) ++ ⟨#[c]⟩ ++ Txt.slice x (some (n / 3 % 8+1)) none) (nm_b xl8 xw w0' w1' cc cb)
      exact ⟨a,xs,v,h1,h2,h3,h4,h5⟩
     ·have w1' : ¬ n % 3=1:=fun z=>w1 (decide_eq_true (congrArg V.int z))
      have l1:=PyProof.Txt.length_slice_le x none (some ((n / 7+((0:Int)+i)*((0:Int)+i)) % 8))
      refine ⟨_,rfl,.inl ⟨rfl,_,SqL.of hp2⟩,_,rfl,_,rfl,_,rfl,_,_,rfl,rfl,⟨by decide,b9⟩,_,rfl,_,rfl,_,_,rfl,rfl,⟨b6 bi,b6 bi⟩,_,_,rfl,rfl,_,_,rfl,rfl,(by show (0:Int) < 8; decide),_,rfl,x,rfl,zx,_,_,rfl,rfl,sz1000 (by show 1+_<=1000; omega),?_⟩
      obtain ⟨a,xs,v,h1,h2,h3,h4,h5⟩:=put ((⟨#[c]⟩:Str) ++ Txt.slice x none (some ((n / 7+((0:Int)+i)*((0:Int)+i)) % 8))) (nm_c xl8 xw w0' w1' cc cb)
      exact ⟨a,xs,v,h1,h2,h3,h4,h5⟩
   ·rintro σ H2 ⟨ws,v3',v6,rfl,wl,s2,hp2,nm⟩
    exact ⟨_,rfl,k ws p H2 wl (nm.nd xl8 (by omega)) (fun y hy=>by obtain ⟨i,hi⟩:=List.mem_iff_getElem?.mp hy; exact (nm i y hi).2) s2 hp2⟩
end
end K76
namespace L2
open PySem PySem.Spec PyProof.Rows
section
variable {prog:Program}{w:World}{A:Around}{E:Value->Shared->Prop}{R:Result->Shared->Prop}{I S:Addr}{fp wr:List Addr}{n:Nat}{P:Nat->Value->Prop}{St:Nat->Heap->Prop}{kw:List (Str × Value)}
abbrev lsO (xs:Array Value)(c:Nat):Obj:={ cls:=.type "list",dict:=none,data:=.seq xs c,slots := #[] }
end
def tMaxD (K:PySem.W.Frag)(d:Int)(te:TE):TE:=fun σ H Q=>te σ H fun x H1=>∃ l ns,x = .ref l/\SqL K H1 l (ns.map V.int)/\∀ m:Int,(ns=[]/\m=d\/m ∈ ns/\∀ a ∈ ns,a<=m)->Q (.int m) H1
end L2
namespace L2
open PySem PySem.Spec PyProof.Rows
section
variable {prog:Program}{w:World}{A:Around}{E:Value->Shared->Prop}{R:Result->Shared->Prop}{I S:Addr}{fp wr:List Addr}{n:Nat}{P:Nat->Value->Prop}{St:Nat->Heap->Prop}{kw:List (Str × Value)}
end
def tMinDD (K:PySem.W.Frag)(te:TE):TE:=fun σ H Q=>te σ H fun x H1=>∃ l ns,x = .ref l/\SqL K H1 l (ns.map V.int)/\(ns=[]->Q .non H1)/\∀ m:Int,m ∈ ns->(∀ a ∈ ns,m<=a)->Q (.int m) H1
theorem call_minL {X:Cx}(hc:X.calm=true):CallR X (.builtin "min") (fun xs H Q=>∃ (l:Addr) (ns:List Int),xs=[.ref l]/\SqL X.K H l (ns.map V.int)/\0 < ns.length/\∀ m ∈ ns,(∀ a ∈ ns,m<=a)->Q (.int m) H):=by
 intro pins s σ H xs us Q I r h
 obtain ⟨l,ns,rfl,hl,hp,q⟩:=h
 obtain ⟨u,rfl,rx⟩:=vals1 r
 cases rx
 obtain ⟨its,r',pl,hz⟩:=I.list hl
 have hi:=intsAre_of r'
 obtain ⟨xs,e⟩:=hi.allInts.items
 have hns:ns=xs.toList.map (·.1):=by rw [<- hi.numsOf,<- nums_intItems,<- e]
 have hL:s.heap.IsList l (intItems xs):=e ▸ pl.isList
 have hsz:0 < xs.size:=by rw [hns,List.length_map,Array.length_toList] at hp; exact hp
 refine min_intList (I.ok.hd hc) hL hsz fun v h' tk hv keep => ?_
 obtain ⟨t,rfl⟩:=intItems_at hv
 obtain ⟨g1,g2⟩:=argBest_lt (numAt xs) (xs.size - 1)
 refine ⟨.int (numAt xs (argBest (fun i j=>decide (numAt xs i < numAt xs j)) (xs.size - 1))),H,I.kept keep,⟨t,rfl⟩,q _ ?_ fun a ha => ?_⟩
 ·rw [hns,numAt_eq]; exact getD_mem (by rw [List.length_map,Array.length_toList]; omega)
 ·rw [hns] at ha
  obtain ⟨j,hj,rfl⟩:=mem_getD ha
  rw [List.length_map,Array.length_toList] at hj
  rw [<- numAt_eq]; exact g2 j (by omega)
end L2
namespace K76
open PySem PySem.Spec PyProof.Rows L2 GM TM
structure Th where
 x:Str
 k:Str
 l:Option Int
 ks:List Str
 f:Str->Int
 T:Int
 w:Str->List Int
def lv:Option Int->V
 | none=>.non
 | some l=>.int l
structure Wy (H:Hp)(ws:List (Key × V))(ks:List Str)(n:Nat)(w:Str->List Int):Prop where
 dk : ∃ wk,DK ws wk/\∀ y,y ∈ wk ↔ y ∈ ks
 at' : ∀ y ∈ ks,∃ e,valV ws (.inr y)=some (.ref e)/\H e=some (.tup ((w y).map V.int))/\(w y).length<=n
theorem Wy.keep {H H':Hp}{ws:List (Key × V)}{ks:List Str}{n n':Nat}{w:Str->List Int}(h:Wy H ws ks n w)(k:Tk H H')(le:n<=n'):Wy H' ws ks n' w:=⟨h.dk,fun y hy=>by
 obtain ⟨e,e1,e2,e3⟩:=h.at' y hy
 exact ⟨e,e1,k _ _ e2,Nat.le_trans e3 le⟩⟩
structure Tq (H:Hp)(M:Int)(n:Nat)(q d1 d2:Addr)(z:Th):Prop where
 hq:H q=some (.tup [.str z.k,lv z.l,.ref d1,.ref d2])
 hd : ∃ kvs ks,H d1=some (.dK kvs)/\HA H kvs ks M z.f/\∀ y,y ∈ ks ↔ y ∈ z.ks
 hw : ∃ ws,H d2=some (.dK ws)/\Wy H ws z.ks n z.w
def KpL (L:List Addr)(H H':Hp):Prop:=∀ b o,b ∉ L->H b=some o->H' b=some o
theorem KpL.of {L:List Addr}{H H':Hp}(s:Same H H'):KpL L H H':=fun b o _ e=>s b o e
def Tg (H:Hp)(L:List Addr)(M:Int)(n:Nat)(v:V)(z:Th):Prop:=∃ q d1 d2,v = .ref q/\Tq H M n q d1 d2 z/\d1 ∉ L/\d2 ∉ L
theorem Tq.keep {H H':Hp}{L:List Addr}{M:Int}{n n':Nat}{q d1 d2:Addr}{z:Th}(h:Tq H M n q d1 d2 z)(o1:d1 ∉ L)(o2:d2 ∉ L)(k:KpL L H H')(t:Tk H H')(le:n<=n'):Tq H' M n' q d1 d2 z:=by
 obtain ⟨h1,⟨kvs,ks,e1,e2,e3⟩,⟨ws,w1,w2⟩⟩:=h
 exact ⟨t _ _ h1,⟨kvs,ks,k _ _ o1 e1,e2.keep t,e3⟩,⟨ws,k _ _ o2 w1,w2.keep t le⟩⟩
theorem Tg.keep {H H':Hp}{L:List Addr}{M:Int}{n n':Nat}{v:V}{z:Th}(h:Tg H L M n v z)(k:KpL L H H')(t:Tk H H')(le:n<=n'):Tg H' L M n' v z:=by
 obtain ⟨q,d1,d2,rfl,h,o1,o2⟩:=h
 exact ⟨q,d1,d2,rfl,h.keep o1 o2 k t le,o1,o2⟩
theorem Tq.same {H H':Hp}{M:Int}{n:Nat}{q d1 d2:Addr}{z:Th}(h:Tq H M n q d1 d2 z)(s:Same H H'):Tq H' M n q d1 d2 z:=h.keep (L:=[]) List.not_mem_nil List.not_mem_nil (KpL.of s) s.tk (Nat.le_refl _)
structure TOk (M:Int)(n:Nat)(z:Th):Prop where
 wr:Wr z.x
 nd:z.ks.Nodup
 pos : ∀ y ∈ z.ks,1<=z.f y
 out : ∀ y,y ∉ z.ks->z.f y=0
 sum:(z.ks.map z.f).sum=z.T*M
 T0:0<=z.T
 Tb:z.T<=1000000*n
 ln:z.ks.length<=n
structure ZOk (M:Int)(n:Nat)(zs:List Th):Prop where
 nd:(zs.map Th.x).Nodup
 ok : ∀ z ∈ zs,TOk M n z
 kd : ∀ z ∈ zs,(z.k = "lot" /\ ∃ l,z.l=some l)\/((z.k = "store" \/ z.k = "dose")/\z.l=none)
 lots : ∀ z ∈ zs,∀ y ∈ z.ks,∃ u ∈ zs,u.x=y/\u.k = "lot"
 M0:0 < M
 bM:Bt (26*n+1) M
 ln:zs.length<=n
 n60:n<=52
abbrev Ths (H:Hp)(L:List Addr)(M:Int)(n:Nat):List (Key × V)->List Th->Prop:=Paired (fun kv z=>kv.1 = .inr z.x/\Tg H L M n kv.2 z)
structure PS (C:Addr)(H:Hp)(L:List Addr)(p dl dt db:Addr)(bs:List V)(kvs:List (Key × V))(day:Int)(bf:List V)(M:Int)(n:Nat)(zs:List Th):Prop where
 bk:Bk C H p dl dt db bs kvs day bf
 th:Ths H L M n kvs zs
 bl:bs.length=n
 fl:bf.length=n
 inL:p ∈ L/\dl ∈ L/\dt ∈ L/\db ∈ L
 al : ∀ b ∈ L,H b ≠ none
 g:ZOk M n zs
section
variable {C:Addr}{H H':Hp}{L:List Addr}{p dl dt db:Addr}{bs:List V}{kvs:List (Key × V)}{day:Int}{bf:List V}{M:Int}{n:Nat}{zs:List Th}
theorem Ths.keep {n':Nat}(h:Ths H L M n kvs zs)(k:KpL L H H')(t:Tk H H')(le:n<=n'):Ths H' L M n' kvs zs:=paired_mono (fun kv z ⟨e,r⟩=>⟨e,r.keep k t le⟩) h
theorem Ths.keys : ∀ {kvs:List (Key × V)} {zs:List Th},Ths H L M n kvs zs->kvs.map (·.1)=(zs.map Th.x).map Sum.inr
 | _,_,.nil=>rfl
 | _,_,.cons ⟨e,_⟩ t=>by rw [List.map_cons,List.map_cons,List.map_cons,e,Ths.keys t]
theorem Ths.val : ∀ {kvs:List (Key × V)} {zs:List Th},Ths H L M n kvs zs->(zs.map Th.x).Nodup->∀ z ∈ zs,∃ v,valV kvs (.inr z.x)=some v/\Tg H L M n v z
 | _,_,.nil,_,z,h=>nomatch h
 | kv :: kvs,y :: zs,.cons ⟨e,r⟩ t,nd,z,h=>by
  rw [List.map_cons,List.nodup_cons] at nd
  rcases List.mem_cons.mp h with rfl | h
  ·exact ⟨kv.2,valV_pos e,r⟩
  ·obtain ⟨v,h1,h2⟩:=Ths.val t nd.2 z h
   refine ⟨v,?_,h2⟩
   rw [valV_neg]
   ·exact h1
   ·rw [e]
    intro q
    exact nd.1 (Sum.inr.inj q ▸ List.mem_map_of_mem h)
theorem Ths.non : ∀ {kvs:List (Key × V)} {zs:List Th} {x:Str},Ths H L M n kvs zs->x ∉ zs.map Th.x->valV kvs (.inr x)=none
 | _,_,_,.nil,_=>rfl
 | kv :: kvs,y :: zs,x,.cons ⟨e,_⟩ t,h=>by
  rw [List.map_cons,List.mem_cons,not_or] at h
  rw [valV_neg (by rw [e]; intro q; exact h.1 (Sum.inr.inj q).symm)]
  exact Ths.non t h.2
theorem PS.keep (h:PS C H L p dl dt db bs kvs day bf M n zs)(s:Same H H'):PS C H' L p dl dt db bs kvs day bf M n zs:=⟨h.bk.keep s,h.th.keep (KpL.of s) s.tk (Nat.le_refl _),h.bl,h.fl,h.inL,fun b hb z=>h.al b hb (same_none s z),h.g⟩
theorem PS.at (h:PS C H L p dl dt db bs kvs day bf M n zs){z:Th}(hz:z ∈ zs) : ∃ q d1 d2,valV kvs (.inr z.x)=some (.ref q)/\Tq H M n q d1 d2 z/\d1 ∉ L/\d2 ∉ L:=by
 obtain ⟨v,e,q,d1,d2,rfl,r⟩:=h.th.val h.g.nd z hz
 exact ⟨q,d1,d2,e,r⟩
theorem PS.fresh (h:PS C H L p dl dt db bs kvs day bf M n zs){b:Addr}(e:H b=none):b ∉ L:=fun z=>h.al b z e
theorem PS.out (h:PS C H L p dl dt db bs kvs day bf M n zs){b:Addr}(e:b ∉ L):Out p dl dt db b:=⟨fun z=>e (z ▸ h.inL.1),fun z=>e (z ▸ h.inL.2.1),fun z=>e (z ▸ h.inL.2.2.1),fun z=>e (z ▸ h.inL.2.2.2)⟩
theorem PS.kpl (h:PS C H L p dl dt db bs kvs day bf M n zs)(k:Kp p dl dt db H H'):KpL L H H':=fun b o u e=>k b o (h.out u) e
theorem PS.kl (h:PS C H L p dl dt db bs kvs day bf M n zs):kvs.length=zs.length:=paired_len h.th
theorem perm_sum {xs ys:List Int}(h:xs.Perm ys):xs.sum=ys.sum:=by
 induction h with
 | nil=>rfl
 | cons x _ ih=>rw [List.sum_cons,List.sum_cons,ih]
 | swap x y l=>simp only [List.sum_cons]; omega
 | trans _ _ i1 i2=>exact i1.trans i2
theorem TOk.hsum {z:Th}{kvs:List (Key × V)}{ks:List Str}(t:TOk M n z)(a:HA H kvs ks M z.f)(m : ∀ y,y ∈ ks ↔ y ∈ z.ks):(ks.map z.f).sum=z.T*M:=by
 rw [<- t.sum]
 exact perm_sum (((List.perm_ext_iff_of_nodup a.dk.nd t.nd).mpr m).map _)
theorem TOk.len {z:Th}{kvs:List (Key × V)}{ks:List Str}(t:TOk M n z)(a:HA H kvs ks M z.f)(m : ∀ y,y ∈ ks ↔ y ∈ z.ks):ks.length=z.ks.length:=((List.perm_ext_iff_of_nodup a.dk.nd t.nd).mpr m).length_eq
theorem ZOk.bm (g:ZOk M n zs):Bt 1360 M:=g.bM.mono (by have:=g.n60; omega)
theorem bT {T:Int}(h0:0<=T)(h:T<=1000000*(n:Int))(hn:n<=52):Bt 26 T:=bt_lt 26 (c:=67108864) h0 (by omega)
theorem bTM {z:Th}(g:ZOk M n zs)(t:TOk M n z):Bt 1386 (z.T*M):=((bT t.T0 t.Tb g.n60).mul g.bm).mono (by decide)
end
def Wds (z:Th):Prop:=z.k = "lot" \/ z.k = "store" \/ z.k = "dose"
def spOneOf (C:Addr)(K:PySem.W.Frag):Sp:=fun vs H Q _=>∃ L p dl dt db bs kvs day bf M n zs x u,∃ ws:List Str,vs=[.ref p,.str x,.ref u]/\PS C H L p dl dt db bs kvs day bf M n zs/\Wr x/\SqT K H u (ws.map V.str) /\
 ((∃ z ∈ zs,z.x=x/\∀ H',Same H H'->Q (.bl (decide (z.k ∈ ws))) H')\/(x ∉ zs.map Th.x/\∀ H',Same H H'->Q (.bl false) H'))
def spThing (C:Addr):Sp:=fun vs H Q _=>∃ L p dl dt db bs kvs day bf M n zs z,vs=[.ref p,.str z.x]/\PS C H L p dl dt db bs kvs day bf M n zs/\z ∈ zs /\
 ∀ q d1 d2 H',Same H H'->Tq H' M n q d1 d2 z->d1 ∉ L->d2 ∉ L->Q (.ref q) H'
def spTot (C:Addr):Sp:=fun vs H Q _=>∃ L p dl dt db bs kvs day bf M n zs z,vs=[.ref p,.str z.x]/\PS C H L p dl dt db bs kvs day bf M n zs/\z ∈ zs/\∀ H',Same H H'->Q (.int z.T) H'
section
variable {P:Program}{w:World}{K:PySem.W.Frag}{mg:Str->Option Value}{base:Heap}
theorem scOneOf:FnScope ["self","name","words"] ["self","name","words"] (defScope sOneOf):=⟨rfl,rfl,rfl,by decide +kernel,rfl,by decide +kernel,by decide +kernel⟩
theorem in_dec {x:Str}{ws:List Str}:inV (.str x) (ws.map V.str)=decide (x ∈ ws):=by
 by_cases z:x ∈ ws
 ·rw [in_strs.mpr z,decide_eq_true z]
 ·rw [decide_eq_false z]
  exact Bool.eq_false_iff.mpr fun q=>z (in_strs.mp q)
theorem ok_oneof {f C:Addr}{fd:FuncData}(F:Fun K "is_one_of" "Books.is_one_of" sOneOf f fd)(L:Cl K mg C)(cI:Cal P w K mg base CX0 1 "is_ware" ["thing"] (spIsWare K)):FnOk P w K mg base CX0 2 f fd ["self","name","words"] (spOneOf C K):=by
 refine F.ok scOneOf (fun vs H Q E h => ?_) (fun cdv A outer s H vs Q E hr h => ?_)
 ·obtain ⟨_,_,_,_,_,_,_,_,_,_,_,_,_,_,_,rfl,_⟩:=h
  rfl
 ·obtain ⟨l,p,dl,dt,db,bs,kvs,day,bf,M,n,zs,x,u,ws,rfl,B,wx,hu,k⟩:=h
  refine ⟨_,(pss_one (ps_ret (pe_and (pe_cal cI hr rfl pass0 (pa_cons (pv 1) pa_nil)) (pe_and (pe_cmp (pc_din (hu_of hr) (pv 1) (pe_fld (pv 0) rfl))) (pe_one (pe_cmpR op_in_seq (pe_ix ix_tup (pe_dget (hu_of hr) (pe_fld (pv 0) rfl) (pv 1) (fun _ _=>rfl)) pe_int (fun _ _=>rfl)) (pv 2) (by with_unfolding_all rfl))))))),?_⟩
  refine ⟨_,rfl,_,rfl,.inr ⟨x,rfl,by have:=wx.l8; omega,fun _ H1 s1=>⟨_,rfl,iteT ?_⟩,fun n=>absurd wx n⟩⟩
  have B1:=B.keep s1
  obtain ⟨⟨dx,h0⟩,hl,ht,hb,n6⟩:=id B1.bk
  rcases k with ⟨z,hz,rfl,k⟩ | ⟨nx,k⟩
  ·obtain ⟨q,d1,d2,ev,tq,_⟩:=B1.at hz
   have gv:DGet H1 dt (.str z.x) (some (.ref q)):=by rw [<- ev]; exact DGet.k (k:=.inr z.x) ht
   refine ⟨_,rfl,_,rfl,p,C,dx,_,_,rfl,h0,L.cl,L.nT,flds_things,dt,_,rfl,gv,_,rfl,iteT ?_⟩
   refine ⟨_,rfl,p,C,dx,_,_,rfl,h0,L.cl,L.nT,flds_things,_,rfl,dt,_,rfl,gv,q,_,_,_,rfl,rfl,SqT.of tq.hq,rfl,_,rfl,u,_,rfl,.inr (s1.tup hu),rfl,flat_strs ws,?_⟩
   show Q (V.bl (inV (.str z.k) (ws.map V.str))) H1
   rw [in_dec]
   exact k _ s1
  ·have gv:DGet H1 dt (.str x) none:=by rw [<- B1.th.non nx]; exact DGet.k (k:=.inr x) ht
   exact ⟨_,rfl,_,rfl,p,C,dx,_,_,rfl,h0,L.cl,L.nT,flds_things,dt,_,rfl,gv,_,rfl,iteF (k _ s1)⟩
theorem scThing:FnScope ["self","name"] ["self","name"] (defScope sThing):=⟨rfl,rfl,rfl,by decide +kernel,rfl,by decide +kernel,by decide +kernel⟩
theorem wds_in {M:Int}{n:Nat}{zs:List Th}(g:ZOk M n zs){z:Th}(hz:z ∈ zs):decide (z.k ∈ (["lot","store","dose"]:List Str))=true:=by
 rcases g.kd z hz with ⟨e,_⟩ | ⟨e | e,_⟩ <;> rw [e] <;> decide +kernel
theorem ok_thing {f C:Addr}{fd:FuncData}(F:Fun K "thing_of" "Books.thing_of" sThing f fd)(L:Cl K mg C)(mO:MCal P w K mg base CX0 2 C "is_one_of" ["self","name","words"] (spOneOf C K)):FnOk P w K mg base CX0 3 f fd ["self","name"] (spThing C):=by
 refine F.ok scThing (fun vs H Q E h => ?_) (fun cdv A outer s H vs Q E hr h => ?_)
 ·obtain ⟨_,_,_,_,_,_,_,_,_,_,_,_,_,rfl,_⟩:=h
  rfl
 ·obtain ⟨l,p,dl,dt,db,bs,kvs,day,bf,M,n,zs,z,rfl,B,hz,k⟩:=h
  refine ⟨_,(pss_cons (ps_if (pt_not (pt_val (pe_mc L.cl mO hr pass0 (pv 0) (pa_cons (pv 1) (pa_cons (pe_tup (pa_cons pe_str (pa_cons pe_str (pa_cons pe_str pa_nil)))) pa_nil))))) (pss_one ps_no) pss_nil)
   (pss_one (ps_ret (pe_dget (hu_of hr) (pe_fld (pv 0) rfl) (pv 1) (fun _ _=>rfl))))),?_⟩
  obtain ⟨⟨dx,h0⟩,hl,ht,hb,n6⟩:=id B.bk
  refine ⟨_,rfl,p,dx,_,rfl,h0,(by kernel_rfl),_,rfl,(by show 3<=sizeLine; decide),fun u hu => ?_⟩
  have t1:=Same.upd (o:=.tup [.str "lot",.str "store",.str "dose"]) hu
  refine ⟨l,p,dl,dt,db,bs,kvs,day,bf,M,n,zs,z.x,u,["lot","store","dose"],rfl,B.keep t1,(B.g.ok z hz).wr,SqT.of upd_same,.inl ⟨z,hz,rfl,fun H2 s2 => ?_⟩⟩
  have s12:=t1.trans s2
  rw [wds_in B.g hz]
  obtain ⟨q,d1,d2,ev,tq,o1,o2⟩:=(B.keep s12).at hz
  have gv:DGet H2 dt (.str z.x) (some (.ref q)):=by rw [<- ev]; exact DGet.k (k:=.inr z.x) (s12 _ _ ht)
  exact ⟨_,rfl,iteF ⟨_,rfl,p,C,dx,_,_,rfl,s12 _ _ h0,L.cl,L.nT,flds_things,_,rfl,dt,_,rfl,gv,k q d1 d2 _ s12 tq o1 o2⟩⟩
theorem scTot:FnScope ["self","name"] ["self","name"] (defScope sTot):=⟨rfl,rfl,rfl,by decide +kernel,rfl,by decide +kernel,by decide +kernel⟩
theorem ok_tot {f C:Addr}{fd:FuncData}(F:Fun K "total" "Books.total" sTot f fd)(L:Cl K mg C)(mT:MCal P w K mg base CX0 4 C "thing_of" ["self","name"] (spThing C))(cT:Cal P w K mg base CX0 4 "total_of" ["holding"] (spTotal K)):FnOk P w K mg base CX0 5 f fd ["self","name"] (spTot C):=by
 refine F.ok scTot (fun vs H Q E h => ?_) (fun cdv A outer s H vs Q E hr h => ?_)
 ·obtain ⟨_,_,_,_,_,_,_,_,_,_,_,_,_,rfl,_⟩:=h
  rfl
 ·obtain ⟨l,p,dl,dt,db,bs,kvs,day,bf,M,n,zs,z,rfl,B,hz,k⟩:=h
  refine ⟨_,(pss_one (ps_ret (pe_ix ix_tup (pe_cal cT hr rfl pass0 (pa_cons (pe_ix ix_tup (pe_mc L.cl mT hr pass0 (pv 0) (pa_cons (pv 1) pa_nil)) pe_int (fun _ _=>rfl)) pa_nil)) pe_int (fun _ _=>rfl)))),?_⟩
  obtain ⟨⟨dx,h0⟩,hl,ht,hb,n6⟩:=id B.bk
  refine ⟨_,rfl,p,dx,_,rfl,h0,(by kernel_rfl),_,rfl,l,p,dl,dt,db,bs,kvs,day,bf,M,n,zs,z,rfl,B,hz,fun q d1 d2 H1 s1 tq o1 o2 => ?_⟩
  obtain ⟨kv,ks,e1,ha,mem⟩:=tq.hd
  have to:=B.g.ok z hz
  have es:=to.hsum ha mem
  refine ⟨q,_,_,_,rfl,rfl,SqT.of tq.hq,rfl,d1,kv,ks,M,z.f,rfl,e1,ha,B.g.M0,B.g.bm.mono (by decide),by rw [es]; exact (bTM B.g to).mono (by decide),fun r t b H2 s2 sr fr => ?_⟩
  rw [es] at fr
  obtain ⟨rfl,rfl⟩:=fr.uniq B.g.M0 (⟨amt_one to.T0,by rw [Int.mul_one]⟩:Fr M z.T 1 (z.T*M))
  exact ⟨r,_,_,_,rfl,rfl,sr,rfl,k _ (s1.trans s2)⟩
end
end K76
namespace K76
open PySem PySem.Spec PyProof.Rows L2 GM TM
theorem ints_of : ∀ {ys:List V},(∀ y ∈ ys,∃ n:Int,y = .int n)->∃ ns:List Int,ys=ns.map V.int
 | [],_=>⟨[],rfl⟩
 | y :: ys,h=>by
  obtain ⟨n,rfl⟩:=h y List.mem_cons_self
  obtain ⟨ns,rfl⟩:=ints_of (ys:=ys) fun y hy=>h y (List.mem_cons_of_mem _ hy)
  exact ⟨n :: ns,rfl⟩
def LstOf (zs:List Th)(y:Str)(l:Int):Prop:=∃ u ∈ zs,u.x=y/\u.k = "lot" /\ u.l=some l
theorem ZOk.lst {M:Int}{n:Nat}{zs:List Th}(g:ZOk M n zs){z:Th}(hz:z ∈ zs){y:Str}(hy:y ∈ z.ks) : ∃ u l,u ∈ zs/\u.x=y/\u.k = "lot" /\ u.l=some l:=by
 obtain ⟨u,hu,e1,e2⟩:=g.lots z hz y hy
 rcases g.kd u hu with ⟨_,l,e3⟩ | ⟨e | e,_⟩
 ·exact ⟨u,l,hu,e1,e2,e3⟩
 ·rw [e] at e2; exact absurd e2 (by decide +kernel)
 ·rw [e] at e2; exact absurd e2 (by decide +kernel)
theorem nd_eq {zs:List Th}(nd:(zs.map Th.x).Nodup) : ∀ {u v:Th},u ∈ zs->v ∈ zs->u.x=v.x->u=v:=by
 induction zs with
 | nil=>intro u v h; cases h
 | cons z zs ih =>
  intro u v hu hv e
  rw [List.map_cons,List.nodup_cons] at nd
  rcases List.mem_cons.mp hu with e1 | h1
  ·rcases List.mem_cons.mp hv with e2 | h2
   ·rw [e1,e2]
   ·rw [e1] at e
    exact absurd (e ▸ List.mem_map_of_mem (f:=Th.x) h2) nd.1
  ·rcases List.mem_cons.mp hv with e2 | h2
   ·rw [e2] at e
    exact absurd (e ▸ List.mem_map_of_mem (f:=Th.x) h1) nd.1
   ·exact ih nd.2 h1 h2 e
theorem LstOf.uniq {zs:List Th}(nd:(zs.map Th.x).Nodup){y:Str}{l l':Int}(h:LstOf zs y l)(h':LstOf zs y l'):l=l':=by
 obtain ⟨u,hu,e1,_,e2⟩:=h
 obtain ⟨u',hu',e1',_,e2'⟩:=h'
 have:=nd_eq nd hu hu' (e1.trans e1'.symm)
 subst this
 exact Option.some.inj (e2.symm.trans e2')
abbrev HePr (H:Hp)(M:Int)(f:Str->Int)(c:Addr)(s:Str):Prop:=∃ t a b,H c=some (.tup [.str s,.ref t])/\H t=some (.tup [.int a,.int b])/\Fr M a b (f s)
def spHeld (C:Addr):Sp:=fun vs H Q _=>∃ L p dl dt db bs kvs day bf M n zs z,vs=[.ref p,.str z.x]/\PS C H L p dl dt db bs kvs day bf M n zs/\z ∈ zs /\
 ∀ D cs ss H',Same H H'->H D=none->H' D=some (.lst (cs.map V.ref))->Paired (HePr H' M z.f) cs ss->ss.Perm z.ks->sortedS ss=true->Q (.ref D) H'
def spLast (C:Addr):Sp:=fun vs H Q _=>∃ L p dl dt db bs kvs day bf M n zs z,vs=[.ref p,.str z.x]/\PS C H L p dl dt db bs kvs day bf M n zs/\z ∈ zs /\
 (z.ks=[]->∀ H',Same H H'->Q .non H')/\∀ m H',Same H H'->(∃ y ∈ z.ks,LstOf zs y m)->(∀ y ∈ z.ks,∀ l,LstOf zs y l->m<=l)->Q (.int m) H'
abbrev NmPr (H:Hp)(zs:List Th)(c:Addr)(s:Str):Prop:=∃ u ∈ zs,u.x=s/\H c=some (.tup [.str s,.str u.k])
def spNms (C:Addr):Sp:=fun vs H Q _=>∃ L p dl dt db bs kvs day bf M n zs,vs=[.ref p]/\PS C H L p dl dt db bs kvs day bf M n zs /\
 ∀ D cs ss H',Same H H'->H D=none->H' D=some (.lst (cs.map V.ref))->Paired (NmPr H' zs) cs ss->ss.Perm (zs.map Th.x)->sortedS ss=true->Q (.ref D) H'
def spNoSrc (C:Addr):Sp:=fun vs H Q _=>∃ L p dl dt db bs kvs day bf M n zs z,vs=[.ref p,.str z.x]/\PS C H L p dl dt db bs kvs day bf M n zs/\z ∈ zs/\z.k ≠ "dose" /\ ∀ H',Same H H'->Q .non H'
def spNoGoal (C:Addr):Sp:=fun vs H Q _=>∃ L p dl dt db bs kvs day bf M n zs x y,vs=[.ref p,.str x,.str y]/\PS C H L p dl dt db bs kvs day bf M n zs/\Wr y/\y ≠ x/\(∀ z ∈ zs,z.x=y->z.k = "store")/\∀ H',Same H H'->Q .non H'
def spToPour (C:Addr):Sp:=fun vs H Q _=>∃ L p dl dt db bs kvs day bf M n zs z m,vs=[.ref p,.str z.x,.int m]/\PS C H L p dl dt db bs kvs day bf M n zs/\z ∈ zs/\m<=z.T/\(∀ y ∈ z.ks,∀ l,LstOf zs y l->day<=l)/\∀ H',Same H H'->Q .non H'
section
variable {P:Program}{w:World}{K:PySem.W.Frag}{mg:Str->Option Value}{base:Heap}
theorem scNoSrc:FnScope ["self","source"] ["self","source"] (defScope sNoSrc):=⟨rfl,rfl,rfl,by decide +kernel,rfl,by decide +kernel,by decide +kernel⟩
theorem ok_nosrc {f C:Addr}{fd:FuncData}(F:Fun K "refuse_no_source" "Books.refuse_no_source" sNoSrc f fd)(L:Cl K mg C)(mO:MCal P w K mg base CX0 2 C "is_one_of" ["self","name","words"] (spOneOf C K)):FnOk P w K mg base CX0 3 f fd ["self","source"] (spNoSrc C):=by
 refine F.ok scNoSrc (fun vs H Q E h => ?_) (fun cdv A outer s H vs Q E hr h => ?_)
 ·obtain ⟨_,_,_,_,_,_,_,_,_,_,_,_,_,rfl,_⟩:=h
  rfl
 ·obtain ⟨l,p,dl,dt,db,bs,kvs,day,bf,M,n,zs,z,rfl,B,hz,nd,k⟩:=h
  refine ⟨_,(pss_one (ps_if (pt_not (pt_val (pe_mc L.cl mO hr pass0 (pv 0) (pa_cons (pv 1) (pa_cons (pe_tup (pa_cons pe_str (pa_cons pe_str pa_nil))) pa_nil))))) (pss_one ps_no) pss_nil)),?_⟩
  obtain ⟨⟨dx,h0⟩,hl,ht,hb,n6⟩:=id B.bk
  refine ⟨_,rfl,p,dx,_,rfl,h0,(by kernel_rfl),_,rfl,(by show 2<=sizeLine; decide),fun u hu => ?_⟩
  have t1:=Same.upd (o:=.tup [.str "lot",.str "store"]) hu
  refine ⟨l,p,dl,dt,db,bs,kvs,day,bf,M,n,zs,z.x,u,["lot","store"],rfl,B.keep t1,(B.g.ok z hz).wr,SqT.of upd_same,.inl ⟨z,hz,rfl,fun H2 s2 => ?_⟩⟩
  have e:decide (z.k ∈ (["lot","store"]:List Str))=true:=by
   rcases B.g.kd z hz with ⟨e,_⟩ | ⟨e | e,_⟩
   ·rw [e]; decide +kernel
   ·rw [e]; decide +kernel
   ·exact absurd e nd
  rw [e]
  exact ⟨_,rfl,iteF (k _ (t1.trans s2))⟩
theorem scNoGoal:FnScope ["self","source","goal"] ["self","source","goal"] (defScope sNoGoal):=⟨rfl,rfl,rfl,by decide +kernel,rfl,by decide +kernel,by decide +kernel⟩
theorem ok_nogoal {f C:Addr}{fd:FuncData}(F:Fun K "refuse_no_goal" "Books.refuse_no_goal" sNoGoal f fd)(L:Cl K mg C)(cN:Cal P w K mg base CX0 2 "refuse_no_name" ["thing"] spNoName)(mO:MCal P w K mg base CX0 2 C "is_one_of" ["self","name","words"] (spOneOf C K)):FnOk P w K mg base CX0 3 f fd ["self","source","goal"] (spNoGoal C):=by
 refine F.ok scNoGoal (fun vs H Q E h => ?_) (fun cdv A outer s H vs Q E hr h => ?_)
 ·obtain ⟨_,_,_,_,_,_,_,_,_,_,_,_,_,_,rfl,_⟩:=h
  rfl
 ·obtain ⟨l,p,dl,dt,db,bs,kvs,day,bf,M,n,zs,x,y,rfl,B,wy,ne,st,k⟩:=h
  refine ⟨_,(pss_cons (ps_expr (pe_cal cN hr rfl pass0 (pa_cons (pv 2) pa_nil)))
   (pss_one (ps_if (PW.pt (pw_or (pt_cmpR op_eq (pv 2) (pv 1) (nomark _)) (pw_or1 (pt_val (pe_mc L.cl mO hr pass0 (pv 0) (pa_cons (pv 2) (pa_cons (pe_tup (pa_cons pe_str (pa_cons pe_str pa_nil))) pa_nil))))))) (pss_one ps_no) pss_nil))),?_⟩
  refine ⟨_,rfl,y,rfl,wy,fun H1 s1 => ?_⟩
  have B1:=B.keep s1
  obtain ⟨⟨dx,h0⟩,hl,ht,hb,n6⟩:=id B1.bk
  refine ⟨_,rfl,_,rfl,rfl,_,rfl,?_⟩
  rw [decide_eq_false (fun z=>ne (by cases z; rfl))]
  refine iteF ⟨_,rfl,p,dx,_,rfl,h0,(by kernel_rfl),_,rfl,(by show 2<=sizeLine; decide),fun u hu => ?_⟩
  have t1:=Same.upd (o:=.tup [.str "lot",.str "dose"]) hu
  refine ⟨l,p,dl,dt,db,bs,kvs,day,bf,M,n,zs,y,u,["lot","dose"],rfl,B1.keep t1,wy,SqT.of upd_same,?_⟩
  by_cases hm:y ∈ zs.map Th.x
  ·obtain ⟨z,hz,rfl⟩:=List.mem_map.mp hm
   refine .inl ⟨z,hz,rfl,fun H2 s2 => ?_⟩
   rw [show decide (z.k ∈ (["lot","dose"]:List Str))=false by rw [st z hz rfl]; decide +kernel]
   exact ⟨_,rfl,iteF (k _ (s1.trans (t1.trans s2)))⟩
  ·exact .inr ⟨hm,fun H2 s2=>⟨_,rfl,iteF (k _ (s1.trans (t1.trans s2)))⟩⟩
theorem ndSt:(["lot","self"]:List Str).Nodup:=by decide +kernel
theorem scToPour:FnScope ["self","source","many","there","stale"] ["self","source","many"] (defScope sToPour):=⟨rfl,rfl,rfl,by decide +kernel,rfl,by decide +kernel,by decide +kernel⟩
theorem ok_topour {f C:Addr}{fd:FuncData}(F:Fun K "refuse_to_pour" "Books.refuse_to_pour" sToPour f fd)(T:Txt mg)(L:Cl K mg C)(mT:MCal P w K mg base CX0 5 C "total" ["self","name"] (spTot C)):FnOk P w K mg base CX0 6 f fd ["self","source","many"] (spToPour C):=by
 refine F.ok scToPour (fun vs H Q E h => ?_) (fun cdv A outer s H vs Q E hr h => ?_)
 ·obtain ⟨_,_,_,_,_,_,_,_,_,_,_,_,_,_,rfl,_⟩:=h
  rfl
 ·obtain ⟨l,p,dl,dt,db,bs,kvs,day,bf,M,n,zs,z,m,rfl,B,hz,le,fr,k⟩:=h
  refine ⟨_,(pss_cons (ps_set (i:=3) scToPour.nd rfl (Or.inl rfl) (pe_mc L.cl mT hr pass0 (pv 0) (pa_cons (pv 1) pa_nil)))
   (pss_cons (ps_if (pt_cmpR op_gt (pv 2) (pv 3) (nomark _)) (pss_one ps_no) pss_nil)
   (pss_cons (ps_compC (iy:=4) (N':=["lot","self"]) (fun σ=>[none,some 0].map fun t=>t.bind fun j=>(σ[j]?).join) rfl rfl (by decide +kernel) (by decide +kernel)
     (hk_of (sc:=defScope sToPour) rfl (by decide +kernel)) (fun _ _ _=>blkN_by (sc:=defScope sToPour) (N:=["self","source","many","there","stale"]) [none,some 0] rfl rfl rfl rfl (by decide +kernel))
     (pi_list (pe_callB (call_sortDS rfl) rfl T.sorted' boot_sorted (pa_cons (pe_ix ix_tup (pe_dget (hu_of hr) (pe_fld (pv 0) rfl) (pv 1) (fun _ _=>rfl)) pe_int (fun _ _=>rfl)) pa_nil))) (fun _ _ _ _ _ _=>pg_name (i:=0) ndSt rfl (Or.inl rfl))
     (fun _ _ _ _ _ _=>pifs_one (pt_cmpR op_lt (pe_ix (ix_tupK (K:=K) rfl) (pe_dget (hu_of hr) (pe_fldK (K:=K) rfl (pv 1) rfl) (pv 0) (fun _ _=>rfl)) pe_int (fun _ _=>rfl)) (pe_fldK (K:=K) rfl (pv 1) rfl) (nomark _)))
     (fun _ _ _ _ _ _=>pv 0) scToPour.nd rfl (Or.inl rfl) (Or.inl rfl) rfl)
   (pss_one (ps_if (pt_cmpR (op_neE hr.units) (pv 4) (pe_lst pa_nil) (nomark _)) (pss_one ps_no) pss_nil))))),?_⟩
  obtain ⟨⟨dx,h0⟩,hl,ht,hb,n6⟩:=id B.bk
  refine ⟨_,rfl,p,dx,_,rfl,h0,(by kernel_rfl),_,rfl,l,p,dl,dt,db,bs,kvs,day,bf,M,n,zs,z,rfl,B,hz,fun H1 s1 => ?_⟩
  have B1:=B.keep s1
  refine ⟨_,rfl,_,rfl,_,_,rfl,rfl,_,rfl,?_⟩
  rw [decide_eq_false (show ¬ m > z.T by omega)]
  refine iteF ?_
  obtain ⟨q,d1,d2,ev,tq,o1,o2⟩:=B1.at hz
  obtain ⟨kv,ks,e1,ha,mem⟩:=tq.hd
  have to:=B.g.ok z hz
  have kl:=to.len ha mem
  have n60:=B.g.n60
  have tl:=to.ln
  have gv:DGet H1 dt (.str z.x) (some (.ref q)):=by rw [<- ev]; exact DGet.k (k:=.inr z.x) (s1 _ _ ht)
  refine ⟨_,rfl,p,C,dx,_,_,rfl,s1 _ _ h0,L.cl,L.nT,flds_things,_,rfl,dt,_,rfl,gv,q,_,_,_,rfl,rfl,SqT.of tq.hq,rfl,d1,kv,ks,rfl,e1,ha.dk.keys,by rw [ha.dk.len]; omega,fun a ss pm so hz' => ?_⟩
  have t2:=Same.upd (o:=.lst (ss.map V.str)) hz'
  have sl:=pm.length_eq
  refine ⟨a,rfl,⟨_,SqL.of upd_same⟩,fun D hD => ?_⟩
  refine comp_filt (Ys.list (xs:=ss.map V.str) (SqL.of upd_same)) (fun _=>false) (fun _ _ _=>False) (fun _ _ _ _ h _=>h) hD (by rw [List.length_map]; omega) (fun i y H' R1 R2 hy sm r1 r2 => ?_) (fun ys H5 sm hD5 yl hy => ?_)
  ·rw [List.getElem?_map] at hy
   obtain ⟨x,hx,rfl⟩:=Option.map_eq_some_iff.mp hy
   have s3:=t2.trans sm
   have hxk:=(mem x).mp (pm.mem_iff.mp (List.mem_of_getElem? hx))
   obtain ⟨u,lu,hu,rfl,uk,ul⟩:=B.g.lst hz hxk
   obtain ⟨q',_,_,ev',tq',_⟩:=(B1.keep s3).at hu
   have hq':=tq'.hq
   rw [ul] at hq'
   have gv:DGet H' dt (.str u.x) (some (.ref q')):=by rw [<- ev']; exact DGet.k (k:=.inr u.x) (s3 _ _ (s1 _ _ ht))
   refine ⟨(Keep.refl _).set rfl,_,rfl,p,C,dx,_,_,rfl,s3 _ _ (s1 _ _ h0),L.cl,L.nT,flds_things,_,rfl,dt,_,rfl,gv,q',_,_,_,rfl,rfl,SqT.of hq',rfl,_,rfl,p,C,dx,_,_,rfl,s3 _ _ (s1 _ _ h0),L.cl,L.nD,flds_day,_,_,rfl,rfl,_,rfl,?_⟩
   rw [decide_eq_false (show ¬ lu < day by have:=fr u.x hxk lu ⟨u,hu,rfl,uk,ul⟩; omega)]
   exact iteF (r2 rfl _ (Same.refl _))
  ·have y0:ys=[]:=List.eq_nil_of_length_eq_zero (by rw [yl,List.filter_eq_nil_iff.mpr (fun _ _=>by simp)]; rfl)
   subst y0
   refine ⟨_,rfl,(by show 0<=sizeLine; decide),fun b hb' => ?_⟩
   have t5:=Same.upd (o:=.lst []) hb'
   refine ⟨D,b,[],rfl,rfl,SqL.of (t5 _ _ hD5),SqL.of upd_same,_,rfl,iteF (k _ ((s1.trans (t2.trans sm)).trans t5))⟩
end
end K76
namespace L2
open PySem PySem.Spec PyProof.Rows
def rNeDE:R2:=fun x y H Q=>∃ a b ka,x = .ref a/\y = .ref b/\H a=some (.dK ka)/\H b=some (.dK [])/\Q (.bl (!ka.isEmpty)) H
theorem op_neDE {X:Cx}(hu:X.A.units+64 < cLine):OpR X (compareOp .NotEq) rNeDE:=by
 intro pins s σ H x y v u Q I rx ry h
 obtain ⟨a,b,ka,rfl,rfl,ha,hb,q⟩:=h
 cases rx; cases ry
 obtain ⟨_,la,va,ra,da⟩:=dk_of I.hok ha
 obtain ⟨_,lb,vb,rb,db⟩:=dk_of I.hok hb
 have l1:=ra.length
 have l2:=rb.length
 refine PySem.W.keq_ne la lb da db (by omega) (fun e=>hits_of I (by show X.A.units+1+30 < cLine; omega) rb ra fun kv hkv => ?_) ?_
 ·have:ka.length=0:=by simp at l2; omega
  rw [List.length_eq_zero_iff.mp this] at hkv
  cases hkv
 ·have e:(!(va.length == vb.length && true)) = !ka.isEmpty:=by
   rw [<- l1,<- l2]
   cases ka <;> simp
  rw [e]
  exact ⟨.bl _,H,I,rfl,q⟩
def rEqDE:R2:=fun x y H Q=>∃ a b ka,x = .ref a/\y = .ref b/\H a=some (.dK ka)/\H b=some (.dK [])/\Q (.bl ka.isEmpty) H
theorem op_eqDE {X:Cx}(hu:X.A.units+64 < cLine):OpR X (compareOp .Eq) rEqDE:=by
 intro pins s σ H x y v u Q I rx ry h
 obtain ⟨a,b,ka,rfl,rfl,ha,hb,q⟩:=h
 cases rx; cases ry
 obtain ⟨_,la,va,ra,da⟩:=dk_of I.hok ha
 obtain ⟨_,lb,vb,rb,db⟩:=dk_of I.hok hb
 have l1:=ra.length
 have l2:=rb.length
 refine PySem.W.keq_eq la lb da db (by omega) (fun e=>hits_of I (by show X.A.units+1+30 < cLine; omega) rb ra fun kv hkv => ?_) ?_
 ·have:ka.length=0:=by simp at l2; omega
  rw [List.length_eq_zero_iff.mp this] at hkv
  cases hkv
 ·have e:(va.length == vb.length && true)=ka.isEmpty:=by
   rw [<- l1,<- l2]
   cases ka <;> simp
  rw [e]
  exact ⟨.bl _,H,I,rfl,q⟩
theorem call_lenDK {X:Cx}:CallR X (.builtin "len") (fun xs H Q=>∃ d kvs,xs=[.ref d]/\H d=some (.dK kvs)/\Q (.int kvs.length) H):=by
 intro pins s σ H xs us Q I r h
 obtain ⟨d,kvs,rfl,hH,q⟩:=h
 obtain ⟨u,rfl,rx⟩:=vals1 r
 cases rx
 exact d_len I (.inl hH) fun t s' I'=>⟨.int kvs.length,H,I',⟨t,rfl⟩,q⟩
end L2
namespace L2
open PySem PySem.Spec PyProof.Rows
def EqIn (P:Program)(w:World)(A:Around)(s:Shared)(y x:Value):Prop:=∀ (E:Value->Shared->Prop) (Q:Bool->Shared->Prop),Q true s->wpAny (model P w) A (eqBool y x) Q E s
section
open AutoSeq1 MeetsSeq MeetsSeq2 MeetsSeq3 SeqAt
variable {P:Program}{w:World}
end
section
variable {X:Cx}
def rNeLD (K:PySem.W.Frag):R2:=fun x y H Q=>∃ a b xs ys,x = .ref a/\y = .ref b/\SqL K H a xs/\SqL K H b ys/\xs.length=ys.length /\
 (∀ (j:Nat) x y,xs[j]?=some x->ys[j]?=some y->∃ da db ka kb,x = .ref da/\y = .ref db/\Rd H da (.dK ka)/\Rd H db (.dK kb)/\DDeq K H ka kb)/\Q (.bl false) H
end
end L2
namespace HT
open PySem PyProof.Rows
def lexLtS:List Str->List Str->Bool
 | [],[]=>false
 | [],_ :: _=>true
 | _ :: _,[]=>false
 | x :: xs,y :: ys=>if x=y then lexLtS xs ys else decide (x.cps.toList < y.cps.toList)
section
open PySem.SeqAt
open PySem.AutoSeq1 (wpAny_loadPart')
open PySem.MeetsSeq PySem.MeetsSeq2 PySem.MeetsSeq3
end
section
variable {prog:Program}{w:World}{A:Around}{E:Value->Shared->Prop}{s:Shared}
end
end HT
namespace L2
open PySem PySem.Spec PyProof.Rows
section
variable {X:Cx}
def rLtTS (K:PySem.W.Frag):R2:=fun x y H Q=>∃ a b ns ms,x = .ref a/\y = .ref b/\SqT K H a (ns.map V.str)/\SqT K H b (ms.map V.str)/\Q (.bl (HT.lexLtS ns ms)) H
end
end L2
namespace HT
open PySem PySem.Spec PyProof.Rows
section
variable {prog:Program}{w:World}{A:Around}{E:Value->Shared->Prop}{s:Shared}
theorem cat_tup0 {t b:Addr}{ws:List Value}{Q:Value->Shared->Prop}(ht:IsTup s.heap t #[])(hb:IsTup s.heap b ws.toArray)(h:Q (.ref b) s):wpAny (model prog w) A (binaryOp .Add (.ref t) (.ref b)) Q E s:=by
 obtain ⟨⟨cls,dd,data,sl⟩,ho,hc,n,hd⟩:=id ht
 obtain ⟨⟨cls2,dd2,data2,sl2⟩,ho2,hc2,n2,hd2⟩:=id hb
 simp only at hc hd hc2 hd2
 subst hc hd hc2 hd2
 exact concat_meets ⟨_,ho,rfl⟩ ⟨_,ho2,rfl⟩ noFill_tuple_add seq_tuple_add PySem.F.slot_tuple_add PySem.F.entry_tuple_add (PySem.F.args_tuple_add_2 _ _)
   (tuple_addW0 t b #[] ws.toArray n n2 dd dd2 sl sl2 (by simp)) ⟨ho,ho2,h⟩
end
end HT
namespace L2
open PySem PySem.Spec PyProof.Rows
section
variable {X:Cx}
def rCatT0 (K:PySem.W.Frag):R2:=fun x y H Q=>∃ a b ys,x = .ref a/\y = .ref b/\SqT K H a []/\SqT K H b ys/\Q (.ref b) H
theorem op_catT0:OpR X (binaryOp .Add) (rCatT0 X.K):=by
 intro pins s σ H x y v u Q I rx ry h
 obtain ⟨a,b,ys,rfl,rfl,ha,hb,q⟩:=h
 cases rx
 cases ry
 obtain ⟨its,r1,p1,_⟩:=I.tuple ha
 obtain ⟨its2,r2,p2,_⟩:=I.tuple hb
 cases r1
 exact HT.cat_tup0 p1 p2 ⟨.ref b,H,I,rfl,q⟩
def rCatTA (K:PySem.W.Frag):R2:=fun x y H Q=>rCatT0 K x y H Q\/rCatT K x y H Q
theorem op_catTA:OpR X (binaryOp .Add) (rCatTA X.K):=by
 intro pins s σ H x y v u Q I rx ry h
 rcases h with h | h
 ·exact op_catT0 pins s σ H x y v u Q I rx ry h
 ·exact op_catT pins s σ H x y v u Q I rx ry h
def rRepT (K:PySem.W.Frag):R2:=fun x y H Q=>∃ a k xs,x = .ref a/\y = .int k/\SqT K H a xs/\xs ≠ []/\2<=k/\k<=1000/\xs.length<=1000/\∀ p,H p=none->Q (.ref p) (upd H p (.tup (List.replicate k.toNat xs).flatten))
end
end L2
namespace HT
open PySem PySem.Spec PyProof.Rows
section
variable {prog:Program}{w:World}{A:Around}{E:Value->Shared->Prop}{s:Shared}
end
end HT
namespace L2
open PySem PySem.Spec PyProof.Rows
section
variable {X:Cx}
def rRepTA (K:PySem.W.Frag):R2:=fun x y H Q=>∃ a k xs,x = .ref a/\y = .int k/\SqT K H a xs/\xs ≠ []/\1<=k/\k<=1000/\xs.length<=1000/\(k=1->Q (.ref a) H)/\(2<=k->∀ p,H p=none->Q (.ref p) (upd H p (.tup (List.replicate k.toNat xs).flatten)))
def rCatTB (K:PySem.W.Frag):R2:=fun x y H Q=>∃ a b xs ys,x = .ref a/\y = .ref b/\SqT K H a xs/\H b=some (.tup ys)/\ys ≠ []/\xs.length+ys.length<=sizeLine/\∀ p H',Same H H'->H' p=some (.tup (xs ++ ys))->Q (.ref p) H'
theorem op_catTB:OpR X (binaryOp .Add) (rCatTB X.K):=by
 intro pins s σ H x y v u Q I rx ry h
 obtain ⟨a,b,xs,ys,rfl,rfl,ha,hb,hy,hz,q⟩:=h
 refine op_catTA pins s σ H _ _ v u Q I rx ry ?_
 by_cases e:xs=[]
 ·subst e
  exact .inl ⟨a,b,ys,rfl,rfl,ha,SqT.of hb,q b H (Same.refl _) (by rw [List.nil_append]; exact hb)⟩
 ·exact .inr ⟨a,b,xs,ys,rfl,rfl,ha,SqT.of hb,e,hz,fun z=>absurd z hy,fun _ p hp=>q p _ (Same.upd hp) upd_same⟩
end
end L2
namespace K76
open PySem PySem.Spec PyProof.Rows L2 GM TM
theorem Fr.unscale {M t b n c:Int}(hc:0 < c)(h:Fr (M*c) t b (n*c)):Fr M t b n:=⟨h.am,by
 have e:=h.e
 refine Int.eq_of_mul_eq_mul_right (show c ≠ 0 by omega) ?_
 grind⟩
theorem HA.unscale {H:Hp}{kvs:List (Key × V)}{ks:List Str}{M c:Int}{f:Str->Int}(hc:0 < c)(h:HA H kvs ks (M*c) (fun y=>f y*c)):HA H kvs ks M f:=⟨h.dk,fun y hy=>by
 obtain ⟨p,t,b,e1,e2,e3⟩:=h.am y hy
 exact ⟨p,t,b,e1,e2,Fr.unscale hc e3⟩,fun y hy=>(Int.mul_eq_zero.mp (h.out y hy)).elim id (by omega)⟩
theorem key_e {t:TE}{σ:L2.St}{H:Hp}{Q:VK}(S:V->Hp->Prop)(g : ∀ Q':VK,(∀ v H',S v H'->Q' v H')->t σ H Q')(h : ∀ v H',S v H'->Q v H'):t σ H Q:=g Q h
def Th.left (s:Th)(m:Int):Th:={ s with f:=fun y=>s.f y*(s.T - m),ks:=if m < s.T then s.ks else [],T:=s.T - m }
def Th.got (g s:Th)(m:Int)(n:Nat):Th:={ g with f:=fun y=>g.f y*s.T+s.f y*m,ks:=g.ks ++ s.ks.filter (fun y=>decide (y ∉ g.ks)),T:=g.T+m,w:=fun y=>if y ∈ g.ks then g.w y else s.w y ++ [(n:Int)] }
def Th.ves (x k:Str):Th:={ x:=x,k:=k,l:=none,ks:=[],f:=fun _=>0,T:=0,w:=fun _=>[] }
theorem got_mem {g s:Th}{m:Int}{n:Nat}{y:Str}:y ∈ (g.got s m n).ks ↔ y ∈ g.ks\/y ∈ s.ks:=by
 show y ∈ g.ks ++ s.ks.filter (fun y=>decide (y ∉ g.ks)) ↔ _
 rw [List.mem_append,List.mem_filter]
 by_cases h:y ∈ g.ks <;> simp [h]
def spNewV:Sp:=fun vs H Q _=>∃ k:Str,vs=[.str k]/\∀ q d1 d2 H',Same H H'->H d1=none->H d2=none->H' q=some (.tup [.str k,.non,.ref d1,.ref d2])->H' d1=some (.dK [])->H' d2=some (.dK [])->Q (.ref q) H'
def spWith:Sp:=fun vs H Q _=>∃ q a b v1 v2 v3 v4,vs=[.ref q,v3,v4]/\H q=some (.tup [v1,v2,a,b])/\∀ r,H r=none->Q (.ref r) (upd H r (.tup [v1,v2,v3,v4]))
structure PoIn (H:Hp)(M m:Int)(n:Nat)(qs s1 s2 qg g1 g2:Addr)(s g:Th):Prop where
 ts:Tq H M n qs s1 s2 s
 tg:Tq H M n qg g1 g2 g
 os:TOk M n s
 og:TOk M n g
 m1:1<=m
 mT:m<=s.T
 mb:m<=1000000
 M0:0 < M
 bM:Bt 1360 M
 n60:n<=51
def spPoured:Sp:=fun vs H Q _=>∃ (M m:Int) (n:Nat) (qs s1 s2 qg g1 g2:Addr) (s g:Th),vs=[.ref qs,.ref qg,.int m,.int n]/\PoIn H M m n qs s1 s2 qg g1 g2 s g /\
 ∀ r ql a1 a2 qr b1 b2 H',Same H H'->H' r=some (.tup [.ref ql,.ref qr])->Tq H' (M*s.T) (n+1) ql a1 a2 (s.left m)->Tq H' (M*s.T) (n+1) qr b1 b2 (g.got s m n)->H a1=none->(a2=s2\/H a2=none)->H b1=none->H b2=none->Q (.ref r) H'
section
variable {P:Program}{w:World}{K:PySem.W.Frag}{mg:Str->Option Value}{base:Heap}
theorem scNewV:FnScope ["word"] ["word"] (defScope sNewV):=⟨rfl,rfl,rfl,by decide +kernel,rfl,by decide +kernel,by decide +kernel⟩
theorem ok_newv {f:Addr}{fd:FuncData}(F:Fun K "new_vessel" "new_vessel" sNewV f fd):FnOk P w K mg base CX0 1 f fd ["word"] spNewV:=by
 refine F.ok scNewV (fun vs H Q E h => ?_) (fun cdv A outer s H vs Q E hr h => ?_)
 ·obtain ⟨_,rfl,_⟩:=h
  rfl
 ·obtain ⟨k0,rfl,k⟩:=h
  refine ⟨_,(pss_one (ps_ret (pe_tup (pa_cons (pv 0) (pa_cons pe_non (pa_cons pe_dnewK (pa_cons pe_dnewK pa_nil))))))),?_⟩
  refine ⟨_,rfl,fun d1 h1 d2 h2=>⟨(by show 4<=sizeLine; decide),fun q hq => ?_⟩⟩
  have s1:=Same.upd (o:=.dK []) h1
  have s2:=Same.upd (o:=.dK []) h2
  have s3:=Same.upd (o:=.tup [.str k0,.non,.ref d1,.ref d2]) hq
  exact k q d1 d2 _ ((s1.trans s2).trans s3) h1 (same_none s1 h2) upd_same (s3 _ _ (s2 _ _ upd_same)) (s3 _ _ upd_same)
theorem scWith:FnScope ["thing","holding","ways"] ["thing","holding","ways"] (defScope sWith):=⟨rfl,rfl,rfl,by decide +kernel,rfl,by decide +kernel,by decide +kernel⟩
theorem ok_with {f:Addr}{fd:FuncData}(F:Fun K "with_holding" "with_holding" sWith f fd):FnOk P w K mg base CX0 1 f fd ["thing","holding","ways"] spWith:=by
 refine F.ok scWith (fun vs H Q E h => ?_) (fun cdv A outer s H vs Q E hr h => ?_)
 ·obtain ⟨_,_,_,_,_,_,_,rfl,_⟩:=h
  rfl
 ·obtain ⟨q,a,b,v1,v2,v3,v4,rfl,hq,k⟩:=h
  refine ⟨_,(pss_one (ps_ret (pe_tup (pa_cons (pit 0 0) (pa_cons (pit 0 1) (pa_cons (pv 1) (pa_cons (pv 2) pa_nil))))))),?_⟩
  exact ⟨q,_,_,rfl,SqT.of hq,rfl,q,_,_,rfl,SqT.of hq,rfl,_,rfl,_,rfl,(by show 4<=sizeLine; decide),fun r hr'=>k r hr'⟩
theorem scPoured:FnScope ["source","goal","many","number","shares","ways","lot","left"] ["source","goal","many","number"] (defScope sPoured):=⟨rfl,rfl,rfl,by decide +kernel,rfl,by decide +kernel,by decide +kernel⟩
theorem ok_poured {f:Addr}{fd:FuncData}(F:Fun K "poured" "poured" sPoured f fd)(T:Txt mg)(cS:Cal P w K mg base CX0 5 "shared" ["holding","many"] (spShared K))(cP:Cal P w K mg base CX0 5 "put_together" ["one","other"] spPut)(cW:Cal P w K mg base CX0 5 "with_holding" ["thing","holding","ways"] spWith):FnOk P w K mg base CX0 6 f fd ["source","goal","many","number"] spPoured:=by
 refine F.ok scPoured (fun vs H Q E h => ?_) (fun cdv A outer s0 H vs Q E hr h => ?_)
 ·obtain ⟨_,_,_,_,_,_,_,_,_,_,_,rfl,_⟩:=h
  rfl
 ·obtain ⟨M,m,n,qs,s1,s2,qg,g1,g2,s,g,rfl,B,k⟩:=h
  refine ⟨_,(pss_cons (ps_set (i:=4) scPoured.nd rfl (Or.inl rfl) (pe_cal cS hr rfl pass0 (pa_cons (pit 0 2) (pa_cons (pv 2) pa_nil))))
   (pss_cons (ps_set (i:=5) scPoured.nd rfl (Or.inl rfl) (pe_callTy call_dictD rfl T.dict' bt_dict (pa_cons (pit 1 3) pa_nil)))
   (pss_cons (ps_thaw (ps_for PassesOwn.never rfl (pi_dict (pit 4 0)) (pg_name (i:=6) scPoured.nd rfl (Or.inl rfl))
    (pss_one (ps_if (pt_cmp (pc_dnotin (hu_of hr) (pv 6) (pv 5)))
     (pss_one (ps_dput (hu_of hr) (pv 5) (pv 6) (pe_op op_catTB (pe_dget (hu_of hr) (pit 0 3) (pv 6) (fun _ _=>rfl)) (pe_tup (pa_cons (pv 3) pa_nil))) rfl))
     pss_nil))))
   (pss_cons (ps_set (i:=7) scPoured.nd rfl (Or.inl rfl) (pe_cal cW hr rfl pass0 (pa_cons (pv 0) (pa_cons (pit 4 1) (pa_cons (pe_ifExp (pt_cmpR (op_neDE hr.units) (pit 4 1) pe_dnewK (nomark _)) (pit 0 3) pe_dnewK) pa_nil)))))
   (pss_one (ps_ret (pe_tup (pa_cons (pv 7) (pa_cons (pe_cal cW hr rfl pass0 (pa_cons (pv 1) (pa_cons (pe_cal cP hr rfl pass0 (pa_cons (pit 1 2) (pa_cons (pit 4 0) pa_nil))) (pa_cons (pv 5) pa_nil)))) pa_nil))))))))),?_⟩
  obtain ⟨ts,tg,os,og,m1,mT,mb,M0,bM,n60⟩:=B
  obtain ⟨hqs,⟨kvs,ks,e1,ha,mem⟩,⟨sw,w1,wy⟩⟩:=ts
  obtain ⟨hqg,⟨kvg,kg,ge1,hga,gmem⟩,⟨gw,gw1,gwy⟩⟩:=tg
  have es:=os.hsum ha mem
  have kl:=os.len ha mem
  have gl:=og.len hga gmem
  have sl:=os.ln
  have gln:=og.ln
  have T1:1<=s.T:=by omega
  have bTs:Bt 26 s.T:=bT os.T0 os.Tb (by omega)
  have bTg:Bt 26 g.T:=bT og.T0 og.Tb (by omega)
  refine ⟨qs,_,_,rfl,SqT.of hqs,rfl,_,rfl,s1,kvs,ks,M,m,s.f,rfl,⟨e1,ha,fun y hy=>os.pos y ((mem y).mp hy),M0,m1,?_,by omega,bM.mono (by decide),(bt_lt 20 (c:=1048576) (by omega) (by omega)).mono (by decide),?_⟩,fun r dg ds kdg kds gs tss H1 sm1 fg fs sh => ?_⟩
  ·rw [es]
   exact Int.mul_le_mul_of_nonneg_right mT (by omega)
  ·rw [es]
   exact (bTs.mul bM).mono (by decide)
  obtain ⟨hr1,hdg,hds,ag,at',mgs,mts,lgs,lts⟩:=sh
  rw [es] at ag at' mts
  have ec:s.T*M=M*s.T:=Int.mul_comm _ _
  rw [ec] at ag at' mts
  have lt_iff:m*M < M*s.T ↔ m < s.T:=by
   rw [Int.mul_comm m M]
   exact ⟨fun h=>Int.lt_of_mul_lt_mul_left h (by omega),fun h=>Int.mul_lt_mul_of_pos_left h M0⟩
  refine ⟨qg,_,_,rfl,SqT.of (sm1 _ _ hqg),rfl,g2,gw,rfl,.inl (sm1 _ _ gw1),fun dw hdw => ?_⟩
  have t2:=Same.upd (o:=.dK gw) hdw
  have sm2:=sm1.trans t2
  refine ⟨r,_,_,rfl,SqT.of (t2 _ _ hr1),rfl,dg,kdg,rfl,t2 _ _ hdg,fun ob => ?_⟩
  have ndw:dg ≠ dw:=fun z=>by rw [z,hdw] at hdg; cases hdg
  have dw0:H dw=none:=same_none sm1 hdw
  have hdw2:(upd H1 dw (.dK gw)) dw=some (.dK gw):=upd_same
  generalize hH2:upd H1 dw (.dK gw)=H2 at *
  have hfz:(upd H2 dg (.frz ob (.dK kdg))) dg=some (.frz ob (.dK kdg)):=upd_same
  have old : ∀ b o,H2 b=some o->b ≠ dg->(upd H2 dg (.frz ob (.dK kdg))) b=some o:=fun b o e nb=>by rw [upd_ne nb]; exact e
  have tkf:Tk H2 (upd H2 dg (.frz ob (.dK kdg))):=Tk.dk (t2 _ _ hdg)
  have hdw3:=old _ _ hdw2 (Ne.symm ndw)
  have ns2:s2 ≠ dg:=fun z=>by rw [z,fg] at w1; cases w1
  have ns2w:s2 ≠ dw:=fun z=>by rw [z,dw0] at w1; cases w1
  have hs2:=old _ _ (sm2 _ _ w1) ns2
  have hqs3:=tkf _ _ (sm2 _ _ hqs)
  have wy3:=(wy.keep sm2.tk (Nat.le_refl n)).keep tkf (Nat.le_refl n)
  have gwy3:=(gwy.keep sm2.tk (Nat.le_refl n)).keep tkf (Nat.le_refl n)
  have back : ∀ {H':Hp},(∀ b o,b ≠ dw->(upd H2 dg (.frz ob (.dK kdg))) b=some o->H' b=some o)->∀ b o,b ≠ dw->H2 b=some o->(upd H' dg (.dK kdg)) b=some o:=fun {H'} hh b o nb e=>by
   by_cases z:b=dg
   ·subst z
    rw [t2 _ _ hdg] at e
    cases e
    exact upd_same
   ·rw [upd_ne z]
    exact hh b o nb (old b o e z)
  generalize upd H2 dg (.frz ob (.dK kdg))=H3 at hfz old tkf hdw3 hs2 hqs3 wy3 gwy3 back ⊢
  refine for_dict (fun i σ H'=>∃ (ws:List (Key × V)) (wk:List Str) (v6:Option V),σ=[some (.ref qs),some (.ref qg),some (.int m),some (.int n),some (.ref r),some (.ref dw),v6,none]/\H' dw=some (.dK ws)/\DK ws wk/\(∀ y,y ∈ wk ↔ y ∈ g.ks\/y ∈ gs.take i)/\wk.length<=n+i/\(∀ y ∈ wk,∃ e,valV ws (.inr y)=some (.ref e)/\H' e=some (.tup (((g.got s m n).w y).map V.int))/\((g.got s m n).w y).length<=n+1)/\∀ b o,b ≠ dw->H3 b=some o->H' b=some o) ?_ ?_ ?_ ?_
  ·obtain ⟨wk,dk,wm⟩:=gwy3.dk
   refine ⟨gw,wk,none,rfl,hdw3,dk,fun y=>by rw [wm]; simp,?_,fun y hy => ?_,fun _ _ _ e=>e⟩
   ·have:=((List.perm_ext_iff_of_nodup dk.nd og.nd).mpr wm).length_eq
    omega
   ·have hyg:=(wm y).mp hy
    obtain ⟨e,v1,v2,v3⟩:=gwy3.at' y hyg
    have ew:(g.got s m n).w y=g.w y:=if_pos hyg
    rw [ew]
    exact ⟨e,v1,v2,by omega⟩
  ·rintro i σ H' _ ⟨_,_,_,rfl,_,_,_,_,_,s3⟩
   exact s3 _ _ ndw hfz
  ·rintro i ⟨kk,kv⟩ σ H' hkv ⟨ws,wk,v6,rfl,hw',dk,wm,wl,wv,s3⟩
   obtain ⟨y,hy,ey⟩:=ag.dk.at hkv
   cases ey
   have hys:=(mem y).mp ((mgs y).mp (List.mem_of_getElem? hy))
   have hi:=(List.getElem?_eq_some_iff.mp hy).1
   have tk3:Tk H3 H':=fun b xs e=>s3 _ _ (fun z=>by rw [z,hdw3] at e; cases e) e
   refine ⟨_,rfl,_,rfl,dw,_,rfl,DGet.k (k:=.inr y) hw',_,rfl,?_⟩
   by_cases hm:y ∈ wk
   ·have vs:(valV ws (Sum.inr y)).isSome=true:=(dk.get y).mpr hm
    rw [vs]
    refine iteF ⟨ws,wk,_,rfl,hw',dk,fun z => ?_,by omega,wv,s3⟩
    rw [wm,take_snoc hy]
    have:=(wm y).mp hm
    constructor
    ·rintro (q | q)
     ·exact .inl q
     ·exact .inr (List.mem_append_left _ q)
    ·rintro (q | q)
     ·exact .inl q
     ·rcases List.mem_append.mp q with q | q
      ·exact .inr q
      ·rw [List.mem_singleton] at q
       rw [q]
       exact this
   ·have vn:(valV ws (Sum.inr y)).isSome=false:=Bool.eq_false_iff.mpr fun z=>hm ((dk.get y).mp z)
    rw [vn]
    obtain ⟨e,v1,v2,v3⟩:=wy3.at' y hys
    have gv:DGet H' s2 (.str y) (some (.ref e)):=by rw [<- v1]; exact DGet.k (k:=.inr y) (s3 _ _ ns2w hs2)
    refine iteT ⟨qs,_,_,rfl,SqT.of (s3 _ _ (fun z=>by rw [z,hdw3] at hqs3; cases hqs3) hqs3),rfl,_,rfl,s2,_,rfl,gv,_,rfl,(by show 1<=sizeLine; decide),fun c hc => ?_⟩
    have t4:=Same.upd (o:=.tup [.int n]) hc
    refine ⟨e,c,_,_,rfl,rfl,SqT.of (t4 _ _ (tk3 _ _ v2)),upd_same,by simp,?_,fun a H5 s5 ha5 => ?_⟩
    ·rw [List.length_map]
     show (s.w y).length+1<=sizeLine
     exact Nat.le_of_lt (small1000 (by omega))
    have hw5:=s5 _ _ (t4 _ _ hw')
    refine ⟨_,rfl,_,rfl,dw,_,rfl,DPut.k (k:=.inr y) hw5 (small1000 (by rw [dk.len]; omega)),?_⟩
    obtain ⟨wk',dk',wm',wl'⟩:=dk.put y (.ref a)
    have tk5:Tk H5 (upd H5 dw (.dK (putK ws (Sum.inr y) (.ref a)))):=Tk.dk hw5
    have ew:(g.got s m n).w y=s.w y ++ [(n:Int)]:=if_neg fun z=>hm ((wm y).mpr (.inl z))
    refine ⟨_,wk',_,rfl,upd_same,dk',fun z => ?_,by omega,fun z hz => ?_,fun b o nb e'=>by rw [upd_ne nb]; exact s5 _ _ (t4 _ _ (s3 _ _ nb e'))⟩
    ·rw [wm',wm,take_snoc hy,List.mem_append,List.mem_singleton]
     exact or_assoc
    ·rw [valV_put]
     by_cases e':z=y
     ·subst e'
      rw [if_pos rfl,ew]
      refine ⟨a,rfl,?_,by rw [List.length_append]; show (s.w z).length+1<=n+1; omega⟩
      rw [List.map_append]
      exact tk5 _ _ ha5
     ·rw [if_neg (fun q=>e' (Sum.inr.inj q))]
      obtain ⟨e0,u1,u2,u3⟩:=wv z (((wm' z).mp hz).elim id fun q=>absurd q e')
      exact ⟨e0,u1,tk5 _ _ (s5 _ _ (t4 _ _ u2)),u3⟩
  ·rintro σ H' ⟨ws,wk,v6,rfl,hw',dk,wm,wl,wv,s3⟩
   rw [ag.dk.len,List.take_length] at wm
   have hdg':=s3 _ _ ndw hfz
   refine ⟨dg,ob,kdg,hdg',(fun o u z=>by have z':H dg=some (.frz o u):=z; rw [fg] at z'; cases z'),?_⟩
   have bk:=back s3
   have hdwF:(upd H' dg (.dK kdg)) dw=some (.dK ws):=by rw [upd_ne (Ne.symm ndw)]; exact hw'
   have tkF:Tk H' (upd H' dg (.dK kdg)):=Tk.frz hdg'
   have wvF : ∀ y ∈ wk,∃ e,valV ws (.inr y)=some (.ref e)/\(upd H' dg (.dK kdg)) e=some (.tup (((g.got s m n).w y).map V.int))/\((g.got s m n).w y).length<=n+1:=fun y hy=>by
    obtain ⟨e,u1,u2,u3⟩:=wv y hy
    exact ⟨e,u1,tkF _ _ u2,u3⟩
   generalize upd H' dg (.dK kdg)=H4 at bk hdwF wvF ⊢
   have sm4:Same H H4:=fun b o e=>bk b o (fun z=>by rw [z,dw0] at e; cases e) (sm2 _ _ e)
   have s14 : ∀ b o,b ≠ dw->H1 b=some o->H4 b=some o:=fun b o nb e=>bk b o nb (t2 _ _ e)
   have tk14:Tk H1 H4:=fun b xs e=>s14 b _ (fun z=>by rw [z,hdw] at e; cases e) e
   have nds:ds ≠ dw:=fun z=>by rw [z,hdw] at hds; cases hds
   have hr4:=tk14 _ _ hr1
   have hds4:=s14 _ _ nds hds
   have hdg4:=s14 _ _ ndw hdg
   have AG:=ag.keep tk14
   have AT:=at'.keep tk14
   have AT2:HA H4 kds tss (M*s.T) (fun y=>s.f y*(s.T - m)):=by
    have e:M*(M*s.T)=M*s.T*M:=by grind
    rw [e] at AT
    exact HA.unscale M0 (AT.congr fun y=>by grind)
   have AGg:=(hga.keep sm4.tk).scale s.T
   have hls : ∀ y,y ∈ (s.left m).ks ↔ y ∈ ks/\m < s.T:=fun y=>by
    show y ∈ (if m < s.T then s.ks else []) ↔ _
    by_cases q:m < s.T
    ·rw [if_pos q,mem]; exact ⟨fun h=>⟨h,q⟩,fun h=>h.1⟩
    ·rw [if_neg q]; exact ⟨fun h=>(nomatch h),fun h=>absurd h.2 q⟩
   have gmul : ∀ y,0<=g.f y:=fun y=>hga.nonneg M0 y
   have smul : ∀ y,0<=s.f y:=fun y=>ha.nonneg M0 y
   have gsum : ∀ y,g.f y<=g.T*M:=fun y=>by
    by_cases hy:y ∈ kg
    ·rw [<- og.hsum hga gmem]; exact sum_mem gmul hy
    ·rw [hga.out y hy]; exact Int.mul_nonneg og.T0 (by omega)
   have ssum : ∀ y,s.f y<=s.T*M:=fun y=>by
    by_cases hy:y ∈ ks
    ·rw [<- es]; exact sum_mem smul hy
    ·rw [ha.out y hy]; exact Int.mul_nonneg os.T0 (by omega)
   have ksne:ks ≠ []:=fun z=>by
    rw [z] at es
    have:0 < s.T*M:=Int.mul_pos (by omega) M0
    have e0:(0:Int)=s.T*M:=es
    omega
   have hqs4:=sm4 _ _ hqs
   have wyL : ∀ {H5:Hp},Same H4 H5->m < s.T->Wy H5 sw (s.left m).ks (n+1) s.w:=fun {H5} s5 q=>by
    show Wy H5 sw (if m < s.T then s.ks else []) (n+1) s.w
    rw [if_pos q]
    exact wy.keep (sm4.trans s5).tk (by omega)
   refine ⟨_,rfl,r,_,_,rfl,SqT.of hr4,rfl,key_e (fun v H5=>∃ a2 sw',v = .ref a2/\Same H4 H5/\(a2=s2\/H a2=none)/\H5 a2=some (.dK sw')/\Wy H5 sw' (s.left m).ks (n+1) s.w) (fun Q' kq => ?_) (fun v H5 hS => ?_)⟩
   ·refine ⟨r,_,_,rfl,SqT.of hr4,rfl,fun de hde => ?_⟩
    have t5:=Same.upd (o:=.dK []) hde
    refine ⟨ds,de,kds,rfl,rfl,t5 _ _ hds4,upd_same,_,rfl,ite2 (fun hc => ?_) (fun hc => ?_)⟩
    ·have lt:m < s.T:=by
      cases htt:tss with
      | nil =>
       have l0:kds.length=0:=by rw [AT.dk.len,htt]; rfl
       rw [List.length_eq_zero_iff.mp l0] at hc
       cases hc
      | cons y ys=>exact lt_iff.mp ((mts y).mp (htt ▸ List.mem_cons_self)).2
     exact ⟨qs,_,_,rfl,SqT.of (t5 _ _ hqs4),rfl,kq _ _ ⟨s2,sw,rfl,t5,.inl rfl,t5 _ _ (sm4 _ _ w1),wyL t5 lt⟩⟩
    ·have nlt : ¬ m < s.T:=fun q=>by
      cases hk:ks with
      | nil=>exact ksne hk
      | cons y ys =>
       have hy:y ∈ tss:=(mts y).mpr ⟨hk ▸ List.mem_cons_self,lt_iff.mpr q⟩
       have hpos:0 < kds.length:=by rw [AT.dk.len]; exact List.length_pos_of_mem hy
       cases kds with
       | nil=>exact absurd hpos (by decide)
       | cons _ _=>exact hc rfl
     intro d0 hd0
     have t6:=Same.upd (o:=.dK []) hd0
     refine kq _ _ ⟨d0,[],rfl,t5.trans t6,.inr (same_none (sm4.trans t5) hd0),upd_same,?_⟩
     show Wy _ [] (if m < s.T then s.ks else []) (n+1) s.w
     rw [if_neg nlt]
     exact ⟨⟨[],.nil,fun y=>Iff.rfl⟩,fun y hy=>nomatch hy⟩
   ·obtain ⟨a2,sw',rfl,s5,oa,ha2,wy5⟩:=hS
    refine ⟨qs,_,_,_,_,_,_,rfl,s5 _ _ hqs4,fun ql hql => ?_⟩
    have t6:=Same.upd (o:=.tup [.str s.k,lv s.l,.ref ds,.ref a2]) hql
    have s46:=s5.trans t6
    have sm6:=sm4.trans s46
    refine ⟨_,rfl,_,rfl,qg,_,_,rfl,SqT.of (sm6 _ _ hqg),rfl,r,_,_,rfl,SqT.of (s46 _ _ hr4),rfl,g1,dg,kvg,kdg,kg,gs,M*s.T,(fun y=>g.f y*s.T),(fun y=>s.f y*m),rfl,⟨sm6 _ _ ge1,s46 _ _ hdg4,AGg.keep s46.tk,AG.keep s46.tk,Int.mul_pos M0 (by omega),by omega,lgs,(bM.mul bTs).mono (by decide),fun y => ?_,fun y => ?_⟩,fun d5 kv5 ks5 H7 s7 hd5 hd5' a5 m5 l5 => ?_⟩
    ·exact (((bTg.mul bM).le (gmul y) (gsum y)).mul bTs).mono (by decide)
    ·exact (((bTs.mul bM).le (smul y) (ssum y)).mul (bt_lt 20 (c:=1048576) (x:=m) (by omega) (by omega))).mono (by decide)
    refine ⟨_,rfl,qg,_,_,_,_,_,_,rfl,s7 _ _ (sm6 _ _ hqg),fun qr hqr => ?_⟩
    have t8:=Same.upd (o:=.tup [.str g.k,lv g.l,.ref d5,.ref dw]) hqr
    refine ⟨(by show 2<=sizeLine; decide),fun rr hrr => ?_⟩
    have t9:=Same.upd (o:=.tup [.ref ql,.ref qr]) hrr
    have s79:=t8.trans t9
    have s69:=s7.trans s79
    have s49:=s46.trans s69
    refine k rr ql ds a2 qr d5 dw _ (sm4.trans s49) upd_same ⟨s69 _ _ upd_same,⟨kds,tss,s49 _ _ hds4,AT2.keep s49.tk,fun y => ?_⟩,⟨sw',(t6.trans s69) _ _ ha2,wy5.keep (t6.trans s69).tk (Nat.le_refl _)⟩⟩ ⟨t9 _ _ upd_same,⟨kv5,ks5,s79 _ _ hd5',a5.keep s79.tk,fun y => ?_⟩,⟨ws,s49 _ _ hdwF,⟨⟨wk,dk,fun y => ?_⟩,fun y hy => ?_⟩⟩⟩ fs oa (same_none sm6 hd5) dw0
    ·rw [hls,mts,lt_iff]
    ·rw [m5,got_mem,gmem,mgs,mem]
    ·rw [wm,got_mem,mgs,mem]
    ·obtain ⟨e,u1,u2,u3⟩:=wvF y ((wm y).mpr (by rw [mgs,mem]; exact got_mem.mp hy))
     exact ⟨e,u1,s49 _ _ u2,u3⟩
end
end K76
namespace K76
open PySem PySem.Spec PyProof.Rows L2 GM TM
def Th.scale (z:Th)(c:Int):Th:={ z with f:=fun y=>z.f y*c }
def Th.poured (s:Th)(y:Str)(m:Int)(n:Nat)(z:Th):Th:=if z.x=s.x then z.left m else if z.x=y then z.got s m n else z.scale s.T
def after (zs:List Th)(s:Th)(y k:Str)(m:Int)(n:Nat):List Th:=(if y ∈ zs.map Th.x then zs else zs ++ [Th.ves y k]).map (Th.poured s y m n)
theorem poured_x {s:Th}{y:Str}{m:Int}{n:Nat}{z:Th}:(s.poured y m n z).x=z.x:=by
 unfold Th.poured
 split
 ·rfl
 ·split <;> rfl
theorem poured_kl {s:Th}{y:Str}{m:Int}{n:Nat}{z:Th}:(s.poured y m n z).k=z.k/\(s.poured y m n z).l=z.l:=by
 unfold Th.poured
 split
 ·exact ⟨rfl,rfl⟩
 ·split <;> exact ⟨rfl,rfl⟩
theorem sum_mulr {f:Str->Int}{c:Int} : ∀ ks:List Str,(ks.map fun y=>f y*c).sum=(ks.map f).sum*c
 | []=>by simp
 | k :: ks=>by rw [List.map_cons,List.map_cons,List.sum_cons,List.sum_cons,sum_mulr ks,Int.add_mul]
theorem sum_addf {f g:Str->Int} : ∀ ks:List Str,(ks.map fun y=>f y+g y).sum=(ks.map f).sum+(ks.map g).sum
 | []=>by simp
 | k :: ks=>by rw [List.map_cons,List.map_cons,List.map_cons,List.sum_cons,List.sum_cons,List.sum_cons,sum_addf ks]; omega
theorem sum_z {f:Str->Int} : ∀ {ks:List Str},(∀ y ∈ ks,f y=0)->(ks.map f).sum=0
 | [],_=>rfl
 | k :: ks,h=>by rw [List.map_cons,List.sum_cons,h k List.mem_cons_self,sum_z fun y hy=>h y (List.mem_cons_of_mem _ hy)]; rfl
theorem sum_over {f:Str->Int}{us ks:List Str}(nu:us.Nodup)(nk:ks.Nodup)(sub : ∀ y ∈ ks,y ∈ us)(out : ∀ y,y ∉ ks->f y=0):(us.map f).sum=(ks.map f).sum:=by
 have p:(us.filter (fun y=>decide (y ∈ ks)) ++ us.filter (fun y => !decide (y ∈ ks))).Perm us:=List.filter_append_perm _ _
 have e:=perm_sum (p.map f)
 rw [<- e,List.map_append,List.sum_append,sum_z (ks:=us.filter (fun y => !decide (y ∈ ks))) (fun y hy=>out y (by simpa using (List.mem_filter.mp hy).2)),Int.add_zero]
 refine perm_sum (List.Perm.map f ((List.perm_ext_iff_of_nodup (nu.filter _) nk).mpr fun y => ?_))
 rw [List.mem_filter]
 constructor
 ·intro h
  simpa using h.2
 ·intro h
  exact ⟨sub y h,by simpa using h⟩
theorem nd_sub : ∀ {ws ks:List Str},ks.Nodup->(∀ y ∈ ks,y ∈ ws)->ks.length<=ws.length
 | [],[],_,_=>Nat.le_refl _
 | [],y :: _,_,h=>nomatch h y (List.mem_cons_self ..)
 | w :: ws,ks,nd,h=>by
  have ih:=nd_sub (ws:=ws) (nd.erase w) fun y hy=>by
   obtain ⟨h1,h2⟩:=nd.mem_erase_iff.mp hy
   rcases List.mem_cons.mp (h y h2) with z | z
   ·exact absurd z h1
   ·exact z
  have:=List.le_length_erase (a:=w) (l:=ks)
  rw [List.length_cons]
  omega
theorem len_sub {ks us:List Str}(nk:ks.Nodup)(sub : ∀ y ∈ ks,y ∈ us):ks.length<=us.length:=nd_sub nk sub
theorem got_nd {g s:Th}{m:Int}{n:Nat}(ng:g.ks.Nodup)(ns:s.ks.Nodup):(g.got s m n).ks.Nodup:=by
 show (g.ks ++ s.ks.filter (fun y=>decide (y ∉ g.ks))).Nodup
 refine List.nodup_append.mpr ⟨ng,ns.filter _,fun a ha b hb e => ?_⟩
 subst e
 have:=(List.mem_filter.mp hb).2
 simp at this
 exact this ha
section
variable {M m:Int}{n:Nat}{zs:List Th}{s g z:Th}{y k:Str}
theorem left_ok (o:TOk M n s)(m1:1<=m)(mT:m<=s.T):TOk (M*s.T) (n+1) (s.left m):=by
 have Tb:=o.Tb
 have ln:=o.ln
 by_cases lt:m < s.T
 ·have ek:(s.left m).ks=s.ks:=if_pos lt
  refine ⟨o.wr,by rw [ek]; exact o.nd,fun y hy => ?_,fun y hy => ?_,?_,by show 0<=s.T - m; omega,by show s.T - m<=_; omega,by rw [ek]; omega⟩
  ·rw [ek] at hy
   have:=o.pos y hy
   exact mul1 this (by omega)
  ·rw [ek] at hy
   show s.f y*_=0
   rw [o.out y hy,Int.zero_mul]
  ·rw [ek]
   show (s.ks.map fun y=>s.f y*(s.T - m)).sum=(s.T - m)*(M*s.T)
   rw [sum_mulr,o.sum]
   grind
 ·have ek:(s.left m).ks=[]:=if_neg lt
  have e0:s.T - m=0:=by omega
  refine ⟨o.wr,by rw [ek]; exact .nil,(fun y hy=>by rw [ek] at hy; exact absurd hy List.not_mem_nil),fun y hy => ?_,?_,by show 0<=s.T - m; omega,by show s.T - m<=_; omega,by rw [ek]; exact Nat.zero_le _⟩
  ·show s.f y*(s.T - m)=0
   rw [e0,Int.mul_zero]
  ·rw [ek]
   show (0:Int)=(s.T - m)*(M*s.T)
   rw [e0,Int.zero_mul]
theorem got_ok (o:TOk M n s)(og:TOk M n g)(m1:1<=m)(mT:m<=s.T)(mb:m<=1000000)(ln:(g.got s m n).ks.length<=n+1):TOk (M*s.T) (n+1) (g.got s m n):=by
 have Tb:=og.Tb
 have T0:=og.T0
 have nd:=got_nd (m:=m) (n:=n) og.nd o.nd
 have gf : ∀ y,0<=g.f y:=fun y=>by
  by_cases h:y ∈ g.ks
  ·have:=og.pos y h; omega
  ·rw [og.out y h]; exact Int.le_refl _
 have sf : ∀ y,0<=s.f y:=fun y=>by
  by_cases h:y ∈ s.ks
  ·have:=o.pos y h; omega
  ·rw [o.out y h]; exact Int.le_refl _
 refine ⟨og.wr,nd,fun y hy => ?_,fun y hy => ?_,?_,by show 0<=g.T+m; omega,by show g.T+m<=1000000*((n+1:Nat):Int); omega,ln⟩
 ·show 1<=g.f y*s.T+s.f y*m
  have a:=Int.mul_nonneg (gf y) (show 0<=s.T by omega)
  have b:=Int.mul_nonneg (sf y) (show 0<=m by omega)
  rcases got_mem.mp hy with h | h
  ·have:=mul1 (og.pos y h) (show 1<=s.T by omega)
   omega
  ·have:=mul1 (o.pos y h) m1
   omega
 ·show g.f y*s.T+s.f y*m=0
  rw [og.out y fun h=>hy (got_mem.mpr (.inl h)),o.out y fun h=>hy (got_mem.mpr (.inr h))]
  simp
 ·show ((g.got s m n).ks.map fun y=>g.f y*s.T+s.f y*m).sum=(g.T+m)*(M*s.T)
  rw [sum_addf (f:=fun y=>g.f y*s.T) (g:=fun y=>s.f y*m),sum_mulr,sum_mulr,sum_over nd og.nd (fun y h=>got_mem.mpr (.inl h)) og.out,sum_over nd o.nd (fun y h=>got_mem.mpr (.inr h)) o.out,og.sum,o.sum]
  grind
theorem scale_ok (oz:TOk M n z)(T1:1<=s.T):TOk (M*s.T) (n+1) (z.scale s.T):=by
 have Tb:=oz.Tb
 have ln:=oz.ln
 refine ⟨oz.wr,oz.nd,fun y hy=>mul1 (oz.pos y hy) T1,fun y hy=>by show z.f y*_=0; rw [oz.out y hy,Int.zero_mul],?_,oz.T0,by show z.T<=1000000*((n+1:Nat):Int); omega,by show z.ks.length<=_; omega⟩
 show (z.ks.map fun y=>z.f y*s.T).sum=z.T*(M*s.T)
 rw [sum_mulr,oz.sum,Int.mul_assoc]
theorem ves_ok (wy:Wr y):TOk M n (Th.ves y k):=⟨wy,.nil,(fun _ h=>absurd h List.not_mem_nil),fun _ _=>rfl,by show (0:Int)=0*M; rw [Int.zero_mul],Int.le_refl _,by show (0:Int)<=_; omega,Nat.zero_le _⟩
theorem pre_ok (g:ZOk M n zs)(wy:Wr y)(hk:k = "store" \/ k = "dose"):(∀ z ∈ (if y ∈ zs.map Th.x then zs else zs ++ [Th.ves y k]),TOk M n z/\((z.k = "lot" /\ ∃ l,z.l=some l)\/((z.k = "store" \/ z.k = "dose")/\z.l=none))/\∀ x ∈ z.ks,∃ u ∈ zs,u.x=x/\u.k = "lot")/\((if y ∈ zs.map Th.x then zs else zs ++ [Th.ves y k]).map Th.x).Nodup/\(if y ∈ zs.map Th.x then zs else zs ++ [Th.ves y k]).length<=n+1/\(∀ u ∈ zs,u ∈ (if y ∈ zs.map Th.x then zs else zs ++ [Th.ves y k])):=by
 have ln:=g.ln
 split
 ·exact ⟨fun z hz=>⟨g.ok z hz,g.kd z hz,g.lots z hz⟩,g.nd,by omega,fun u hu=>hu⟩
 ·rename_i hn
  refine ⟨fun z hz => ?_,?_,by rw [List.length_append]; show zs.length+1<=n+1; omega,fun u hu=>List.mem_append_left _ hu⟩
  ·rcases List.mem_append.mp hz with hz | hz
   ·exact ⟨g.ok z hz,g.kd z hz,g.lots z hz⟩
   ·rw [List.mem_singleton] at hz
    subst hz
    exact ⟨ves_ok wy,.inr ⟨hk,rfl⟩,fun _ h=>nomatch h⟩
  ·rw [List.map_append]
   exact nodup_snoc g.nd hn
theorem after_ok (g:ZOk M n zs)(hs:s ∈ zs)(wy:Wr y)(hk:k = "store" \/ k = "dose")(m1:1<=m)(mT:m<=s.T)(mb:m<=1000000)(n1:n+1<=52):ZOk (M*s.T) (n+1) (after zs s y k m n):=by
 obtain ⟨all,nd,len,inc⟩:=pre_ok g wy hk
 have os:=g.ok s hs
 have ln:=g.ln
 have xs:(after zs s y k m n).map Th.x=(if y ∈ zs.map Th.x then zs else zs ++ [Th.ves y k]).map Th.x:=by
  unfold after
  rw [List.map_map]
  exact List.map_congr_left fun z _=>poured_x
 have lotsub : ∀ {ks:List Str},ks.Nodup->(∀ x ∈ ks,∃ u ∈ zs,u.x=x/\u.k = "lot")->ks.length<=n:=fun {ks} nk h=>by
  have:=len_sub (us:=zs.map Th.x) nk fun x hx=>by
   obtain ⟨u,hu,e,_⟩:=h x hx
   exact e ▸ List.mem_map_of_mem hu
  rw [List.length_map] at this
  omega
 have gl : ∀ z,z ∈ (if y ∈ zs.map Th.x then zs else zs ++ [Th.ves y k])->∀ x ∈ (z.got s m n).ks,∃ u ∈ zs,u.x=x/\u.k = "lot" := fun z hz x hx=>by
  rcases got_mem.mp hx with h | h
  ·exact (all z hz).2.2 x h
  ·exact g.lots s hs x h
 refine ⟨by rw [xs]; exact nd,fun z' hz' => ?_,fun z' hz' => ?_,fun z' hz' => ?_,Int.mul_pos g.M0 (by omega),(g.bM.mul (bT os.T0 os.Tb g.n60)).mono (by omega),by rw [<- List.length_map (f:=Th.x),xs,List.length_map]; exact len,n1⟩
 ·obtain ⟨z,hz,rfl⟩:=List.mem_map.mp hz'
  unfold Th.poured
  split
  ·rename_i e
   have:z=s:=nd_eq nd hz (inc s hs) e
   subst this
   exact left_ok os m1 mT
  ·split
   ·refine got_ok os (all z hz).1 m1 mT mb (Nat.le_trans (lotsub (got_nd (all z hz).1.nd os.nd) (gl z hz)) (by omega))
   ·exact scale_ok (all z hz).1 (by omega)
 ·obtain ⟨z,hz,rfl⟩:=List.mem_map.mp hz'
  rw [poured_kl.1,poured_kl.2]
  exact (all z hz).2.1
 ·obtain ⟨z,hz,rfl⟩:=List.mem_map.mp hz'
  intro x hx
  have : ∃ u ∈ zs,u.x=x/\u.k = "lot" := by
   unfold Th.poured at hx
   split at hx
   ·have hx':x ∈ (if m < z.T then z.ks else []):=hx
    split at hx'
    ·exact (all z hz).2.2 x hx'
    ·cases hx'
   ·split at hx
    ·exact gl z hz x hx
    ·exact (all z hz).2.2 x hx
  obtain ⟨u,hu,e1,e2⟩:=this
  exact ⟨s.poured y m n u,List.mem_map_of_mem (inc u hu),poured_x.trans e1,poured_kl.1.trans e2⟩
end
def Th.lot (M:Int)(x:Str)(m l:Int):Th:={ x:=x,k := "lot",l:=some l,ks:=[x],f:=fun y=>if y=x then m*M else 0,T:=m,w:=fun _=>[] }
section
variable {M m l:Int}{n:Nat}{zs:List Th}{x:Str}
theorem ZOk.more (g:ZOk M n zs)(n1:n+1<=52):ZOk M (n+1) zs:=by
 refine ⟨g.nd,fun z hz => ?_,g.kd,g.lots,g.M0,g.bM.mono (by omega),by have:=g.ln; omega,n1⟩
 obtain ⟨a,b,c,d,e,f,t,k⟩:=g.ok z hz
 exact ⟨a,b,c,d,e,f,by omega,by omega⟩
theorem lot_ok (M0:0 < M)(wx:Wr x)(m1:1<=m)(mb:m<=1000000):TOk M (n+1) (Th.lot M x m l):=by
 refine ⟨wx,List.Pairwise.cons (fun _ h=>absurd h List.not_mem_nil) .nil,fun y hy => ?_,fun y hy => ?_,?_,by show 0<=m; omega,by show m<=1000000*((n+1:Nat):Int); omega,by show 1<=n+1; omega⟩
 ·have:y=x:=List.mem_singleton.mp hy
  subst this
  show 1<=if y=y then m*M else 0
  rw [if_pos rfl]
  exact mul1 m1 (by omega)
 ·exact if_neg fun e=>hy (List.mem_singleton.mpr e)
 ·show ([x].map fun y=>if y=x then m*M else 0).sum=m*M
  simp
theorem take_ok (g:ZOk M n zs)(wx:Wr x)(nx:x ∉ zs.map Th.x)(m1:1<=m)(mb:m<=1000000)(n1:n+1<=52):ZOk M (n+1) (zs ++ [Th.lot M x m l]):=by
 have g':=g.more n1
 refine ⟨by rw [List.map_append]; exact nodup_snoc g.nd nx,fun z hz => ?_,fun z hz => ?_,fun z hz => ?_,g.M0,g'.bM,by rw [List.length_append]; have:=g.ln; show zs.length+1<=_; omega,n1⟩
 ·rcases List.mem_append.mp hz with hz | hz
  ·exact g'.ok z hz
  ·rw [List.mem_singleton.mp hz]; exact lot_ok g.M0 wx m1 mb
 ·rcases List.mem_append.mp hz with hz | hz
  ·exact g.kd z hz
  ·rw [List.mem_singleton.mp hz]; exact .inl ⟨rfl,l,rfl⟩
 ·intro y hy
  rcases List.mem_append.mp hz with hz | hz
  ·obtain ⟨u,hu,e⟩:=g.lots z hz y hy
   exact ⟨u,List.mem_append_left _ hu,e⟩
  ·rw [List.mem_singleton.mp hz] at hy
   have:y=x:=List.mem_singleton.mp hy
   exact ⟨Th.lot M x m l,List.mem_append_right _ (List.mem_singleton.mpr rfl),this.symm,rfl⟩
end
end K76
namespace K76
open PySem PySem.Spec PyProof.Rows L2 GM TM
section
variable {C:Addr}{H H':Hp}{L:List Addr}{p dl dt db:Addr}{bs bs':List V}{kvs kvs':List (Key × V)}{day day':Int}{bf bf':List V}{M M':Int}{n:Nat}{zs zs':List Th}
theorem PS.noted (B:PS C H L p dl dt db bs kvs day bf M n zs)(bl:bs'.length=bs.length+1)(fl:bf'.length=bf.length+1)(B7:Bk C H' p dl dt db bs' kvs' day' bf')(k7:Kp p dl dt db H H')(th:Ths H' L M' (n+1) kvs' zs')(g:ZOk M' (n+1) zs'):PS C H' L p dl dt db bs' kvs' day' bf' M' (n+1) zs':=by
 refine ⟨B7,th,by rw [bl,B.bl],by rw [fl,B.fl],B.inL,fun b hb z => ?_,g⟩
 obtain ⟨⟨dx,h0⟩,h1,h2,h3,_⟩:=id B7
 by_cases e1:b=p
 ·rw [e1,h0] at z; cases z
 by_cases e2:b=dl
 ·rw [e2,h1] at z; cases z
 by_cases e3:b=dt
 ·rw [e3,h2] at z; cases z
 by_cases e4:b=db
 ·rw [e4,h3] at z; cases z
 cases hh:H b with
 | none=>exact B.al b hb hh
 | some o =>
  rw [k7 b o ⟨e1,e2,e3,e4⟩ hh] at z
  cases z
theorem ths_put {A:V->Th->Prop}{x:Str}{v:V} : ∀ {kvs:List (Key × V)} {zs:List Th},Paired (fun (kv:Key × V) (z:Th)=>kv.1 = .inr z.x/\A kv.2 z) kvs zs->Paired (fun (kv:Key × V) (z:Th)=>kv.1 = .inr z.x/\((z.x=x/\kv.2=v)\/(z.x ≠ x/\A kv.2 z))) (kvs.map (fun kv=>if kv.1 = .inr x then (kv.1,v) else kv)) zs
 | _,_,.nil=>.nil
 | kv :: kvs,z :: zs,.cons ⟨e,a⟩ t=>by
  refine .cons ?_ (ths_put t)
  dsimp only
  by_cases q:z.x=x
  ·rw [if_pos (by rw [e,q])]
   exact ⟨e,.inl ⟨q,rfl⟩⟩
  ·rw [if_neg (by rw [e]; intro w; exact q (Sum.inr.inj w))]
   exact ⟨e,.inr ⟨q,a⟩⟩
theorem put_in {kvs:List (Key × V)}{x:Str}{v u:V}(h:valV kvs (.inr x)=some u):putK kvs (.inr x) v=kvs.map (fun kv=>if kv.1 = .inr x then (kv.1,v) else kv):=by
 unfold putK
 rw [valV_any,h]
 exact if_pos rfl
theorem paired_mapM {α β γ:Type}{R:α->β->Prop}{R':α->γ->Prop}{φ:β->γ} : ∀ {xs:List α} {ys:List β},(∀ a b,b ∈ ys->R a b->R' a (φ b))->Paired R xs ys->Paired R' xs (ys.map φ)
 | _,_,_,.nil=>.nil
 | _,_,k,.cons a t=>.cons (k _ _ List.mem_cons_self a) (paired_mapM (fun a b hb=>k a b (List.mem_cons_of_mem _ hb)) t)
theorem Tq.scale {n:Nat}{q d1 d2:Addr}{z:Th}(h:Tq H M n q d1 d2 z)(c:Int):Tq H (M*c) n q d1 d2 (z.scale c):=by
 obtain ⟨h1,⟨kv,ks,e1,e2,e3⟩,hw⟩:=h
 exact ⟨h1,⟨kv,ks,e1,e2.scale c,e3⟩,hw⟩
theorem Tg.scale {v:V}{z:Th}(h:Tg H L M n v z)(c:Int):Tg H L (M*c) n v (z.scale c):=by
 obtain ⟨q,d1,d2,rfl,h,o⟩:=h
 exact ⟨q,d1,d2,rfl,h.scale c,o⟩
theorem Ths.pour {s:Th}{y k:Str}{m:Int}{ql qr:V}(h:Ths H L M (n+1) kvs zs)(nd:(zs.map Th.x).Nodup)(hs:s ∈ zs)(ne:y ≠ s.x)(gl:Tg H L (M*s.T) (n+1) ql (s.left m))(gr : ∀ g,g ∈ (if y ∈ zs.map Th.x then zs else zs ++ [Th.ves y k])->g.x=y->Tg H L (M*s.T) (n+1) qr (g.got s m n)) :
  Ths H L (M*s.T) (n+1) (mergeK kvs [(.inr s.x,ql),(.inr y,qr)]) (after zs s y k m n):=by
 show Ths H L (M*s.T) (n+1) (putK (putK kvs (.inr s.x) ql) (.inr y) qr) (after zs s y k m n)
 obtain ⟨u,eu,_⟩:=h.val nd s hs
 rw [put_in (v:=ql) eu]
 have p1:=ths_put (x:=s.x) (v:=ql) h
 have nd2 : ∀ {A:V->Th->Prop} {kvs:List (Key × V)} {zs:List Th},Paired (fun (kv:Key × V) (z:Th)=>kv.1 = .inr z.x/\A kv.2 z) kvs zs->(y ∈ zs.map Th.x->∃ u,valV kvs (.inr y)=some u)/\(y ∉ zs.map Th.x->valV kvs (.inr y)=none):=by
  intro A kvs zs h
  induction h with
  | nil=>exact ⟨fun h=>(nomatch h),fun _=>rfl⟩
  | cons a t ih =>
   rename_i kv z kvs zs
   by_cases q:z.x=y
   ·exact ⟨fun _=>⟨kv.2,valV_pos (by rw [a.1,q])⟩,fun w=>absurd (by rw [List.map_cons,q]; exact List.mem_cons_self) w⟩
   ·rw [valV_neg (by rw [a.1]; intro w; exact q (Sum.inr.inj w))]
    refine ⟨fun w=>ih.1 ?_,fun w=>ih.2 fun w2=>w ?_⟩
    ·rw [List.map_cons] at w
     exact (List.mem_cons.mp w).elim (fun w=>absurd w.symm q) id
    ·rw [List.map_cons]
     exact List.mem_cons_of_mem _ w2
 unfold after at *
 by_cases hy:y ∈ zs.map Th.x
 ·rw [if_pos hy] at gr ⊢
  obtain ⟨u2,e2⟩:=(nd2 (A:=fun v' z=>(z.x=s.x/\v'=ql)\/(z.x ≠ s.x/\Tg H L M (n+1) v' z)) p1).1 hy
  rw [put_in (v:=qr) e2]
  have p2:=ths_put (A:=fun v' z=>(z.x=s.x/\v'=ql)\/(z.x ≠ s.x/\Tg H L M (n+1) v' z)) (x:=y) (v:=qr) p1
  refine paired_mapM (fun kv z hz a => ?_) p2
  obtain ⟨e,a⟩:=a
  refine ⟨by rw [poured_x]; exact e,?_⟩
  unfold Th.poured
  rcases a with ⟨ey,ev⟩ | ⟨ny,⟨ex,ev⟩ | ⟨nx,t⟩⟩
  ·rw [if_neg (by rw [ey]; exact ne),if_pos ey,ev]
   exact gr z hz ey
  ·rw [if_pos ex,ev]
   rw [nd_eq nd hz hs ex]
   exact gl
  ·rw [if_neg nx,if_neg ny]
   exact t.scale s.T
 ·rw [if_neg hy] at gr ⊢
  rw [putK_new qr ((nd2 (A:=fun v' z=>(z.x=s.x/\v'=ql)\/(z.x ≠ s.x/\Tg H L M (n+1) v' z)) p1).2 hy),List.map_append]
  refine paired_snoc (paired_mapM (fun kv z hz a => ?_) p1) ⟨?_,?_⟩
  ·obtain ⟨e,a⟩:=a
   refine ⟨by rw [poured_x]; exact e,?_⟩
   have ny:z.x ≠ y:=fun q=>hy (q ▸ List.mem_map_of_mem hz)
   unfold Th.poured
   rcases a with ⟨ex,ev⟩ | ⟨nx,t⟩
   ·rw [if_pos ex,ev]
    rw [nd_eq nd hz hs ex]
    exact gl
   ·rw [if_neg nx,if_neg ny]
    exact t.scale s.T
  ·rw [poured_x]; rfl
  ·unfold Th.poured
   rw [if_neg (show ¬ (Th.ves y k).x=s.x from ne),if_pos (show (Th.ves y k).x=y from rfl)]
   exact gr _ (List.mem_append_right _ (List.mem_singleton.mpr rfl)) rfl
end
end K76
namespace K76
open PySem PySem.Spec PyProof.Rows L2 GM TM
abbrev Nxt (C:Addr)(H:Hp)(L:List Addr)(p dl dt db:Addr)(bs:List V)(day':Int)(M':Int)(n:Nat)(zs':List Th)(row:List V)(Q:VK):Prop:=∀ q kvs' bf' H',PS C H' L p dl dt db (bs ++ [.ref q]) kvs' day' bf' M' (n+1) zs'->H' q=some (.tup row)->Kp p dl dt db H H'->Q (.int n) H'
def spTake (C:Addr):Sp:=fun vs H Q _=>∃ L p dl dt db bs kvs day bf M n zs x wr m l,vs=[.ref p,.str x,.str wr,.int m,.int l]/\PS C H L p dl dt db bs kvs day bf M n zs/\Wr x/\Wr wr/\x ∉ zs.map Th.x/\1<=m/\m<=1000000/\0<=l/\l<=1000000/\n+1<=52 /\
 Nxt C H L p dl dt db bs day M n (zs ++ [Th.lot M x m l]) [.str "take",.str x,.str wr,.int m,.int l] Q
def spGo (C:Addr):Sp:=fun vs H Q _=>∃ L p dl dt db bs kvs day bf M n zs d',vs=[.ref p,.int d']/\PS C H L p dl dt db bs kvs day bf M n zs/\day<=d'/\0<=d'/\d'<=1000000/\n+1<=52/\Nxt C H L p dl dt db bs d' M n zs [.str "go",.int d'] Q
structure PoA (zs:List Th)(s:Th)(y:Str)(m day:Int)(n:Nat):Prop where
 hs:s ∈ zs
 nd:s.k ≠ "dose"
 wy:Wr y
 ne:y ≠ s.x
 m1:1<=m
 mT:m<=s.T
 mb:m<=1000000
 fr : ∀ x ∈ s.ks,∀ l,LstOf zs x l->day<=l
 n1:n+1<=52
def spPour (C:Addr):Sp:=fun vs H Q _=>∃ L p dl dt db bs kvs day bf M n zs s y m,vs=[.ref p,.str s.x,.str y,.int m]/\PS C H L p dl dt db bs kvs day bf M n zs/\PoA zs s y m day n/\(∀ z ∈ zs,z.x=y->z.k = "store") /\
 Nxt C H L p dl dt db bs day (M*s.T) n (after zs s y "store" m n) [.str "pour",.str s.x,.str y,.int m] Q
def spGive (C:Addr):Sp:=fun vs H Q _=>∃ L p dl dt db bs kvs day bf M n zs s y m,vs=[.ref p,.str s.x,.str y,.int m]/\PS C H L p dl dt db bs kvs day bf M n zs/\PoA zs s y m day n/\y ∉ zs.map Th.x /\
 Nxt C H L p dl dt db bs day (M*s.T) n (after zs s y "dose" m n) [.str "give",.str s.x,.str y,.int m] Q
theorem lot_tq {H:Hp}{M m l:Int}{n:Nat}{q d1 d2 t e:Addr}{x:Str}(M0:0 < M)(m1:1<=m)(h1:H q=some (.tup [.str "lot",.int l,.ref d1,.ref d2]))(h2:H d1=some (.dK [(.inr x,.ref t)]))(h3:H t=some (.tup [.int m,.int 1]))(h4:H d2=some (.dK [(.inr x,.ref e)]))(h5:H e=some (.tup [])):Tq H M n q d1 d2 (Th.lot M x m l):=by
 have dk : ∀ v:V,DK [((.inr x:Key),v)] [x]:=fun v=>⟨rfl,List.Pairwise.cons (fun _ h=>absurd h List.not_mem_nil) .nil⟩
 refine ⟨h1,⟨_,[x],h2,⟨dk _,fun y hy => ?_,fun y hy=>if_neg fun z=>hy (List.mem_singleton.mpr z)⟩,fun y=>Iff.rfl⟩,⟨_,h4,⟨[x],dk _,fun y=>Iff.rfl⟩,fun y hy => ?_⟩⟩
 ·obtain rfl:=List.mem_singleton.mp hy
  refine ⟨t,m,1,valV_pos rfl,h3,?_⟩
  show Fr M m 1 (if y=y then m*M else 0)
  rw [if_pos rfl]
  exact ⟨amt_one (by omega),by rw [Int.mul_one]⟩
 ·obtain rfl:=List.mem_singleton.mp hy
  exact ⟨e,valV_pos rfl,h5,Nat.zero_le _⟩
theorem ves_tq {H:Hp}{M:Int}{n:Nat}{q d1 d2:Addr}{y k:Str}(h1:H q=some (.tup [.str k,.non,.ref d1,.ref d2]))(h2:H d1=some (.dK []))(h3:H d2=some (.dK [])):Tq H M n q d1 d2 (Th.ves y k) :=
 ⟨h1,⟨[],[],h2,⟨.nil,(fun _ h=>absurd h List.not_mem_nil),fun _ _=>rfl⟩,fun _=>Iff.rfl⟩,⟨[],h3,⟨⟨[],.nil,fun _=>Iff.rfl⟩,fun _ h=>absurd h List.not_mem_nil⟩⟩⟩
section
variable {P:Program}{w:World}{K:PySem.W.Frag}{mg:Str->Option Value}{base:Heap}
theorem scTake:FnScope ["self","name","ware","many","last"] ["self","name","ware","many","last"] (defScope sTake):=⟨rfl,rfl,rfl,by decide +kernel,rfl,by decide +kernel,by decide +kernel⟩
theorem ok_take {f C:Addr}{fd:FuncData}(F:Fun K "take" "Books.take" sTake f fd)(L:Cl K mg C)(cN:Cal P w K mg base CX0 3 "refuse_no_name" ["thing"] spNoName)(cS:Cal P w K mg base CX0 3 "refuse_no_spoons" ["many"] spNoSp)(cD:Cal P w K mg base CX0 3 "refuse_no_day" ["day"] spNoDay)(cL:Cal P w K mg base CX0 3 "new_lot" ["name","many","last_day"] spNewLot)
  (mH:MCal P w K mg base CX0 3 C "refuse_had" ["self","name"] (spHad C)) (mN:MCal P w K mg base CX0 3 C "note" ["self","deed","changed"] (spNote C)):FnOk P w K mg base CX0 4 f fd ["self","name","ware","many","last"] (spTake C):=by
 refine F.ok scTake (fun vs H Q E h => ?_) (fun cdv A outer s H vs Q E hr h => ?_)
 ·obtain ⟨_,_,_,_,_,_,_,_,_,_,_,_,_,_,_,_,rfl,_⟩:=h
  rfl
 ·obtain ⟨ad,p,dl,dt,db,bs,kvs,day,bf,M,n,zs,x,wr,m,l,rfl,B,wx,ww,nx,m1,m2,l1,l2,n1,k⟩:=h
  refine ⟨_,(pss_cons (ps_expr (pe_cal cN hr rfl pass0 (pa_cons (pv 1) pa_nil)))
   (pss_cons (ps_expr (pe_cal cN hr rfl pass0 (pa_cons (pv 2) pa_nil)))
   (pss_cons (ps_expr (pe_mc L.cl mH hr pass0 (pv 0) (pa_cons (pv 1) pa_nil)))
   (pss_cons (ps_expr (pe_cal cS hr rfl pass0 (pa_cons (pv 3) pa_nil)))
   (pss_cons (ps_expr (pe_cal cD hr rfl pass0 (pa_cons (pv 4) pa_nil)))
   (pss_one (ps_ret (pe_mc L.cl mN hr pass0 (pv 0) (pa_cons (pe_tup (pa_cons pe_str (pa_cons (pv 1) (pa_cons (pv 2) (pa_cons (pv 3) (pa_cons (pv 4) pa_nil)))))) (pa_cons (pe_disp (pps_cons (pv 1) (pe_cal cL hr rfl pass0 (pa_cons (pv 1) (pa_cons (pv 3) (pa_cons (pv 4) pa_nil)))) pps_nil) rfl rfl (by simp) (by decide)) pa_nil)))))))))),?_⟩
  have kl:=B.kl
  have zl:=B.g.ln
  have bl':=B.bl
  have fl:=B.fl
  refine ⟨_,rfl,x,rfl,wx,fun H1 s1=>⟨_,rfl,wr,rfl,ww,fun H2 s2 => ?_⟩⟩
  have s12:=s1.trans s2
  have B2:=B.keep s12
  obtain ⟨⟨dx,h0⟩,hl,ht,hb,n6⟩:=id B2.bk
  refine ⟨_,rfl,p,dx,_,rfl,h0,(by kernel_rfl),_,rfl,p,dl,dt,db,bs,kvs,day,bf,x,rfl,B2.bk,B2.th.non nx,?_⟩
  refine ⟨_,rfl,m,rfl,m1,m2,⟨_,rfl,l,rfl,l1,l2,?_⟩⟩
  refine ⟨_,rfl,p,dx,_,rfl,h0,(by kernel_rfl),_,rfl,_,rfl,_,rfl,_,rfl,(by show 5<=sizeLine; decide),fun q hq => ?_⟩
  have t3:=Same.upd (o:=.tup [.str "take",.str x,.str wr,.int m,.int l]) hq
  intro c hc
  have t4:=Same.upd (o:=.dK []) hc
  refine ⟨_,rfl,_,rfl,_,rfl,_,rfl,x,m,l,rfl,fun ql d1 d2 t e H5 s5 e1 e2 e3 e4 e5 f1 f2=>⟨s5 _ _ upd_same,[(.inr x,.ref ql)],rfl,by show 1<=15; decide,?_⟩⟩
  rw [show mergeK [] [((.inr x:Key),V.ref ql)]=[(.inr x,.ref ql)] from rfl]
  have s25:=(t3.trans t4).trans s5
  have hc2:H2 c=none:=same_none t3 hc
  have s6:Same H2 (upd H5 c (.dK [(.inr x,.ref ql)])):=same_own s25 hc2
  have B6:=B2.keep s6
  have cd1:d1 ≠ c:=fun z=>by rw [z,upd_same] at f1; cases f1
  have cd2:d2 ≠ c:=fun z=>by rw [z,upd_same] at f2; cases f2
  have d10:H2 d1=none:=same_none (t3.trans t4) f1
  have d20:H2 d2=none:=same_none (t3.trans t4) f2
  have tc : ∀ {b xs},H5 b=some (.tup xs)->upd H5 c (.dK [(.inr x,.ref ql)]) b=some (.tup xs):=fun {b xs} hb'=>by
   rw [upd_ne (fun z=>by rw [z,s5 _ _ upd_same] at hb'; cases hb')]
   exact hb'
  refine ⟨p,dl,dt,db,bs,kvs,day,bf,q,c,[(.inr x,.ref ql)],rfl,B6.bk,upd_same,B2.out (B2.fresh hc2),⟨[x],rfl⟩,by show 1<=2; decide,by omega,by omega,by omega,fun bf' H7 fl' B7 k7 => ?_⟩
  have em:mergeK kvs [(.inr x,.ref ql)]=kvs ++ [(.inr x,.ref ql)]:=putK_new _ (B2.th.non nx)
  rw [em] at B7
  have tk7:=B6.bk.tk k7
  have kp7:=B6.kpl k7
  have o1:=B2.fresh d10
  have o2:=B2.fresh d20
  have lot:=lot_tq (n:=n+1) B.g.M0 m1 (tk7 _ _ (tc e1)) (kp7 _ _ o1 (by rw [upd_ne cd1]; exact e2)) (tk7 _ _ (tc e3)) (kp7 _ _ o2 (by rw [upd_ne cd2]; exact e4)) (tk7 _ _ (tc e5))
  have PN:=B6.noted (by rw [List.length_append]; rfl) fl' B7 k7 (paired_snoc (B6.th.keep kp7 tk7 (Nat.le_succ n)) ⟨rfl,ql,d1,d2,rfl,lot,o1,o2⟩) (take_ok B.g wx nx m1 m2 n1)
  rw [bl']
  exact k q _ bf' H7 PN (tk7 _ _ (tc (s5 _ _ (t4 _ _ upd_same)))) ((Kp.of (s12.trans s6)).trans k7)
theorem scGo:FnScope ["self","day","number"] ["self","day"] (defScope sGo):=⟨rfl,rfl,rfl,by decide +kernel,rfl,by decide +kernel,by decide +kernel⟩
theorem ok_go {f C:Addr}{fd:FuncData}(F:Fun K "go" "Books.go" sGo f fd)(L:Cl K mg C)(cD:Cal P w K mg base CX0 3 "refuse_no_day" ["day"] spNoDay)(mN:MCal P w K mg base CX0 3 C "note" ["self","deed","changed"] (spNote C)):FnOk P w K mg base CX0 4 f fd ["self","day"] (spGo C):=by
 refine F.ok scGo (fun vs H Q E h => ?_) (fun cdv A outer s H vs Q E hr h => ?_)
 ·obtain ⟨_,_,_,_,_,_,_,_,_,_,_,_,_,rfl,_⟩:=h
  rfl
 ·obtain ⟨ad,p,dl,dt,db,bs,kvs,day,bf,M,n,zs,d',rfl,B,dd,d0,d1,n1,k⟩:=h
  refine ⟨_,(pss_cons (ps_expr (pe_cal cD hr rfl pass0 (pa_cons (pv 1) pa_nil)))
   (pss_cons (ps_if (pt_cmpR op_lt (pv 1) (pe_fld (pv 0) rfl) (nomark _)) (pss_one ps_no) pss_nil)
   (pss_cons (ps_set (i:=2) scGo.nd rfl (Or.inl rfl) (pe_mc L.cl mN hr pass0 (pv 0) (pa_cons (pe_tup (pa_cons pe_str (pa_cons (pv 1) pa_nil))) (pa_cons pe_dnewK pa_nil))))
   (pss_cons (ps_fld (pv 0) (pv 1) rfl)
   (pss_one (ps_ret (pv 2))))))),?_⟩
  obtain ⟨⟨dx,h0⟩,hl,ht,hb,n6⟩:=id B.bk
  have kl:=B.kl
  have zl:=B.g.ln
  have bl':=B.bl
  have fl:=B.fl
  refine ⟨_,rfl,d',rfl,d0,d1,⟨_,rfl,_,rfl,p,C,dx,_,_,rfl,h0,L.cl,L.nD,flds_day,_,_,rfl,rfl,_,rfl,ite2 (fun z=>absurd (of_decide_eq_true z) (by show ¬ d' < day; omega)) (fun _ => ?_)⟩⟩
  refine ⟨_,rfl,p,dx,_,rfl,h0,(by kernel_rfl),_,rfl,(by show 2<=sizeLine; decide),fun q hq => ?_⟩
  have t3:=Same.upd (o:=.tup [.str "go",.int d']) hq
  intro c hc
  have t4:=Same.upd (o:=.dK []) hc
  have s4:=t3.trans t4
  have B4:=B.keep s4
  have hc2:H c=none:=same_none t3 hc
  refine ⟨p,dl,dt,db,bs,kvs,day,bf,q,c,[],rfl,B4.bk,upd_same,B.out (B.fresh hc2),⟨[],rfl⟩,by show 0<=2; decide,by omega,by omega,by omega,fun bf' H7 fl' B7 k7 => ?_⟩
  obtain ⟨⟨dx',g0⟩,gl,gt,gb,_⟩:=id B7
  obtain ⟨n1',n2,n3,n4,n5⟩:=B7.ns
  refine ⟨_,rfl,_,rfl,p,C,dx',_,rfl,g0,L.cl,L.nD,(by show 4 < 1000; decide),?_⟩
  have B8:Bk C (upd H7 p (.ins C dx' (putF "day" (.int d') (flds dl dt db day)))) p dl dt db (bs ++ [.ref q]) kvs d' bf':=⟨⟨dx',Eq.trans upd_same (congrArg (fun l=>some (HO.ins C dx' l)) flds_put)⟩,by rw [upd_ne (Ne.symm n1')]; exact gl,by rw [upd_ne (Ne.symm n2)]; exact gt,by rw [upd_ne (Ne.symm n3)]; exact gb,n6⟩
  have k8:Kp p dl dt db H (upd H7 p (.ins C dx' (putF "day" (.int d') (flds dl dt db day)))):=fun b o u e=>by
   rw [upd_ne u.1]
   exact k7 b o u (s4 b o e)
  have hq8:(upd H7 p (.ins C dx' (putF "day" (.int d') (flds dl dt db day)))) q=some (.tup [.str "go",.int d']):=by
   have z:=B4.bk.tk k7 _ _ (t4 _ _ upd_same)
   rw [upd_ne (B7.out z).1]
   exact z
  refine ⟨_,rfl,?_⟩
  rw [bl']
  exact k q kvs bf' _ (B.noted (by rw [List.length_append]; rfl) fl' B8 k8 (B.th.keep (B.kpl k8) (B.bk.tk k8) (Nat.le_succ n)) (B.g.more n1)) hq8 k8
end
end K76
namespace K76
open PySem PySem.Spec PyProof.Rows L2 GM TM
theorem two_merge {x y:Str}{u v:V}(ne:y ≠ x):mergeK ([]:List (Key × V)) [(.inr x,u),(.inr y,v)]=[(.inr x,u),(.inr y,v)]:=by
 show putK (putK ([]:List (Key × V)) (.inr x) u) (.inr y) v=_
 rw [putK_new (kvs:=([]:List (Key × V))) _ rfl,List.nil_append,putK_new _ (by rw [valV_neg (fun z=>ne (Sum.inr.inj z).symm)]; rfl)]
 rfl
section
variable {P:Program}{w:World}{K:PySem.W.Frag}{mg:Str->Option Value}{base:Heap}
theorem scPour:FnScope ["self","source","goal","many","into","behind"] ["self","source","goal","many"] (defScope sPour):=⟨rfl,rfl,rfl,by decide +kernel,rfl,by decide +kernel,by decide +kernel⟩
theorem ok_pour {f C:Addr}{fd:FuncData}(F:Fun K "pour" "Books.pour" sPour f fd)(T:Txt mg)(L:Cl K mg C)(cS:Cal P w K mg base CX0 6 "refuse_no_spoons" ["many"] spNoSp)(cV:Cal P w K mg base CX0 6 "new_vessel" ["word"] spNewV)(cP:Cal P w K mg base CX0 6 "poured" ["source","goal","many","number"] spPoured)
  (mS:MCal P w K mg base CX0 6 C "refuse_no_source" ["self","source"] (spNoSrc C)) (mG:MCal P w K mg base CX0 6 C "refuse_no_goal" ["self","source","goal"] (spNoGoal C)) (mP:MCal P w K mg base CX0 6 C "refuse_to_pour" ["self","source","many"] (spToPour C)) (mN:MCal P w K mg base CX0 6 C "note" ["self","deed","changed"] (spNote C)):FnOk P w K mg base CX0 7 f fd ["self","source","goal","many"] (spPour C):=by
 refine F.ok scPour (fun vs H Q E h => ?_) (fun cdv A outer s0 H vs Q E hr h => ?_)
 ·obtain ⟨_,_,_,_,_,_,_,_,_,_,_,_,_,_,_,rfl,_⟩:=h
  rfl
 ·obtain ⟨ad,p,dl,dt,db,bs,kvs,day,bf,M,n,zs,s,y,m,rfl,B,a,st,k⟩:=h
  refine ⟨_,(pss_cons (ps_expr (pe_mc L.cl mS hr pass0 (pv 0) (pa_cons (pv 1) pa_nil)))
   (pss_cons (ps_expr (pe_mc L.cl mG hr pass0 (pv 0) (pa_cons (pv 1) (pa_cons (pv 2) pa_nil))))
   (pss_cons (ps_expr (pe_cal cS hr rfl pass0 (pa_cons (pv 3) pa_nil)))
   (pss_cons (ps_expr (pe_mc L.cl mP hr pass0 (pv 0) (pa_cons (pv 1) (pa_cons (pv 3) pa_nil))))
   (pss_cons (ps_set (i:=4) scPour.nd rfl (Or.inl rfl) (pe_dget2 (hu_of hr) (pe_fld (pv 0) rfl) (pv 2) (pe_cal cV hr rfl pass0 (pa_cons pe_str pa_nil)) ⟨rfl,rfl,rfl,rfl⟩))
   (pss_cons (ps_set (i:=5) scPour.nd rfl (Or.inl rfl) (pe_cal cP hr rfl pass0 (pa_cons (pe_dget (hu_of hr) (pe_fld (pv 0) rfl) (pv 1) (fun _ _=>rfl)) (pa_cons (pv 4) (pa_cons (pv 3) (pa_cons (pe_callB call_len_seq rfl T.len PySem.boot_len (pa_cons (pe_fld (pv 0) rfl) pa_nil)) pa_nil))))))
   (pss_one (ps_ret (pe_mc L.cl mN hr pass0 (pv 0) (pa_cons (pe_tup (pa_cons pe_str (pa_cons (pv 1) (pa_cons (pv 2) (pa_cons (pv 3) pa_nil))))) (pa_cons (pe_disp (pps_cons (pv 1) (pit 5 0) (pps_cons (pv 2) (pit 5 1) pps_nil)) rfl rfl (by simp) (by decide)) pa_nil))))))))))),?_⟩
  obtain ⟨hs,nd,wy,ne,m1,mT,mb,fr,n1⟩:=a
  have kl:=B.kl
  have zl:=B.g.ln
  have bl':=B.bl
  have fl:=B.fl
  obtain ⟨⟨dx,h0⟩,hl,ht,hb,n6⟩:=id B.bk
  refine ⟨_,rfl,p,dx,_,rfl,h0,(by kernel_rfl),_,rfl,ad,p,dl,dt,db,bs,kvs,day,bf,M,n,zs,s,rfl,B,hs,nd,fun H1 s1 => ?_⟩
  refine ⟨_,rfl,p,dx,_,rfl,s1 _ _ h0,(by kernel_rfl),_,rfl,_,rfl,ad,p,dl,dt,db,bs,kvs,day,bf,M,n,zs,s.x,y,rfl,B.keep s1,wy,ne,st,fun H2 s2 => ?_⟩
  have s12:=s1.trans s2
  refine ⟨_,rfl,m,rfl,m1,mb,⟨_,rfl,p,dx,_,rfl,s12 _ _ h0,(by kernel_rfl),_,rfl,_,rfl,ad,p,dl,dt,db,bs,kvs,day,bf,M,n,zs,s,m,rfl,B.keep s12,hs,mT,fr,fun H3 s3 => ?_⟩⟩
  have s13:=s12.trans s3
  have B3:=B.keep s13
  refine ⟨_,rfl,p,C,dx,_,_,rfl,s13 _ _ h0,L.cl,L.nT,flds_things,dt,rfl,.inl ⟨kvs,.inl (s13 _ _ ht)⟩,_,rfl,"store",rfl,fun qv v1 v2 H4 s4 f1 f2 g0 g1 g2 => ?_⟩
  have s14:=s13.trans s4
  have B4:=B.keep s14
  have v10:=same_none s13 f1
  have v20:=same_none s13 f2
  obtain ⟨⟨_,i0⟩,il,it,ib,_⟩:=id B4.bk
  refine ⟨_,DGet.k (k:=.inr y) it,?_⟩
  obtain ⟨g,qg,a1,a2,eg,hg,tg,og,oa1,oa2⟩ : ∃ g qg a1 a2,(valV kvs (.inr y)).getD (.ref qv) = .ref qg/\g ∈ (if y ∈ zs.map Th.x then zs else zs ++ [Th.ves y "store"])/\Tq H4 M n qg a1 a2 g/\g.x=y/\a1 ∉ ad/\a2 ∉ ad:=by
   by_cases hy:y ∈ zs.map Th.x
   ·obtain ⟨g,hg,rfl⟩:=List.mem_map.mp hy
    obtain ⟨q,d1,d2,e,t,o1,o2⟩:=B4.at hg
    exact ⟨g,q,d1,d2,by rw [e]; rfl,by rw [if_pos hy]; exact hg,t,rfl,o1,o2⟩
   ·refine ⟨Th.ves y "store",qv,v1,v2,by rw [B4.th.non hy]; rfl,by rw [if_neg hy]; exact List.mem_append_right _ (List.mem_singleton.mpr rfl),ves_tq g0 g1 g2,rfl,B.fresh v10,B.fresh v20⟩
  have oks:=(pre_ok (k := "store") B.g wy (.inl rfl)).1 g hg
  rw [eg]
  obtain ⟨q,d1,d2,e,ts,o1,o2⟩:=B4.at hs
  have gv:DGet H4 dt (.str s.x) (some (.ref q)):=by rw [<- e]; exact DGet.k (k:=.inr s.x) it
  refine ⟨_,rfl,p,C,dx,_,_,rfl,s14 _ _ h0,L.cl,L.nT,flds_things,_,rfl,dt,_,rfl,gv,_,rfl,_,rfl,_,rfl,p,C,dx,_,_,rfl,s14 _ _ h0,L.cl,L.nE,flds_deeds,dl,_,rfl,.inl (SqL.of il),?_⟩
  rw [bl']
  refine ⟨M,m,n,q,d1,d2,qg,a1,a2,s,g,rfl,⟨ts,tg,B.g.ok s hs,oks.1,m1,mT,mb,B.g.M0,B.g.bm,by omega⟩,fun r ql b1 b2 qr c1 c2 H5 s5 hr5 tl tr nb1 ob2 nc1 nc2 => ?_⟩
  have s15:=s14.trans s5
  refine ⟨_,rfl,p,dx,_,rfl,s15 _ _ h0,(by kernel_rfl),_,rfl,_,rfl,_,rfl,(by show 4<=sizeLine; decide),fun qd hqd => ?_⟩
  have t6:=Same.upd (o:=.tup [.str "pour",.str s.x,.str y,.int m]) hqd
  intro c hc
  have t7:=Same.upd (o:=.dK []) hc
  have s67:=t6.trans t7
  refine ⟨_,rfl,r,_,_,rfl,SqT.of (s67 _ _ hr5),rfl,_,rfl,r,_,_,rfl,SqT.of (s67 _ _ hr5),rfl,upd_same,[(.inr s.x,.ref ql),(.inr y,.ref qr)],rfl,by show 2<=15; decide,?_⟩
  rw [two_merge ne]
  have hc0:H5 c=none:=same_none t6 hc
  have s8:Same H5 (upd (upd (upd H5 qd (.tup [.str "pour",.str s.x,.str y,.int m])) c (.dK [])) c (.dK [(.inr s.x,.ref ql),(.inr y,.ref qr)])):=same_own s67 hc0
  have hqd8:(upd (upd (upd H5 qd (.tup [.str "pour",.str s.x,.str y,.int m])) c (.dK [])) c (.dK [(.inr s.x,.ref ql),(.inr y,.ref qr)])) qd=some (.tup [.str "pour",.str s.x,.str y,.int m]):=by
   have nq:qd ≠ c:=fun z=>by rw [z,upd_same] at hc; cases hc
   rw [upd_ne nq]
   exact t7 _ _ upd_same
  have hc8:(upd (upd (upd H5 qd (.tup [.str "pour",.str s.x,.str y,.int m])) c (.dK [])) c (.dK [(.inr s.x,.ref ql),(.inr y,.ref qr)])) c=some (.dK [(.inr s.x,.ref ql),(.inr y,.ref qr)]):=upd_same
  generalize upd (upd (upd H5 qd (.tup [.str "pour",.str s.x,.str y,.int m])) c (.dK [])) c (.dK [(.inr s.x,.ref ql),(.inr y,.ref qr)])=H8 at s8 hqd8 hc8 ⊢
  have s18:=s15.trans s8
  have B8:=B.keep s18
  refine ⟨p,dl,dt,db,bs,kvs,day,bf,qd,c,_,rfl,B8.bk,hc8,B.out (B.fresh (same_none s15 hc0)),⟨[s.x,y],rfl⟩,by show 2<=2; decide,by omega,by omega,by omega,fun bf' H9 fl' B9 k9 => ?_⟩
  have tk9:=B8.bk.tk k9
  have kp9:=B8.kpl k9
  have b1o:=B4.fresh nb1
  have b2o:b2 ∉ ad:=ob2.elim (fun z=>z ▸ o2) B4.fresh
  have tl9:=(tl.same s8).keep b1o b2o kp9 tk9 (Nat.le_refl _)
  have tr9:=(tr.same s8).keep (B4.fresh nc1) (B4.fresh nc2) kp9 tk9 (Nat.le_refl _)
  have nd':=(pre_ok (k := "store") B.g wy (.inl rfl)).2.1
  have PN:=B8.noted (by rw [List.length_append]; rfl) fl' B9 k9 (Ths.pour (k := "store") (B8.th.keep kp9 tk9 (Nat.le_succ n)) B.g.nd hs ne ⟨ql,b1,b2,rfl,tl9,b1o,b2o⟩ (fun g' hg' e'=>by
   have:g'=g:=nd_eq nd' hg' hg (e'.trans og.symm)
   rw [this]
   exact ⟨qr,c1,c2,rfl,tr9,B4.fresh nc1,B4.fresh nc2⟩)) (after_ok B.g hs wy (.inl rfl) m1 mT mb n1)
  rw [bl']
  exact k qd _ bf' H9 PN (tk9 _ _ hqd8) ((Kp.of s18).trans k9)
theorem scGive:FnScope ["self","source","name","many","behind"] ["self","source","name","many"] (defScope sGive):=⟨rfl,rfl,rfl,by decide +kernel,rfl,by decide +kernel,by decide +kernel⟩
theorem ok_give {f C:Addr}{fd:FuncData}(F:Fun K "give" "Books.give" sGive f fd)(T:Txt mg)(L:Cl K mg C)(cS:Cal P w K mg base CX0 6 "refuse_no_spoons" ["many"] spNoSp)(cV:Cal P w K mg base CX0 6 "new_vessel" ["word"] spNewV)(cP:Cal P w K mg base CX0 6 "poured" ["source","goal","many","number"] spPoured)
  (mS:MCal P w K mg base CX0 6 C "refuse_no_source" ["self","source"] (spNoSrc C)) (cN:Cal P w K mg base CX0 6 "refuse_no_name" ["thing"] spNoName) (mH:MCal P w K mg base CX0 6 C "refuse_had" ["self","name"] (spHad C)) (mP:MCal P w K mg base CX0 6 C "refuse_to_pour" ["self","source","many"] (spToPour C)) (mN:MCal P w K mg base CX0 6 C "note" ["self","deed","changed"] (spNote C)):FnOk P w K mg base CX0 7 f fd ["self","source","name","many"] (spGive C):=by
 refine F.ok scGive (fun vs H Q E h => ?_) (fun cdv A outer s0 H vs Q E hr h => ?_)
 ·obtain ⟨_,_,_,_,_,_,_,_,_,_,_,_,_,_,_,rfl,_⟩:=h
  rfl
 ·obtain ⟨ad,p,dl,dt,db,bs,kvs,day,bf,M,n,zs,s,y,m,rfl,B,a,st,k⟩:=h
  refine ⟨_,(pss_cons (ps_expr (pe_mc L.cl mS hr pass0 (pv 0) (pa_cons (pv 1) pa_nil)))
   (pss_cons (ps_expr (pe_cal cN hr rfl pass0 (pa_cons (pv 2) pa_nil)))
   (pss_cons (ps_expr (pe_mc L.cl mH hr pass0 (pv 0) (pa_cons (pv 2) pa_nil)))
   (pss_cons (ps_expr (pe_cal cS hr rfl pass0 (pa_cons (pv 3) pa_nil)))
   (pss_cons (ps_expr (pe_mc L.cl mP hr pass0 (pv 0) (pa_cons (pv 1) (pa_cons (pv 3) pa_nil))))
   (pss_cons (ps_set (i:=4) scGive.nd rfl (Or.inl rfl) (pe_cal cP hr rfl pass0 (pa_cons (pe_dget (hu_of hr) (pe_fld (pv 0) rfl) (pv 1) (fun _ _=>rfl)) (pa_cons (pe_cal cV hr rfl pass0 (pa_cons pe_str pa_nil)) (pa_cons (pv 3) (pa_cons (pe_callB call_len_seq rfl T.len PySem.boot_len (pa_cons (pe_fld (pv 0) rfl) pa_nil)) pa_nil))))))
   (pss_one (ps_ret (pe_mc L.cl mN hr pass0 (pv 0) (pa_cons (pe_tup (pa_cons pe_str (pa_cons (pv 1) (pa_cons (pv 2) (pa_cons (pv 3) pa_nil))))) (pa_cons (pe_disp (pps_cons (pv 1) (pit 4 0) (pps_cons (pv 2) (pit 4 1) pps_nil)) rfl rfl (by simp) (by decide)) pa_nil))))))))))),?_⟩
  obtain ⟨hs,nd,wy,ne,m1,mT,mb,fr,n1⟩:=a
  have kl:=B.kl
  have zl:=B.g.ln
  have bl':=B.bl
  have fl:=B.fl
  obtain ⟨⟨dx,h0⟩,hl,ht,hb,n6⟩:=id B.bk
  refine ⟨_,rfl,p,dx,_,rfl,h0,(by kernel_rfl),_,rfl,ad,p,dl,dt,db,bs,kvs,day,bf,M,n,zs,s,rfl,B,hs,nd,fun H1 s1 => ?_⟩
  refine ⟨_,rfl,y,rfl,wy,fun H2 s2 => ?_⟩
  have s12:=s1.trans s2
  refine ⟨_,rfl,p,dx,_,rfl,s12 _ _ h0,(by kernel_rfl),_,rfl,p,dl,dt,db,bs,kvs,day,bf,y,rfl,(B.keep s12).bk,(B.keep s12).th.non st,?_⟩
  refine ⟨_,rfl,m,rfl,m1,mb,⟨_,rfl,p,dx,_,rfl,s12 _ _ h0,(by kernel_rfl),_,rfl,_,rfl,ad,p,dl,dt,db,bs,kvs,day,bf,M,n,zs,s,m,rfl,B.keep s12,hs,mT,fr,fun H3 s3 => ?_⟩⟩
  have s13:=s12.trans s3
  have B3:=B.keep s13
  obtain ⟨q,d1,d2,e,ts3,o1,o2⟩:=B3.at hs
  have gv:DGet H3 dt (.str s.x) (some (.ref q)):=by rw [<- e]; exact DGet.k (k:=.inr s.x) (s13 _ _ ht)
  refine ⟨_,rfl,p,C,dx,_,_,rfl,s13 _ _ h0,L.cl,L.nT,flds_things,_,rfl,dt,_,rfl,gv,"dose",rfl,fun qv v1 v2 H4 s4 f1 f2 g0 g1 g2 => ?_⟩
  have s14:=s13.trans s4
  have B4:=B.keep s14
  have v10:=same_none s13 f1
  have v20:=same_none s13 f2
  obtain ⟨⟨_,i0⟩,il,it,ib,_⟩:=id B4.bk
  have ts:=ts3.same s4
  obtain ⟨g,qg,a1,a2,eg,hg,tg,og,oa1,oa2⟩ : ∃ g qg a1 a2,qv=qg/\g ∈ (if y ∈ zs.map Th.x then zs else zs ++ [Th.ves y "dose"])/\Tq H4 M n qg a1 a2 g/\g.x=y/\a1 ∉ ad/\a2 ∉ ad:=⟨Th.ves y "dose",qv,v1,v2,rfl,by rw [if_neg st]; exact List.mem_append_right _ (List.mem_singleton.mpr rfl),ves_tq g0 g1 g2,rfl,B.fresh v10,B.fresh v20⟩
  subst eg
  have oks:=(pre_ok (k := "dose") B.g wy (.inr rfl)).1 g hg
  refine ⟨_,rfl,_,rfl,p,C,dx,_,_,rfl,s14 _ _ h0,L.cl,L.nE,flds_deeds,dl,_,rfl,.inl (SqL.of il),?_⟩
  rw [bl']
  refine ⟨M,m,n,q,d1,d2,qv,a1,a2,s,g,rfl,⟨ts,tg,B.g.ok s hs,oks.1,m1,mT,mb,B.g.M0,B.g.bm,by omega⟩,fun r ql b1 b2 qr c1 c2 H5 s5 hr5 tl tr nb1 ob2 nc1 nc2 => ?_⟩
  have s15:=s14.trans s5
  refine ⟨_,rfl,p,dx,_,rfl,s15 _ _ h0,(by kernel_rfl),_,rfl,_,rfl,_,rfl,(by show 4<=sizeLine; decide),fun qd hqd => ?_⟩
  have t6:=Same.upd (o:=.tup [.str "give",.str s.x,.str y,.int m]) hqd
  intro c hc
  have t7:=Same.upd (o:=.dK []) hc
  have s67:=t6.trans t7
  refine ⟨_,rfl,r,_,_,rfl,SqT.of (s67 _ _ hr5),rfl,_,rfl,r,_,_,rfl,SqT.of (s67 _ _ hr5),rfl,upd_same,[(.inr s.x,.ref ql),(.inr y,.ref qr)],rfl,by show 2<=15; decide,?_⟩
  rw [two_merge ne]
  have hc0:H5 c=none:=same_none t6 hc
  have s8:Same H5 (upd (upd (upd H5 qd (.tup [.str "give",.str s.x,.str y,.int m])) c (.dK [])) c (.dK [(.inr s.x,.ref ql),(.inr y,.ref qr)])):=same_own s67 hc0
  have hqd8:(upd (upd (upd H5 qd (.tup [.str "give",.str s.x,.str y,.int m])) c (.dK [])) c (.dK [(.inr s.x,.ref ql),(.inr y,.ref qr)])) qd=some (.tup [.str "give",.str s.x,.str y,.int m]):=by
   have nq:qd ≠ c:=fun z=>by rw [z,upd_same] at hc; cases hc
   rw [upd_ne nq]
   exact t7 _ _ upd_same
  have hc8:(upd (upd (upd H5 qd (.tup [.str "give",.str s.x,.str y,.int m])) c (.dK [])) c (.dK [(.inr s.x,.ref ql),(.inr y,.ref qr)])) c=some (.dK [(.inr s.x,.ref ql),(.inr y,.ref qr)]):=upd_same
  generalize upd (upd (upd H5 qd (.tup [.str "give",.str s.x,.str y,.int m])) c (.dK [])) c (.dK [(.inr s.x,.ref ql),(.inr y,.ref qr)])=H8 at s8 hqd8 hc8 ⊢
  have s18:=s15.trans s8
  have B8:=B.keep s18
  refine ⟨p,dl,dt,db,bs,kvs,day,bf,qd,c,_,rfl,B8.bk,hc8,B.out (B.fresh (same_none s15 hc0)),⟨[s.x,y],rfl⟩,by show 2<=2; decide,by omega,by omega,by omega,fun bf' H9 fl' B9 k9 => ?_⟩
  have tk9:=B8.bk.tk k9
  have kp9:=B8.kpl k9
  have b1o:=B4.fresh nb1
  have b2o:b2 ∉ ad:=ob2.elim (fun z=>z ▸ o2) B4.fresh
  have tl9:=(tl.same s8).keep b1o b2o kp9 tk9 (Nat.le_refl _)
  have tr9:=(tr.same s8).keep (B4.fresh nc1) (B4.fresh nc2) kp9 tk9 (Nat.le_refl _)
  have nd':=(pre_ok (k := "dose") B.g wy (.inr rfl)).2.1
  have PN:=B8.noted (by rw [List.length_append]; rfl) fl' B9 k9 (Ths.pour (k := "dose") (B8.th.keep kp9 tk9 (Nat.le_succ n)) B.g.nd hs ne ⟨ql,b1,b2,rfl,tl9,b1o,b2o⟩ (fun g' hg' e'=>by
   have:g'=g:=nd_eq nd' hg' hg (e'.trans og.symm)
   rw [this]
   exact ⟨qr,c1,c2,rfl,tr9,B4.fresh nc1,B4.fresh nc2⟩)) (after_ok B.g hs wy (.inr rfl) m1 mT mb n1)
  rw [bl']
  exact k qd _ bf' H9 PN (tk9 _ _ hqd8) ((Kp.of s18).trans k9)
end
end K76
namespace K76
open PySem PySem.Spec PyProof.Rows L2 GM TM
def hkv (big:Bool)(F:Int)(hd kd ls:Addr)(today:Int)(dd:Addr):List (Key × V):=[(.inr "big",.bl big),(.inr "fine",.int F),(.inr "held",.ref hd),(.inr "kinds",.ref kd),(.inr "lasts",.ref ls),(.inr "today",.int today),(.inr "deeds",.ref dd)]
section
variable {big:Bool}{F F':Int}{hd kd ls dd:Addr}{today t':Int}
theorem hk_big:valV (hkv big F hd kd ls today dd) (.inr "big")=some (.bl big):=by kernel_rfl
theorem hk_fine:valV (hkv big F hd kd ls today dd) (.inr "fine")=some (.int F):=by kernel_rfl
theorem hk_held:valV (hkv big F hd kd ls today dd) (.inr "held")=some (.ref hd):=by kernel_rfl
theorem hk_kinds:valV (hkv big F hd kd ls today dd) (.inr "kinds")=some (.ref kd):=by kernel_rfl
theorem hk_lasts:valV (hkv big F hd kd ls today dd) (.inr "lasts")=some (.ref ls):=by kernel_rfl
theorem hk_today:valV (hkv big F hd kd ls today dd) (.inr "today")=some (.int today):=by kernel_rfl
theorem hk_deeds:valV (hkv big F hd kd ls today dd) (.inr "deeds")=some (.ref dd):=by kernel_rfl
theorem hk_putF:putK (hkv big F hd kd ls today dd) (.inr "fine") (.int F')=hkv big F' hd kd ls today dd:=by kernel_rfl
theorem hk_putT:putK (hkv big F hd kd ls today dd) (.inr "today") (.int t')=hkv big F hd kd ls t' dd:=by kernel_rfl
end
def keyX (e:Th × Addr):Key × V:=(.inr e.1.x,.ref e.2)
def keyK (e:Th × Addr):Key × V:=(.inr e.1.x,.str e.1.k)
def Inn (H:Hp)(e:Th × Addr):Prop:=∃ kvs ks,H e.2=some (.dK kvs)/\HI kvs ks e.1.f/\∀ y,y ∈ ks ↔ y ∈ e.1.ks
structure LsV (zs:List Th)(lk:List (Key × V))(lks:List Str):Prop where
 v : ∀ y l,LstOf zs y l->valV lk (.inr y)=some (.int l)
 m : ∀ y ∈ lks,∃ u ∈ zs,u.x=y/\u.k=("lot" : Str)
structure LS (H:Hp)(a hd kd ls dd:Addr)(big:Bool)(F today:Int)(n:Nat)(ds:List V)(zi:List (Th × Addr)):Prop where
 ha:H a=some (.dK (hkv big F hd kd ls today dd))
 hh:H hd=some (.dK (zi.map keyX))
 inn : ∀ e ∈ zi,Inn H e
 hk:H kd=some (.dK (zi.map keyK))
 hl : ∃ lk lks,H ls=some (.dK lk)/\DK lk lks/\lks.length<=n/\LsV (zi.map (·.1)) lk lks
 hdd:H dd=some (.lst ds)
 dl:ds.length=n
 nda:([a,hd,kd,ls,dd] ++ zi.map (·.2)).Nodup
def La (a hd kd ls dd:Addr)(zi:List (Th × Addr)):List Addr:=[a,hd,kd,ls,dd] ++ zi.map (·.2)
section
variable {H H':Hp}{a hd kd ls dd:Addr}{big:Bool}{F today:Int}{n:Nat}{ds:List V}{zi:List (Th × Addr)}
theorem Inn.keep {e:Th × Addr}(h:Inn H e)(k : ∀ o,H e.2=some o->H' e.2=some o):Inn H' e:=by
 obtain ⟨kvs,ks,h1,h2⟩:=h
 exact ⟨kvs,ks,k _ h1,h2⟩
theorem LS.keep (h:LS H a hd kd ls dd big F today n ds zi)(k : ∀ b ∈ La a hd kd ls dd zi,∀ o,H b=some o->H' b=some o):LS H' a hd kd ls dd big F today n ds zi:=by
 obtain ⟨h1,h2,h3,h4,⟨lk,lks,h5,h6⟩,h7,h8,h9⟩:=h
 have m : ∀ b,b ∈ [a,hd,kd,ls,dd]->b ∈ La a hd kd ls dd zi:=fun b hb=>List.mem_append_left _ hb
 exact ⟨k _ (m _ (by simp)) _ h1,k _ (m _ (by simp)) _ h2,fun e he=>(h3 e he).keep (k _ (List.mem_append_right _ (List.mem_map_of_mem he))),k _ (m _ (by simp)) _ h4,⟨lk,lks,k _ (m _ (by simp)) _ h5,h6⟩,k _ (m _ (by simp)) _ h7,h8,h9⟩
theorem LS.same (h:LS H a hd kd ls dd big F today n ds zi)(s:Same H H'):LS H' a hd kd ls dd big F today n ds zi:=h.keep fun b _ o e=>s b o e
theorem keyK_dk (nd:((zi.map (·.1)).map Th.x).Nodup):DK (zi.map keyK) ((zi.map (·.1)).map Th.x):=⟨by simp only [List.map_map]; rfl,nd⟩
theorem key_at {φ:Th × Addr->V} : ∀ {zi:List (Th × Addr)},((zi.map (·.1)).map Th.x).Nodup->∀ e ∈ zi,valV (zi.map fun e=>((Sum.inr e.1.x:Key),φ e)) (.inr e.1.x)=some (φ e)
 | [],_,e,h=>nomatch h
 | u :: zi,nd,e,h=>by
  rw [List.map_cons,List.map_cons,List.nodup_cons] at nd
  rcases List.mem_cons.mp h with rfl | h
  ·exact valV_pos rfl
  ·rw [List.map_cons,valV_neg]
   ·exact key_at nd.2 e h
   ·intro q
    exact nd.1 ((Sum.inr.inj q:u.1.x=e.1.x) ▸ List.mem_map_of_mem (f:=Th.x) (List.mem_map_of_mem (f:=(·.1)) h))
theorem key_no {φ:Th × Addr->V}{x:Str} : ∀ {zi:List (Th × Addr)},x ∉ (zi.map (·.1)).map Th.x->valV (zi.map fun e=>((Sum.inr e.1.x:Key),φ e)) (.inr x)=none
 | [],_=>rfl
 | u :: zi,h=>by
  rw [List.map_cons,List.map_cons,List.mem_cons,not_or] at h
  rw [List.map_cons,valV_neg (fun q=>h.1 (Sum.inr.inj q).symm)]
  exact key_no h.2
theorem LS.getX (nd:((zi.map (·.1)).map Th.x).Nodup){e:Th × Addr}(he:e ∈ zi):valV (zi.map keyX) (.inr e.1.x)=some (.ref e.2):=key_at (φ:=fun e=>.ref e.2) nd e he
theorem LS.getK (nd:((zi.map (·.1)).map Th.x).Nodup){e:Th × Addr}(he:e ∈ zi):valV (zi.map keyK) (.inr e.1.x)=some (.str e.1.k):=key_at (φ:=fun e=>.str e.1.k) nd e he
theorem dg {k:Str}{d:Addr}{kvs:List (Key × V)}{v:V}(h:H d=some (.dK kvs))(e:valV kvs (.inr k)=some v):DGet H d (.str k) (some v):=by
 rw [<- e]
 exact DGet.k (k:=.inr k) h
end
structure LG (H:Hp)(a hd kd ls dd:Addr)(big:Bool)(F today:Int)(n:Nat)(ds:List V)(zi:List (Th × Addr)):Prop where
 s:LS H a hd kd ls dd big F today n ds zi
 g:ZOk F n (zi.map (·.1))
theorem LG.same {H H':Hp}{a hd kd ls dd:Addr}{big:Bool}{F today:Int}{n:Nat}{ds:List V}{zi:List (Th × Addr)}(h:LG H a hd kd ls dd big F today n ds zi)(s:Same H H'):LG H' a hd kd ls dd big F today n ds zi:=⟨h.s.same s,h.g⟩
theorem TOk.isum {M:Int}{n:Nat}{z:Th}{kvs:List (Key × V)}{ks:List Str}(t:TOk M n z)(a:HI kvs ks z.f)(m : ∀ y,y ∈ ks ↔ y ∈ z.ks):(ks.map z.f).sum=z.T*M:=by
 rw [<- t.sum]
 exact perm_sum (((List.perm_ext_iff_of_nodup a.dk.nd t.nd).mpr m).map _)
theorem TOk.ilen {M:Int}{n:Nat}{z:Th}{kvs:List (Key × V)}{ks:List Str}(t:TOk M n z)(a:HI kvs ks z.f)(m : ∀ y,y ∈ ks ↔ y ∈ z.ks):ks.length=z.ks.length:=((List.perm_ext_iff_of_nodup a.dk.nd t.nd).mpr m).length_eq
def spLtot:Sp:=fun vs H Q _=>∃ a hd kd ls dd big F today n ds zi,∃ e:Th × Addr,vs=[.ref a,.str e.1.x]/\LG H a hd kd ls dd big F today n ds zi/\e ∈ zi/\∀ H',Same H H'->Q (.int e.1.T) H'
def Frs (zs:List Th)(z:Th)(today:Int):Prop:=z.ks ≠ []/\∀ y ∈ z.ks,∀ l,LstOf zs y l->today<=l
structure LR (H:Hp)(a hd kd ls dd:Addr)(big:Bool)(F today:Int)(n:Nat)(zi:List (Th × Addr)):Prop where
 ha:H a=some (.dK (hkv big F hd kd ls today dd))
 hh:Rd H hd (.dK (zi.map keyX))
 inn : ∀ e ∈ zi,Inn H e
 hl : ∃ lk lks,H ls=some (.dK lk)/\DK lk lks/\lks.length<=n/\LsV (zi.map (·.1)) lk lks
 nda:([a,hd,kd,ls,dd] ++ zi.map (·.2)).Nodup
 g:ZOk F n (zi.map (·.1))
theorem LG.lr {H:Hp}{a hd kd ls dd:Addr}{big:Bool}{F today:Int}{n:Nat}{ds:List V}{zi:List (Th × Addr)}(h:LG H a hd kd ls dd big F today n ds zi):LR H a hd kd ls dd big F today n zi:=⟨h.s.ha,.inl h.s.hh,h.s.inn,h.s.hl,h.s.nda,h.g⟩
theorem LR.same {H H':Hp}{a hd kd ls dd:Addr}{big:Bool}{F today:Int}{n:Nat}{zi:List (Th × Addr)}(h:LR H a hd kd ls dd big F today n zi)(s:Same H H'):LR H' a hd kd ls dd big F today n zi:=by
 obtain ⟨h1,h2,h3,⟨lk,lks,h4,h5⟩,h6,h7⟩:=h
 exact ⟨s _ _ h1,h2.elim (fun e=>.inl (s _ _ e)) (fun ⟨o,e⟩=>.inr ⟨o,s _ _ e⟩),fun e he=>(h3 e he).keep fun o q=>s _ _ q,⟨lk,lks,s _ _ h4,h5⟩,h6,h7⟩
theorem LG.held {H:Hp}{a hd kd ls dd:Addr}{big:Bool}{F today:Int}{n:Nat}{ds:List V}{zi:List (Th × Addr)}(h:LG H a hd kd ls dd big F today n ds zi)(ob:Obj):LR (upd H hd (.frz ob (.dK (zi.map keyX)))) a hd kd ls dd big F today n zi:=by
 have nda:=h.s.nda
 have n5:=(List.nodup_append.mp nda).1
 simp only [List.nodup_cons,List.mem_cons,List.not_mem_nil,or_false,not_or] at n5
 have nO : ∀ e ∈ zi,e.2 ≠ hd:=fun e he z=>(List.nodup_append.mp nda).2.2 hd (by simp) e.2 (List.mem_map_of_mem he) z.symm
 obtain ⟨lk,lks,h4,h5⟩:=h.s.hl
 exact ⟨by rw [upd_ne n5.1.1]; exact h.s.ha,.inr ⟨ob,upd_same⟩,fun e he=>(h.s.inn e he).keep fun o q=>by rw [upd_ne (nO e he)]; exact q,⟨lk,lks,by rw [upd_ne (Ne.symm n5.2.1.2.1)]; exact h4,h5⟩,nda,h.g⟩
theorem dgr {H:Hp}{k:Str}{d:Addr}{kvs:List (Key × V)}{v:V}(h:Rd H d (.dK kvs))(e:valV kvs (.inr k)=some v):DGet H d (.str k) (some v):=by
 rw [<- e]
 exact DGet.r (k:=Sum.inr k) h
def spFresh:Sp:=fun vs H Q _=>∃ a hd kd ls dd big F today n zi,∃ e:Th × Addr,vs=[.ref a,.str e.1.x]/\LR H a hd kd ls dd big F today n zi/\e ∈ zi/\∀ b H',Same H H'->(b=true->Frs (zi.map (·.1)) e.1 today)->Q (.bl b) H'
def spNew:Sp:=fun vs H Q _=>∃ big:Bool,vs=[.bl big]/\∀ a hd kd ls dd H',Same H H'->(∀ b ∈ [a,hd,kd,ls,dd],H b=none)->LS H' a hd kd ls dd big 1 0 0 [] []->Q (.ref a) H'
section
variable {P:Program}{w:World}{K:PySem.W.Frag}{mg:Str->Option Value}{base:Heap}
theorem scLtot:FnScope ["_law_here","_law_name"] ["_law_here","_law_name"] (defScope sLtot):=⟨rfl,rfl,rfl,by decide +kernel,rfl,by decide +kernel,by decide +kernel⟩
theorem ok_ltot {f:Addr}{fd:FuncData}(F:Fun K "_law_total" "_law_total" sLtot f fd)(T:Txt mg):FnOk P w K mg base CX0 1 f fd ["_law_here","_law_name"] spLtot:=by
 refine F.ok scLtot (fun vs H Q E h => ?_) (fun cdv A outer s H vs Q E hr h => ?_)
 ·obtain ⟨_,_,_,_,_,_,_,_,_,_,_,_,rfl,_⟩:=h
  rfl
 ·obtain ⟨a,hd,kd,ls,dd,big,Fn,today,n,ds,zi,e,rfl,B,he,k⟩:=h
  refine ⟨_,(pss_one (ps_ret (pe_op op_fdivB (pe_callB (call_sum rfl) rfl T.sum' boot_sum (pa_cons (pe_listValsR rfl rfl T.list' (pe_dget (hu_of hr) (pe_dget (hu_of hr) (pv 0) pe_str (fun _ _=>rfl)) (pv 1) (fun _ _=>rfl))) pa_nil)) (pe_dget (hu_of hr) (pv 0) pe_str (fun _ _=>rfl))))),?_⟩
  have nd:=B.g.nd
  have mz:=List.mem_map_of_mem (f:=(·.1)) he
  have to:=B.g.ok e.1 mz
  obtain ⟨kvs,ks,e1,hi,mem⟩:=B.s.inn e he
  refine ⟨_,rfl,a,_,rfl,dg B.s.ha hk_held,_,rfl,hd,_,rfl,dg B.s.hh (LS.getX nd he),e.2,kvs,rfl,.inl e1,fun p hp => ?_⟩
  have t1:=Same.upd (o:=.lst (kvs.map (·.2))) hp
  refine ⟨p,ks.map e.1.f,rfl,SqL.of (by rw [<- hi.vals]; exact upd_same),_,rfl,a,_,rfl,dg (t1 _ _ B.s.ha) hk_fine,_,_,rfl,rfl,⟨B.g.M0,B.g.bm.mono (by decide)⟩,?_⟩
  have es:=to.isum hi mem
  show Q (V.int ((ks.map e.1.f).sum / Fn)) _
  have M0:=B.g.M0
  rw [es,Int.mul_ediv_cancel _ (show Fn ≠ 0 by omega)]
  exact k _ t1
theorem ndFr:(["_law_lot","_law_here"]:List Str).Nodup:=by decide +kernel
theorem scFresh:FnScope ["_law_here","_law_name"] ["_law_here","_law_name"] (defScope sFresh):=⟨rfl,rfl,rfl,by decide +kernel,rfl,by decide +kernel,by decide +kernel⟩
theorem ok_fresh {f:Addr}{fd:FuncData}(F:Fun K "_law_fresh" "_law_fresh" sFresh f fd)(T:Txt mg):FnOk P w K mg base CX0 1 f fd ["_law_here","_law_name"] spFresh:=by
 refine F.ok scFresh (fun vs H Q E h => ?_) (fun cdv A outer s H vs Q E hr h => ?_)
 ·obtain ⟨_,_,_,_,_,_,_,_,_,_,_,rfl,_⟩:=h
  rfl
 ·obtain ⟨a,hd,kd,ls,dd,big,Fn,today,n,zi,e,rfl,B,he,k⟩:=h
  refine ⟨_,(pss_cons (ps_if (pt_cmpR (op_eqDE hr.units) (pe_dget (hu_of hr) (pe_dget (hu_of hr) (pv 0) pe_str (fun _ _=>rfl)) (pv 1) (fun _ _=>rfl)) pe_dnewK (nomark _)) (pss_one (ps_ret pe_bl)) pss_nil)
   (pss_one (ps_ret (pe_cmpR op_ge (pe_callB (call_minL rfl) rfl T.min' boot_min (pa_cons (pe_thaw (pe_compC (N':=["_law_lot","_law_here"]) (fun σ=>[none,some 0].map fun t=>t.bind fun j=>(σ[j]?).join) rfl rfl (by decide +kernel) (by decide +kernel)
     (hk_of (sc:=defScope sFresh) rfl (by decide +kernel)) (fun _ _ _=>blkN_by (sc:=defScope sFresh) (N:=["_law_here","_law_name"]) [none,some 0] rfl rfl rfl rfl (by decide +kernel))
     (pi_dict (pe_dget (hu_of hr) (pe_dget (hu_of hr) (pv 0) pe_str (fun _ _=>rfl)) (pv 1) (fun _ _=>rfl))) (fun _ _ _ _ _ _=>pg_name (i:=0) ndFr rfl (Or.inl rfl)) (fun _ _ _ _ _ _=>pifs_nil)
     (fun _ _ _ _ _ _=>pe_dget (hu_of hr) (pe_dget (hu_of hr) (pv 1) pe_str (fun _ _=>rfl)) (pv 0) (fun _ _=>rfl)))) pa_nil)) (pe_dget (hu_of hr) (pv 0) pe_str (fun _ _=>rfl)) (nomark _))))),?_⟩
  have nd:=B.g.nd
  have mz:=List.mem_map_of_mem (f:=(·.1)) he
  have to:=B.g.ok e.1 mz
  obtain ⟨kvs,ks,e1,hi,mem⟩:=B.inn e he
  have gx:=LS.getX nd he
  refine ⟨_,rfl,a,_,rfl,dg B.ha hk_held,_,rfl,hd,_,rfl,dgr B.hh gx,fun de hde => ?_⟩
  have t1:=Same.upd (o:=.dK []) hde
  refine ⟨e.2,de,kvs,rfl,rfl,t1 _ _ e1,upd_same,_,rfl,ite2 (fun hc=>k false _ t1 (fun z=>by cases z)) (fun hc => ?_)⟩
  have B1:=B.same t1
  have e1':=t1 _ _ e1
  have kne:kvs ≠ []:=fun z=>hc (by rw [z]; rfl)
  have kl:=to.ilen hi mem
  have tl:=to.ln
  have n60:=B.g.n60
  generalize upd H de (.dK [])=H1 at t1 B1 e1'
  refine ⟨_,rfl,a,_,rfl,dg B1.ha hk_held,_,rfl,hd,_,rfl,dgr B1.hh gx,e.2,kvs,rfl,e1',fun ob D hD => ?_⟩
  obtain ⟨lk,lks,hls,ldk,ll,lv'⟩:=B1.hl
  have nda:=B1.nda
  have n2 : ∀ b ∈ [a,hd,kd,ls,dd],b ≠ e.2:=fun b hb z=>(List.nodup_append.mp nda).2.2 b hb e.2 (List.mem_map_of_mem he) z
  refine comp_rel (Ys.dict upd_same) (fun j _ y _=>∃ s m,ks[j]?=some s/\y = .int m/\LstOf (zi.map fun e:Th × Addr=>e.1) s m) (fun _ _ _ _ _ h _=>h) hD (by rw [List.length_map,hi.dk.len]; omega) (fun i y H' R hy sm hR => ?_) (fun ys H5 sm hD5 yl hy => ?_)
  ·rw [List.getElem?_map] at hy
   obtain ⟨kv',hkv,rfl⟩:=Option.map_eq_some_iff.mp hy
   obtain ⟨x,hx,ex⟩:=hi.dk.at hkv
   rw [ex]
   obtain ⟨u,lu,hu,ux,uk,ul⟩:=B.g.lst mz ((mem x).mp (List.mem_of_getElem? hx))
   have lo:LstOf (zi.map (·.1)) x lu:=⟨u,hu,ux,uk,ul⟩
   have ha':=sm a _ (by rw [upd_ne (n2 a (by simp))]; exact B1.ha)
   have hl':=sm ls _ (by rw [upd_ne (n2 ls (by simp))]; exact hls)
   exact ⟨(Keep.refl _).set rfl,_,rfl,a,_,rfl,dg ha' hk_lasts,_,rfl,ls,_,rfl,dg hl' (lv'.v x lu lo),hR _ _ (Same.refl _) ⟨x,lu,hx,rfl,lo⟩⟩
  ·rw [List.length_map,hi.dk.len] at yl
   have hy' : ∀ (j:Nat) y,ys[j]?=some y->∃ s m,ks[j]?=some s/\y = .int m/\LstOf (zi.map (·.1)) s m:=fun j y hj=>by
    obtain ⟨x,hx⟩ : ∃ x,(kvs.map fun e=>kV e.1)[j]?=some x:=⟨_,List.getElem?_eq_getElem (by have:=(List.getElem?_eq_some_iff.mp hj).1; rw [List.length_map,hi.dk.len]; omega)⟩
    exact hy j x y hx hj
   obtain ⟨ns,rfl⟩:=ints_of (ys:=ys) fun y h=>by
    obtain ⟨j,hj⟩:=List.mem_iff_getElem?.mp h
    obtain ⟨_,m,_,e,_⟩:=hy' j y hj
    exact ⟨m,e⟩
   have Dd:D ≠ e.2:=fun z=>by rw [z,upd_same] at hD; cases hD
   have hd1 : ∀ o u,H e.2 ≠ some (.frz o u):=no_frz e1
   have sF:=thaw_same e1' sm
   rw [List.length_map] at yl
   have kp:0 < kvs.length:=by cases kvs with | nil=>exact absurd rfl kne | cons _ _=>exact Nat.succ_pos _
   have kp':0 < ks.length:=by rw [<- hi.dk.len]; exact kp
   refine ⟨e.2,ob,_,sm _ _ upd_same,hd1,D,ns,rfl,SqL.of (by rw [upd_ne Dd]; exact hD5),by omega,fun m hm le => ?_⟩
   refine ⟨_,rfl,a,_,rfl,dg (sF _ _ B1.ha) hk_today,_,_,rfl,rfl,k _ _ (t1.trans sF) fun hb=>⟨fun z => ?_,fun y hy2 l2 hl2 => ?_⟩⟩
   ·rw [z] at kl
    simp at kl
    rw [kl] at kp'
    simp at kp'
   ·have hb':m ≥ today:=of_decide_eq_true hb
    obtain ⟨j,hj⟩:=List.mem_iff_getElem?.mp ((mem y).mpr hy2)
    have hlt:j < ns.length:=by have:=(List.getElem?_eq_some_iff.mp hj).1; omega
    obtain ⟨x,m',g1,g2,g3⟩:=hy' j (.int ns[j]) (by rw [List.getElem?_map,List.getElem?_eq_getElem hlt]; rfl)
    cases g2
    rw [hj] at g1
    cases g1
    rw [<- g3.uniq B.g.nd hl2]
    have:=le _ (List.getElem_mem hlt)
    omega
theorem scNew:FnScope ["_law_big"] ["_law_big"] (defScope sNew):=⟨rfl,rfl,rfl,by decide +kernel,rfl,by decide +kernel,by decide +kernel⟩
theorem ok_new {f:Addr}{fd:FuncData}(F:Fun K "_law_new" "_law_new" sNew f fd):FnOk P w K mg base CX0 1 f fd ["_law_big"] spNew:=by
 refine F.ok scNew (fun vs H Q E h => ?_) (fun cdv A outer s H vs Q E hr h => ?_)
 ·obtain ⟨_,rfl,_⟩:=h
  rfl
 ·obtain ⟨big,rfl,k⟩:=h
  refine ⟨_,(pss_one (ps_ret (pe_disp (pps_cons pe_str (pv 0) (pps_cons pe_str pe_int (pps_cons pe_str pe_dnewK (pps_cons pe_str pe_dnewK (pps_cons pe_str pe_dnewK (pps_cons pe_str pe_int (pps_cons pe_str (pe_lst pa_nil) pps_nil))))))) rfl rfl (by simp) (by decide)))),?_⟩
  intro a ha
  have t0:=Same.upd (o:=.dK []) ha
  refine ⟨_,rfl,fun hd h1 => ?_⟩
  have t1:=Same.upd (o:=.dK []) h1
  intro kd h2
  have t2:=Same.upd (o:=.dK []) h2
  intro ls h3
  have t3:=Same.upd (o:=.dK []) h3
  refine ⟨(by show 0<=sizeLine; decide),fun dd h4 => ?_⟩
  have t4:=Same.upd (o:=.lst []) h4
  have s4:=((t1.trans t2).trans t3).trans t4
  refine ⟨s4 _ _ upd_same,hkv big 1 hd kd ls 0 dd,rfl,by show 7<=15; decide,?_⟩
  rw [show mergeK [] (hkv big 1 hd kd ls 0 dd)=hkv big 1 hd kd ls 0 dd by kernel_rfl]
  have sF:Same H (upd (upd (upd (upd (upd (upd H a (.dK [])) hd (.dK [])) kd (.dK [])) ls (.dK [])) dd (.lst [])) a (.dK (hkv big 1 hd kd ls 0 dd))):=same_own (t0.trans s4) ha
  have n1:hd ≠ a:=fun z=>by rw [z,upd_same] at h1; cases h1
  have n2:kd ≠ a/\kd ≠ hd:=⟨(fun z=>by rw [z,t1 _ _ upd_same] at h2; cases h2),(fun z=>by rw [z,upd_same] at h2; cases h2)⟩
  have n3:ls ≠ a/\ls ≠ hd/\ls ≠ kd:=⟨(fun z=>by rw [z,t2 _ _ (t1 _ _ upd_same)] at h3; cases h3),(fun z=>by rw [z,t2 _ _ upd_same] at h3; cases h3),(fun z=>by rw [z,upd_same] at h3; cases h3)⟩
  have n4:dd ≠ a/\dd ≠ hd/\dd ≠ kd/\dd ≠ ls:=⟨(fun z=>by rw [z,t3 _ _ (t2 _ _ (t1 _ _ upd_same))] at h4; cases h4),(fun z=>by rw [z,t3 _ _ (t2 _ _ upd_same)] at h4; cases h4),(fun z=>by rw [z,t3 _ _ upd_same] at h4; cases h4),(fun z=>by rw [z,upd_same] at h4; cases h4)⟩
  have e2:=same_none (t0.trans t1) h2
  have e3:=same_none ((t0.trans t1).trans t2) h3
  have e4:=same_none (((t0.trans t1).trans t2).trans t3) h4
  refine k a hd kd ls dd _ sF (fun b hb => ?_) ⟨upd_same,by rw [upd_ne n1]; exact (t2.trans t3).trans t4 _ _ upd_same,fun e he=>(nomatch he),by rw [upd_ne n2.1]; exact t3.trans t4 _ _ upd_same,⟨[],[],by rw [upd_ne n3.1]; exact t4 _ _ upd_same,.nil,Nat.zero_le _,⟨fun y l ⟨u,hu,_⟩=>(nomatch hu),fun y h=>(nomatch h)⟩⟩,by rw [upd_ne n4.1]; exact upd_same,rfl,?_⟩
  ·simp only [List.mem_cons,List.not_mem_nil,or_false] at hb
   rcases hb with rfl | rfl | rfl | rfl | rfl
   ·exact ha
   ·exact same_none t0 h1
   ·exact e2
   ·exact e3
   ·exact e4
  ·show [a,hd,kd,ls,dd].Nodup
   simp only [List.nodup_cons,List.mem_cons,List.not_mem_nil,or_false,not_or,not_false_eq_true,List.nodup_nil,and_true]
   exact ⟨⟨Ne.symm n1,Ne.symm n2.1,Ne.symm n3.1,Ne.symm n4.1⟩,⟨Ne.symm n2.2,Ne.symm n3.2.1,Ne.symm n4.2.1⟩,⟨Ne.symm n3.2.2,Ne.symm n4.2.2.1⟩,Ne.symm n4.2.2.2⟩
end
end K76
namespace K76
open PySem PySem.Spec PyProof.Rows L2 GM TM
structure LpA (zi:List (Th × Addr))(es eg:Th × Addr)(y:Str)(m:Int):Prop where
 hs:es ∈ zi
 hg:eg ∈ zi
 ey:eg.1.x=y
 ne:y ≠ es.1.x
 m1:1<=m
 mT:m<=es.1.T
 mb:m<=1000000
def Adr (H:Hp)(zi zi':List (Th × Addr)):Prop:=∀ e ∈ zi',e.2 ∈ zi.map (·.2)\/H e.2=none
def spLpour:Sp:=fun vs H Q _=>∃ a hd kd ls dd big F today n ds zi es eg y m N,vs=[.ref a,.str es.1.x,.str y,.int m]/\LG H a hd kd ls dd big F today n ds zi/\LpA zi es eg y m /\
 ∀ zi' H',KpL (La a hd kd ls dd zi) H H'->Tk H H'->(zi'.map fun e=>e.1)=(zi.map fun e=>e.1).map (Th.poured es.1 y m N)->Adr H zi zi'->LS H' a hd kd ls dd big (F*es.1.T) today n ds zi'->Q .non H'
theorem nd_snd {zi:List (Th × Addr)}(nd:(zi.map (·.2)).Nodup) : ∀ {i j:Nat} {e e':Th × Addr},zi[i]?=some e->zi[j]?=some e'->i ≠ j->e.2 ≠ e'.2:=by
 intro i j e e' hi hj ne q
 have li:(zi.map (·.2))[i]?=some e.2:=by rw [List.getElem?_map,hi]; rfl
 have lj:(zi.map (·.2))[j]?=some e'.2:=by rw [List.getElem?_map,hj]; rfl
 rw [q] at li
 have h1:=(List.getElem?_eq_some_iff.mp li).1
 have h2:=(List.getElem?_eq_some_iff.mp lj).1
 exact ne ((List.getElem?_inj h1 nd).mp (li.trans lj.symm))
theorem nd_pr {zi:List (Th × Addr)}(nd:((zi.map (·.1)).map Th.x).Nodup) : ∀ {u v:Th × Addr},u ∈ zi->v ∈ zi->u.1.x=v.1.x->u=v:=by
 induction zi with
 | nil=>intro u v h; cases h
 | cons z zs ih =>
  intro u v hu hv e
  rw [List.map_cons,List.map_cons,List.nodup_cons] at nd
  have inx : ∀ {t:Th × Addr},t ∈ zs->t.1.x ∈ (zs.map (·.1)).map Th.x:=fun {t} ht=>List.mem_map_of_mem (f:=Th.x) (List.mem_map_of_mem (f:=(·.1)) ht)
  rcases List.mem_cons.mp hu with e1 | h1
  ·rcases List.mem_cons.mp hv with e2 | h2
   ·rw [e1,e2]
   ·rw [e1] at e
    exact absurd (e ▸ inx h2) nd.1
  ·rcases List.mem_cons.mp hv with e2 | h2
   ·rw [e2] at e
    exact absurd (e ▸ inx h1) nd.1
   ·exact ih nd.2 h1 h2 e
theorem nd_sn {zi:List (Th × Addr)}(nd:(zi.map (·.2)).Nodup) : ∀ {u v:Th × Addr},u ∈ zi->v ∈ zi->u.2=v.2->u=v:=by
 induction zi with
 | nil=>intro u v h; cases h
 | cons z zs ih =>
  intro u v hu hv e
  rw [List.map_cons,List.nodup_cons] at nd
  rcases List.mem_cons.mp hu with e1 | h1
  ·rcases List.mem_cons.mp hv with e2 | h2
   ·rw [e1,e2]
   ·rw [e1] at e
    exact absurd (e ▸ List.mem_map_of_mem (f:=(·.2)) h2) nd.1
  ·rcases List.mem_cons.mp hv with e2 | h2
   ·rw [e2] at e
    exact absurd (e ▸ List.mem_map_of_mem (f:=(·.2)) h1) nd.1
   ·exact ih nd.2 h1 h2 e
theorem nd_repl {dn:Addr}{x:Str} : ∀ {zi:List (Th × Addr)},(zi.map (·.2)).Nodup->((zi.map (·.1)).map Th.x).Nodup->dn ∉ zi.map (·.2)->(zi.map fun e=>if e.1.x=x then dn else e.2).Nodup
 | [],_,_,_=>.nil
 | u :: zi,n1,n2,hd=>by
  rw [List.map_cons,List.nodup_cons] at n1
  rw [List.map_cons,List.map_cons,List.nodup_cons] at n2
  rw [List.map_cons,List.mem_cons,not_or] at hd
  rw [List.map_cons,List.nodup_cons]
  refine ⟨fun h => ?_,nd_repl n1.2 n2.2 hd.2⟩
  obtain ⟨e,he,q⟩:=List.mem_map.mp h
  have i1:e.2 ∈ zi.map (·.2):=List.mem_map_of_mem (f:=(·.2)) he
  have i2:e.1.x ∈ (zi.map (·.1)).map Th.x:=List.mem_map_of_mem (f:=Th.x) (List.mem_map_of_mem (f:=(·.1)) he)
  by_cases a:u.1.x=x <;> by_cases b:e.1.x=x
  ·exact n2.1 (a.trans b.symm ▸ i2)
  ·rw [if_pos a,if_neg b] at q
   exact hd.2 (q ▸ i1)
  ·rw [if_neg a,if_pos b] at q
   exact hd.1 q
  ·rw [if_neg a,if_neg b] at q
   exact n1.1 (q ▸ i1)
section
variable {P:Program}{w:World}{K:PySem.W.Frag}{mg:Str->Option Value}{base:Heap}
theorem scLpour:FnScope ["_law_here","_law_source","_law_goal","_law_many","_law_total_here","_law_name","_law_lot","_law_gone"] ["_law_here","_law_source","_law_goal","_law_many"] (defScope sLpour):=⟨rfl,rfl,rfl,by decide +kernel,rfl,by decide +kernel,by decide +kernel⟩
theorem ok_lpour {f:Addr}{fd:FuncData}(F:Fun K "_law_pour" "_law_pour" sLpour f fd)(T:Txt mg)(cT:Cal P w K mg base CX0 1 "_law_total" ["_law_here","_law_name"] spLtot):FnOk P w K mg base CX0 2 f fd ["_law_here","_law_source","_law_goal","_law_many"] spLpour:=by
 refine F.ok scLpour (fun vs H Q E h => ?_) (fun cdv A outer s0 H vs Q E hr h => ?_)
 ·obtain ⟨_,_,_,_,_,_,_,_,_,_,_,_,_,_,_,_,rfl,_⟩:=h
  rfl
 ·obtain ⟨a,hd,kd,ls,dd,big,Fn,today,n,ds,zi,es,eg,y,m,N,rfl,B,A0,k⟩:=h
  refine ⟨_,(pss_cons (ps_set (i:=4) scLpour.nd rfl (Or.inl rfl) (pe_cal cT hr rfl pass0 (pa_cons (pv 0) (pa_cons (pv 1) pa_nil))))
   (pss_cons (ps_thaw (ps_for PassesOwn.never rfl (pi_dict (pe_dget (hu_of hr) (pv 0) pe_str (fun _ _=>rfl))) (pg_name (i:=5) scLpour.nd rfl (Or.inl rfl))
    (pss_one (ps_for PassesOwn.never rfl (pi_list (pe_callTy (call_listD rfl) rfl T.list' bt_list (pa_cons (pe_dget (hu_of hr) (pe_dget (hu_of hr) (pv 0) pe_str (fun _ _=>rfl)) (pv 5) (fun _ _=>rfl)) pa_nil))) (pg_name (i:=6) scLpour.nd rfl (Or.inl rfl))
     (pss_one (ps_dput (hu_of hr) (pe_dget (hu_of hr) (pe_dget (hu_of hr) (pv 0) pe_str (fun _ _=>rfl)) (pv 5) (fun _ _=>rfl)) (pv 6) (pe_op op_mulB (pe_dget (hu_of hr) (pe_dget (hu_of hr) (pe_dget (hu_of hr) (pv 0) pe_str (fun _ _=>rfl)) (pv 5) (fun _ _=>rfl)) (pv 6) (fun _ _=>rfl)) (pv 4)) rfl))))))
   (pss_cons (ps_dput (hu_of hr) (pv 0) pe_str (pe_op op_mulB (pe_dget (hu_of hr) (pv 0) pe_str (fun _ _=>rfl)) (pv 4)) rfl)
   (pss_cons (ps_for PassesOwn.never rfl (pi_list (pe_callTy (call_listD rfl) rfl T.list' bt_list (pa_cons (pe_dget (hu_of hr) (pe_dget (hu_of hr) (pv 0) pe_str (fun _ _=>rfl)) (pv 1) (fun _ _=>rfl)) pa_nil))) (pg_name (i:=6) scLpour.nd rfl (Or.inl rfl))
    (pss_cons (ps_set (i:=7) scLpour.nd rfl (Or.inl rfl) (pe_op op_fdivB (pe_op op_mulB (pe_dget (hu_of hr) (pe_dget (hu_of hr) (pe_dget (hu_of hr) (pv 0) pe_str (fun _ _=>rfl)) (pv 1) (fun _ _=>rfl)) (pv 6) (fun _ _=>rfl)) (pv 3)) (pv 4)))
    (pss_cons (ps_dput (hu_of hr) (pe_dget (hu_of hr) (pe_dget (hu_of hr) (pv 0) pe_str (fun _ _=>rfl)) (pv 1) (fun _ _=>rfl)) (pv 6) (pe_op op_sub (pe_dget (hu_of hr) (pe_dget (hu_of hr) (pe_dget (hu_of hr) (pv 0) pe_str (fun _ _=>rfl)) (pv 1) (fun _ _=>rfl)) (pv 6) (fun _ _=>rfl)) (pv 7)) rfl)
    (pss_one (ps_dput (hu_of hr) (pe_dget (hu_of hr) (pe_dget (hu_of hr) (pv 0) pe_str (fun _ _=>rfl)) (pv 2) (fun _ _=>rfl)) (pv 6) (pe_op op_add (pe_dget2 (hu_of hr) (pe_dget (hu_of hr) (pe_dget (hu_of hr) (pv 0) pe_str (fun _ _=>rfl)) (pv 2) (fun _ _=>rfl)) (pv 6) pe_int ⟨rfl,rfl,rfl,rfl⟩) (pv 7)) rfl)))))
   (pss_one (ps_if (pt_cmpR op_eq (pv 3) (pv 4) (nomark _)) (pss_one (ps_dput (hu_of hr) (pe_dget (hu_of hr) (pv 0) pe_str (fun _ _=>rfl)) (pv 1) pe_dnewK rfl)) pss_nil)))))),?_⟩
  obtain ⟨hs,hg,ey,ne,m1,mT,mb⟩:=A0
  have nd:=B.g.nd
  have T1:1<=es.1.T:=by omega
  have M0:=B.g.M0
  have n60:=B.g.n60
  have nds:(zi.map (·.2)).Nodup:=(List.nodup_append.mp B.s.nda).2.1
  have nO : ∀ b ∈ [a,hd,kd,ls,dd],b ∉ zi.map (·.2):=fun b hb hz=>(List.nodup_append.mp B.s.nda).2.2 b hb b hz rfl
  have n5:=(List.nodup_append.mp B.s.nda).1
  have okz : ∀ e ∈ zi,TOk Fn n e.1:=fun e he=>B.g.ok e.1 (List.mem_map_of_mem he)
  have os:=okz es hs
  have bTs:Bt 26 es.1.T:=bT os.T0 os.Tb n60
  have fnn : ∀ e ∈ zi,∀ x,0<=e.1.f x/\Bt 1386 (e.1.f x):=fun e he x=>by
   by_cases hx:x ∈ e.1.ks
   ·have p:=(okz e he).pos x hx
    have le:=sum_mem (f:=e.1.f) (fun z=>by
     by_cases hz:z ∈ e.1.ks
     ·have:=(okz e he).pos z hz; omega
     ·rw [(okz e he).out z hz]; exact Int.le_refl _) hx
    rw [(okz e he).sum] at le
    exact ⟨by omega,(bTM B.g (okz e he)).le (by omega) le⟩
   ·rw [(okz e he).out x hx]
    exact ⟨Int.le_refl _,(bt_lt 2 (c:=2) (by decide) (by decide)).mono (by decide)⟩
  refine ⟨_,rfl,_,rfl,a,hd,kd,ls,dd,big,Fn,today,n,ds,zi,es,rfl,B,hs,fun H1 s1 => ?_⟩
  have B1:=B.same s1
  refine ⟨_,rfl,a,_,rfl,dg B1.s.ha hk_held,hd,_,rfl,B1.s.hh,fun ob => ?_⟩
  have hfz:(upd H1 hd (.frz ob (.dK (zi.map keyX)))) hd=some (.frz ob (.dK (zi.map keyX))):=upd_same
  have old2 : ∀ b o,b ≠ hd->H1 b=some o->(upd H1 hd (.frz ob (.dK (zi.map keyX)))) b=some o:=fun b o nb e=>by rw [upd_ne nb]; exact e
  have nha:a ≠ hd:=fun z=>by rw [z] at n5; simp at n5
  have hio : ∀ e ∈ zi,e.2 ≠ hd:=fun e he z=>nO hd (by simp) (z ▸ List.mem_map_of_mem he)
  have tk2:Tk H1 (upd H1 hd (.frz ob (.dK (zi.map keyX)))):=Tk.dk B1.s.hh
  have bk2 : ∀ {H':Hp} (b:Addr) (o:HO),b ∉ zi.map (·.2)->(∀ b o,b ∉ zi.map (·.2)->(upd H1 hd (.frz ob (.dK (zi.map keyX)))) b=some o->H' b=some o)->H1 b=some o->(upd H' hd (.dK (zi.map keyX))) b=some o:=fun {H'} b o nb hh e=>by
   by_cases z:b=hd
   ·subst z
    rw [B1.s.hh] at e
    cases e
    exact upd_same
   ·rw [upd_ne z]
    exact hh b o nb (old2 b o z e)
  generalize upd H1 hd (.frz ob (.dK (zi.map keyX)))=H2 at hfz old2 tk2 bk2 ⊢
  refine for_dict (fun i σ H'=>∃ v5 v6,σ=[some (.ref a),some (.str es.1.x),some (.str y),some (.int m),some (.int es.1.T),v5,v6,none]/\(∀ (j:Nat) e,zi[j]?=some e->Inn H' (if j < i then (e.1.scale es.1.T,e.2) else e))/\∀ b o,b ∉ zi.map (·.2)->H2 b=some o->H' b=some o) ?_ ?_ ?_ ?_
  ·refine ⟨none,none,rfl,fun j e he => ?_,fun _ _ _ e=>e⟩
   rw [if_neg (Nat.not_lt_zero _)]
   exact (B1.s.inn e (List.mem_of_getElem? he)).keep fun o q=>old2 _ _ (hio e (List.mem_of_getElem? he)) q
  ·rintro i σ H' _ ⟨_,_,rfl,_,s3⟩
   exact s3 _ _ (nO hd (by simp)) hfz
  ·rintro i kv σ H' hkv ⟨v5,v6,rfl,inn,s3⟩
   rw [List.getElem?_map] at hkv
   obtain ⟨e,he,rfl⟩:=Option.map_eq_some_iff.mp hkv
   have hez:=List.mem_of_getElem? he
   have ie:=inn i e he
   rw [if_neg (Nat.lt_irrefl _)] at ie
   obtain ⟨kvs,ks,e1,hi,mem⟩:=ie
   have ha':=s3 _ _ (nO a (by simp)) (old2 _ _ nha B1.s.ha)
   have hh':=s3 _ _ (nO hd (by simp)) hfz
   have gx : ∀ {X:Hp},X hd=some (.frz ob (.dK (zi.map keyX)))->DGet X hd (.str e.1.x) (some (.ref e.2)):=fun {X} q=>by
    have:=DGet.r (k:=Sum.inr e.1.x) (.inr ⟨ob,q⟩:Rd X hd (.dK (zi.map keyX)))
    rw [LS.getX nd hez] at this
    exact this
   have kl:=(okz e hez).ilen hi mem
   have tl:=(okz e hez).ln
   refine ⟨_,rfl,a,_,rfl,dg ha' hk_held,_,rfl,hd,_,rfl,gx hh',e.2,kvs,ks,rfl,e1,hi.dk.keys,fun dl hdl => ?_⟩
   have t4:=Same.upd (o:=.lst (ks.map V.str)) hdl
   have nle:dl ≠ e.2:=fun z=>by rw [z,e1] at hdl; cases hdl
   refine ⟨dl,rfl,⟨_,SqL.of upd_same⟩,?_⟩
   have hl4:(upd H' dl (.lst (ks.map V.str))) dl=some (.lst (ks.map V.str)):=upd_same
   have ha4:=t4 _ _ ha'
   have hh4:=t4 _ _ hh'
   have e14:=t4 _ _ e1
   generalize upd H' dl (.lst (ks.map V.str))=H4 at t4 hl4 ha4 hh4 e14 ⊢
   refine for_list (xs:=ks.map V.str) (fun j σ H5=>∃ v6 kvs' ks',σ=[some (.ref a),some (.str es.1.x),some (.str y),some (.int m),some (.int es.1.T),some (.str e.1.x),v6,none]/\H5 e.2=some (.dK kvs')/\HI kvs' ks' (fun x=>if x ∈ ks.take j then e.1.f x*es.1.T else e.1.f x)/\(∀ x,x ∈ ks' ↔ x ∈ ks)/\∀ b o,b ≠ e.2->H4 b=some o->H5 b=some o) ?_ ?_ ?_ ?_
   ·exact ⟨_,kvs,ks,rfl,e14,hi.congr fun x=>by simp,fun x=>Iff.rfl,fun _ _ _ q=>q⟩
   ·rintro j σ H5 _ ⟨_,_,_,rfl,_,_,_,s5⟩
    exact SqL.of (s5 _ _ nle hl4)
   ·rintro j v σ H5 hv ⟨v6',kvs',ks',rfl,h5,hi5,m5,s5⟩
    rw [List.getElem?_map] at hv
    obtain ⟨x,hx,rfl⟩:=Option.map_eq_some_iff.mp hv
    have xn:=not_before hi.dk.nd hx
    have xk:=List.mem_of_getElem? hx
    have ev:=hi5.v x ((m5 x).mpr xk)
    rw [if_neg xn] at ev
    have a5:=s5 a _ (fun z:a=e.2=>nO a (by simp) (z ▸ List.mem_map_of_mem (f:=(·.2)) hez)) ha4
    have h5':=s5 _ _ (Ne.symm (hio e hez)) hh4
    have fb:=(fnn e hez x).2
    obtain ⟨ks6,hi6,m6,_⟩:=hi5.put (g:=fun x=>if x ∈ ks.take (j+1) then e.1.f x*es.1.T else e.1.f x) (y:=x) (fun z hz=>by
     have:z ∈ ks.take (j+1) ↔ z ∈ ks.take j:=by rw [take_snoc hx]; simp [hz]
     simp only [this])
    have ex:(if x ∈ ks.take (j+1) then e.1.f x*es.1.T else e.1.f x)=e.1.f x*es.1.T:=if_pos (by rw [take_snoc hx]; simp)
    rw [ex] at hi6
    have l5:ks'.length=ks.length:=((List.perm_ext_iff_of_nodup hi5.dk.nd hi.dk.nd).mpr m5).length_eq
    refine ⟨_,rfl,a,_,rfl,dg a5 hk_held,_,rfl,hd,_,rfl,gx h5',_,rfl,e.2,_,rfl,dg h5 ev,_,rfl,_,_,rfl,rfl,⟨b6 fb,b6 bTs⟩,_,rfl,a,_,rfl,dg a5 hk_held,_,rfl,hd,_,rfl,gx h5',_,rfl,e.2,_,rfl,DPut.k (k:=Sum.inr x) h5 (small1000 (by rw [hi5.dk.len]; omega)),?_⟩
    refine ⟨_,_,ks6,rfl,upd_same,hi6,fun z => ?_,fun b o nb q=>by rw [upd_ne nb]; exact s5 _ _ nb q⟩
    rw [m6,m5]
    exact ⟨fun q=>q.elim id (fun q=>q ▸ xk),.inl⟩
   ·rintro σ H5 ⟨v6',kvs',ks',rfl,h5,hi5,m5,s5⟩
    rw [List.length_map,List.take_length] at hi5
    refine ⟨_,_,rfl,fun j e' he' => ?_,fun b o nb q=>s5 _ _ (fun z=>nb (z ▸ List.mem_map_of_mem hez)) (t4 _ _ (s3 _ _ nb q))⟩
    by_cases ji:j=i
    ·subst ji
     rw [he] at he'
     cases he'
     rw [if_pos (Nat.lt_succ_self _)]
     refine ⟨kvs',ks',h5,hi5.congr fun x => ?_,fun x=>(m5 x).trans (mem x)⟩
     show (if x ∈ ks then e.1.f x*es.1.T else e.1.f x)=e.1.f x*es.1.T
     by_cases q:x ∈ ks
     ·rw [if_pos q]
     ·rw [if_neg q,(okz e hez).out x (fun z=>q ((mem x).mpr z)),Int.zero_mul]
    ·have ne':=nd_snd nds he' he ji
     have key:Inn H' (if j < i then (e'.1.scale es.1.T,e'.2) else e'):=inn j e' he'
     have c:(j < i+1) ↔ (j < i):=by omega
     simp only [c]
     refine key.keep fun o q => ?_
     have e2:(if j < i then (e'.1.scale es.1.T,e'.2) else e').2=e'.2:=by split <;> rfl
     rw [e2] at q ⊢
     exact s5 _ _ ne' (t4 _ _ q)
  ·rintro σ H' ⟨v5,v6,rfl,inn,s3⟩
   rw [List.length_map] at inn
   have hh':=s3 _ _ (nO hd (by simp)) hfz
   refine ⟨hd,ob,zi.map keyX,hh',no_frz B.s.hh,?_⟩
   have fr3 : ∀ b o,b ∉ zi.map (·.2)->H1 b=some o->(upd H' hd (.dK (zi.map keyX))) b=some o:=fun b o nb q=>bk2 b o nb s3 q
   have inn3 : ∀ e ∈ zi,Inn (upd H' hd (.dK (zi.map keyX))) (e.1.scale es.1.T,e.2):=fun e he=>by
    obtain ⟨j,hj⟩:=List.mem_iff_getElem?.mp he
    have q:=inn j e hj
    rw [if_pos (List.getElem?_eq_some_iff.mp hj).1] at q
    exact q.keep fun o z=>by rw [upd_ne (hio e he)]; exact z
   have hh3:(upd H' hd (.dK (zi.map keyX))) hd=some (.dK (zi.map keyX)):=upd_same
   generalize upd H' hd (.dK (zi.map keyX))=H3 at fr3 inn3 hh3 ⊢
   clear inn s3 hh' hfz old2 bk2 tk2
   have ha3:=fr3 _ _ (nO a (by simp)) B1.s.ha
   have lt7:(hkv big Fn hd kd ls today dd).length < sizeLine:=small1000 (by show 7<=1000; decide)
   refine ⟨_,rfl,a,_,rfl,dg ha3 hk_fine,_,rfl,_,_,rfl,rfl,⟨b6 B.g.bm,b6 bTs⟩,_,rfl,a,_,rfl,DPut.k (k:=Sum.inr "fine") ha3 lt7,?_⟩
   rw [hk_putF]
   have ha4:(upd H3 a (.dK (hkv big (Fn*es.1.T) hd kd ls today dd))) a=some (.dK (hkv big (Fn*es.1.T) hd kd ls today dd)):=upd_same
   have fr4 : ∀ b o,b ≠ a->H3 b=some o->(upd H3 a (.dK (hkv big (Fn*es.1.T) hd kd ls today dd))) b=some o:=fun b o nb q=>by rw [upd_ne nb]; exact q
   have hia : ∀ e ∈ zi,e.2 ≠ a:=fun e he z=>nO a (by simp) (z ▸ List.mem_map_of_mem (f:=(·.2)) he)
   have inn4 : ∀ e ∈ zi,Inn (upd H3 a (.dK (hkv big (Fn*es.1.T) hd kd ls today dd))) (e.1.scale es.1.T,e.2):=fun e he=>(inn3 e he).keep fun o z=>fr4 _ _ (hia e he) z
   have hh4:=fr4 _ _ (Ne.symm nha) hh3
   generalize upd H3 a (.dK (hkv big (Fn*es.1.T) hd kd ls today dd))=H4 at ha4 fr4 inn4 hh4 ⊢
   obtain ⟨kA,lA,eA,hA,mA⟩:=inn4 es hs
   obtain ⟨kB,lB,eB,hB,mB⟩:=inn4 eg hg
   have nsg:es.2 ≠ eg.2:=fun z=>by
    obtain ⟨i,hi⟩:=List.mem_iff_getElem?.mp hs
    obtain ⟨j,hj⟩:=List.mem_iff_getElem?.mp hg
    by_cases q:i=j
    ·subst q
     rw [hi] at hj
     cases hj
     exact ne ey.symm
    ·exact nd_snd nds hi hj q z
   have og:=okz eg hg
   have lAl:lA.length=es.1.ks.length:=((List.perm_ext_iff_of_nodup hA.dk.nd os.nd).mpr mA).length_eq
   have lBl:lB.length=eg.1.ks.length:=((List.perm_ext_iff_of_nodup hB.dk.nd og.nd).mpr mB).length_eq
   have tlA:=os.ln
   have tlB:=og.ln
   have gs : ∀ {X:Hp},X hd=some (.dK (zi.map keyX))->DGet X hd (.str es.1.x) (some (.ref es.2)):=fun {X} q=>dg q (LS.getX nd hs)
   have gg : ∀ {X:Hp},X hd=some (.dK (zi.map keyX))->DGet X hd (.str y) (some (.ref eg.2)):=fun {X} q=>by rw [<- ey]; exact dg q (LS.getX nd hg)
   refine ⟨_,rfl,a,_,rfl,dg ha4 hk_held,_,rfl,hd,_,rfl,gs hh4,es.2,kA,lA,rfl,eA,hA.dk.keys,fun dl hdl => ?_⟩
   have t5:=Same.upd (o:=.lst (lA.map V.str)) hdl
   have nl1:dl ≠ es.2:=fun z=>by rw [z,eA] at hdl; cases hdl
   have nl2:dl ≠ eg.2:=fun z=>by rw [z,eB] at hdl; cases hdl
   refine ⟨dl,rfl,⟨_,SqL.of upd_same⟩,?_⟩
   have hl5:(upd H4 dl (.lst (lA.map V.str))) dl=some (.lst (lA.map V.str)):=upd_same
   generalize upd H4 dl (.lst (lA.map V.str))=H5 at t5 hl5 ⊢
   refine for_list (xs:=lA.map V.str) (fun j σ H6=>∃ v5 v6 v7 kA' lA' kB' lB',σ=[some (.ref a),some (.str es.1.x),some (.str y),some (.int m),some (.int es.1.T),v5,v6,v7]/\H6 es.2=some (.dK kA')/\HI kA' lA' (fun x=>if x ∈ lA.take j then es.1.f x*(es.1.T - m) else es.1.f x*es.1.T)/\(∀ x,x ∈ lA' ↔ x ∈ lA)/\H6 eg.2=some (.dK kB')/\HI kB' lB' (fun x=>eg.1.f x*es.1.T+if x ∈ lA.take j then es.1.f x*m else 0)/\(∀ x,x ∈ lB' ↔ x ∈ lB\/x ∈ lA.take j)/\lB'.length<=lB.length+j/\∀ b o,b ≠ es.2->b ≠ eg.2->H5 b=some o->H6 b=some o) ?_ ?_ ?_ ?_
   ·exact ⟨_,_,none,kA,lA,kB,lB,rfl,t5 _ _ eA,hA.congr fun x=>(by show es.1.f x*es.1.T=_; simp),fun x=>Iff.rfl,t5 _ _ eB,hB.congr fun x=>(by show eg.1.f x*es.1.T=_; simp),fun x=>by simp,Nat.le_refl _,fun _ _ _ _ q=>q⟩
   ·rintro j σ H6 _ ⟨_,_,_,_,_,_,_,rfl,_,_,_,_,_,_,_,s6⟩
    exact SqL.of (s6 _ _ nl1 nl2 hl5)
   ·rintro j v σ H6 hv ⟨v5,v6,v7,kA',lA',kB',lB',rfl,h6,hi6,m6,g6,gi6,gm6,gl6,s6⟩
    rw [List.getElem?_map] at hv
    obtain ⟨x,hx,rfl⟩:=Option.map_eq_some_iff.mp hv
    have hj:=(List.getElem?_eq_some_iff.mp hx).1
    have xn:=not_before hA.dk.nd hx
    have xk:=List.mem_of_getElem? hx
    have xi:x ∈ lA.take (j+1):=by rw [take_snoc hx]; simp
    have xo : ∀ z,z ≠ x->(z ∈ lA.take (j+1) ↔ z ∈ lA.take j):=fun z hz=>by rw [take_snoc hx]; simp [hz]
    have ev:=hi6.v x ((m6 x).mpr xk)
    rw [if_neg xn] at ev
    have a6:=s6 a _ (Ne.symm (hia es hs)) (Ne.symm (hia eg hg)) (t5 _ _ ha4)
    have h6':=s6 hd _ (Ne.symm (hio es hs)) (Ne.symm (hio eg hg)) (t5 _ _ hh4)
    have fb:=(fnn es hs x).2
    have bm':Bt 26 m:=bt_lt 26 (c:=67108864) (by omega) (by omega)
    have l6:lA'.length=lA.length:=((List.perm_ext_iff_of_nodup hi6.dk.nd hA.dk.nd).mpr m6).length_eq
    refine ⟨_,rfl,a,_,rfl,dg a6 hk_held,_,rfl,hd,_,rfl,gs h6',_,rfl,es.2,_,rfl,dg h6 ev,_,rfl,_,_,rfl,rfl,⟨b6 (fb.mul bTs),b6 bm'⟩,_,rfl,_,_,rfl,rfl,⟨by omega,bTs.mono (by decide)⟩,?_⟩
    have eg':es.1.f x*es.1.T*m / es.1.T=es.1.f x*m:=by
     rw [show es.1.f x*es.1.T*m=es.1.f x*m*es.1.T by grind,Int.mul_ediv_cancel _ (by omega)]
    dsimp only
    rw [eg']
    obtain ⟨l7,hi7,m7,_⟩:=hi6.put (g:=fun x=>if x ∈ lA.take (j+1) then es.1.f x*(es.1.T - m) else es.1.f x*es.1.T) (y:=x) (fun z hz=>by simp only [xo z hz])
    have e7:(if x ∈ lA.take (j+1) then es.1.f x*(es.1.T - m) else es.1.f x*es.1.T)=es.1.f x*es.1.T - es.1.f x*m:=by rw [if_pos xi]; grind
    rw [e7] at hi7
    refine ⟨_,rfl,a,_,rfl,dg a6 hk_held,_,rfl,hd,_,rfl,gs h6',_,rfl,es.2,_,rfl,dg h6 ev,_,rfl,_,_,rfl,rfl,_,rfl,a,_,rfl,dg a6 hk_held,_,rfl,hd,_,rfl,gs h6',_,rfl,es.2,_,rfl,DPut.k (k:=Sum.inr x) h6 (small1000 (by rw [hi6.dk.len]; omega)),?_⟩
    have a7:(upd H6 es.2 (.dK (putK kA' (Sum.inr x) (.int (es.1.f x*es.1.T - es.1.f x*m))))) a=_:=(upd_ne (Ne.symm (hia es hs))).trans a6
    have h7':(upd H6 es.2 (.dK (putK kA' (Sum.inr x) (.int (es.1.f x*es.1.T - es.1.f x*m))))) hd=_:=(upd_ne (Ne.symm (hio es hs))).trans h6'
    have h7:(upd H6 es.2 (.dK (putK kA' (Sum.inr x) (.int (es.1.f x*es.1.T - es.1.f x*m))))) es.2=some (.dK (putK kA' (Sum.inr x) (.int (es.1.f x*es.1.T - es.1.f x*m)))):=upd_same
    have g7:(upd H6 es.2 (.dK (putK kA' (Sum.inr x) (.int (es.1.f x*es.1.T - es.1.f x*m))))) eg.2=_:=(upd_ne (Ne.symm nsg)).trans g6
    have s7 : ∀ b o,b ≠ es.2->b ≠ eg.2->H5 b=some o->(upd H6 es.2 (.dK (putK kA' (Sum.inr x) (.int (es.1.f x*es.1.T - es.1.f x*m))))) b=some o:=fun b o n1 n2 q=>by rw [upd_ne n1]; exact s6 _ _ n1 n2 q
    generalize upd H6 es.2 (.dK (putK kA' (Sum.inr x) (.int (es.1.f x*es.1.T - es.1.f x*m))))=H7 at a7 h7' h7 g7 s7 ⊢
    have gd:=gi6.getD x
    rw [if_neg xn,Int.add_zero] at gd
    obtain ⟨l8,hi8,m8,ln8⟩:=gi6.put (g:=fun x=>eg.1.f x*es.1.T+if x ∈ lA.take (j+1) then es.1.f x*m else 0) (y:=x) (fun z hz=>by simp only [xo z hz])
    have e8:(eg.1.f x*es.1.T+if x ∈ lA.take (j+1) then es.1.f x*m else 0)=eg.1.f x*es.1.T+es.1.f x*m:=by rw [if_pos xi]
    rw [e8] at hi8
    refine ⟨_,rfl,a,_,rfl,dg a7 hk_held,_,rfl,hd,_,rfl,gg h7',eg.2,rfl,.inl ⟨kB',.inl g7⟩,_,rfl,_,DGet.k (k:=Sum.inr x) g7,?_⟩
    rw [gd]
    refine ⟨_,rfl,_,_,rfl,rfl,_,rfl,a,_,rfl,dg a7 hk_held,_,rfl,hd,_,rfl,gg h7',_,rfl,eg.2,_,rfl,DPut.k (k:=Sum.inr x) g7 (small1000 (by rw [gi6.dk.len]; omega)),?_⟩
    refine ⟨_,_,_,_,l7,_,l8,rfl,(upd_ne nsg).trans h7,hi7,fun z => ?_,upd_same,hi8,fun z => ?_,by omega,fun b o n1 n2 q=>by rw [upd_ne n2]; exact s7 _ _ n1 n2 q⟩
    ·rw [m7,m6]
     exact ⟨fun q=>q.elim id (fun q=>q ▸ xk),.inl⟩
    ·rw [m8,gm6,take_snoc hx,List.mem_append,List.mem_singleton]
     exact or_assoc
   ·rintro σ H6 ⟨v5,v6,v7,kA',lA',kB',lB',rfl,h6,hi6,m6,g6,gi6,gm6,gl6,s6⟩
    rw [List.length_map,List.take_length] at hi6 gi6 gm6
    have a6:=s6 a _ (Ne.symm (hia es hs)) (Ne.symm (hia eg hg)) (t5 _ _ ha4)
    have h6':=s6 hd _ (Ne.symm (hio es hs)) (Ne.symm (hio eg hg)) (t5 _ _ hh4)
    have nkd : ∀ b ∈ [kd,ls,dd],b ∉ zi.map (·.2)/\b ≠ hd/\b ≠ a:=fun b hb=>by
     refine ⟨nO b (by simp at hb ⊢; rcases hb with h | h | h <;> simp [h]),fun z => ?_,fun z => ?_⟩
     ·rw [z] at hb
      simp only [List.nodup_cons,List.mem_cons,List.not_mem_nil,or_false,not_or] at n5 hb
      rcases hb with h | h | h
      ·exact n5.2.1.1 h
      ·exact n5.2.1.2.1 h
      ·exact n5.2.1.2.2 h
     ·rw [z] at hb
      simp only [List.nodup_cons,List.mem_cons,List.not_mem_nil,or_false,not_or] at n5 hb
      rcases hb with h | h | h
      ·exact n5.1.2.1 h
      ·exact n5.1.2.2.1 h
      ·exact n5.1.2.2.2 h
    have to6 : ∀ b o,b ∉ zi.map (·.2)->b ≠ hd->b ≠ a->H1 b=some o->H6 b=some o:=fun b o nb nh na q=>s6 b o (fun z=>nb (z ▸ List.mem_map_of_mem (f:=(·.2)) hs)) (fun z=>nb (z ▸ List.mem_map_of_mem (f:=(·.2)) hg)) (t5 _ _ (fr4 _ _ na (fr3 _ _ nb q)))
    obtain ⟨lk,lks,hls,ldk,lll,lval⟩:=B1.s.hl
    have ih : ∀ e ∈ zi,e.1.x ≠ es.1.x->Inn H6 (Th.poured es.1 y m N e.1,e.2):=fun e he nx=>by
     unfold Th.poured
     rw [if_neg nx]
     by_cases q:e.1.x=y
     ·rw [if_pos q]
      have:e=eg:=nd_pr nd he hg (q.trans ey.symm)
      subst this
      refine ⟨kB',lB',g6,gi6.congr fun x => ?_,fun x => ?_⟩
      ·show (e.1.f x*es.1.T+if x ∈ lA then es.1.f x*m else 0)=e.1.f x*es.1.T+es.1.f x*m
       by_cases z:x ∈ lA
       ·rw [if_pos z]
       ·rw [if_neg z,os.out x (fun w=>z ((mA x).mpr w)),Int.zero_mul]
      ·show _ ↔ x ∈ (e.1.got es.1 m N).ks
       rw [gm6,got_mem]
       exact or_congr (mB x) (mA x)
     ·rw [if_neg q]
      refine (inn4 e he).keep fun o z=>s6 _ _ (fun w => ?_) (fun w => ?_) (t5 _ _ z)
      ·exact nx (congrArg (fun u:Th × Addr=>u.1.x) (nd_sn nds he hs w))
      ·exact q ((congrArg (fun u:Th × Addr=>u.1.x) (nd_sn nds he hg w)).trans ey)
    have eK : ∀ adr:Th × Addr->Addr,(zi.map fun e=>(Th.poured es.1 y m N e.1,adr e)).map keyK=zi.map keyK:=fun adr=>by
     rw [List.map_map]
     refine List.map_congr_left fun e _ => ?_
     show ((Sum.inr (Th.poured es.1 y m N e.1).x:Key),V.str (Th.poured es.1 y m N e.1).k)=(Sum.inr e.1.x,V.str e.1.k)
     rw [poured_x,poured_kl.1]
    have eM : ∀ adr:Th × Addr->Addr,∀ x,(∃ u ∈ zi.map (·.1),u.x=x/\u.k=("lot" : Str))->∃ u ∈ (zi.map fun e=>(Th.poured es.1 y m N e.1,adr e)).map (·.1),u.x=x/\u.k=("lot" : Str):=fun adr x ⟨u,hu,e1,e2⟩=>by
     obtain ⟨e,he,rfl⟩:=List.mem_map.mp hu
     refine ⟨Th.poured es.1 y m N e.1,?_,?_,?_⟩
     ·rw [List.map_map]; exact List.mem_map.mpr ⟨e,he,rfl⟩
     ·rw [poured_x]; exact e1
     ·rw [poured_kl.1]; exact e2
    have eL : ∀ adr:Th × Addr->Addr,∀ x l,LstOf ((zi.map fun e=>(Th.poured es.1 y m N e.1,adr e)).map (·.1)) x l->LstOf (zi.map (·.1)) x l:=fun adr x l ⟨u,hu,e1,e2,e3⟩=>by
     rw [List.map_map] at hu
     obtain ⟨e,he,rfl⟩:=List.mem_map.mp hu
     refine ⟨e.1,List.mem_map_of_mem he,?_,?_,?_⟩
     ·rw [<- e1]; exact poured_x.symm
     ·rw [<- e2]; exact poured_kl.1.symm
     ·rw [<- e3]; exact poured_kl.2.symm
    have e1 : ∀ adr:Th × Addr->Addr,((zi.map fun e=>(Th.poured es.1 y m N e.1,adr e)).map fun e=>e.1)=(zi.map fun e=>e.1).map (Th.poured es.1 y m N):=fun adr=>by
     rw [List.map_map,List.map_map]
     rfl
    have e2 : ∀ adr:Th × Addr->Addr,((zi.map fun e=>(Th.poured es.1 y m N e.1,adr e)).map (·.2))=zi.map adr:=fun adr=>by
     rw [List.map_map]
     rfl
    have frT : ∀ {HF:Hp},(∀ b o,b ∉ zi.map (·.2)->b ≠ hd->b ≠ a->H1 b=some o->HF b=some o)->KpL (La a hd kd ls dd zi) H HF/\Tk H HF:=fun {HF} hh=>by
     refine ⟨fun b o nb q=>hh b o (fun z=>nb (List.mem_append_right _ z)) (fun z=>nb (List.mem_append_left _ (by rw [z]; simp))) (fun z=>nb (List.mem_append_left _ (by rw [z]; simp))) (s1 _ _ q),fun b xs q => ?_⟩
     refine hh b _ (fun z => ?_) (fun z => ?_) (fun z => ?_) (s1 _ _ q)
     ·obtain ⟨e,he,rfl⟩:=List.mem_map.mp z
      obtain ⟨_,_,w,_⟩:=B.s.inn e he
      rw [w] at q
      cases q
     ·rw [z,B.s.hh] at q; cases q
     ·rw [z,B.s.ha] at q; cases q
    have lX:(zi.map keyX).length < sizeLine:=small1000 (by rw [List.length_map]; have:=B.g.ln; rw [List.length_map] at this; omega)
    refine ⟨_,rfl,_,rfl,rfl,_,rfl,ite2 (fun hc => ?_) (fun hc => ?_)⟩
    ·have mTe:m=es.1.T:=V.int.inj (of_decide_eq_true hc)
     intro dn hdn
     have t8:=Same.upd (o:=.dK []) hdn
     refine ⟨_,rfl,a,_,rfl,dg (t8 _ _ a6) hk_held,_,rfl,hd,_,rfl,DPut.k (k:=Sum.inr es.1.x) (t8 _ _ h6') lX,?_⟩
     have dnN : ∀ {b:Addr} {o:HO},H6 b=some o->b ≠ dn:=fun {b o} q z=>by rw [z,hdn] at q; cases q
     have dni:dn ∉ zi.map (·.2):=fun z=>by
      obtain ⟨e,he,q⟩:=List.mem_map.mp z
      by_cases w:e.2=es.2
      ·exact dnN h6 (w.symm.trans q)
      ·by_cases w2:e.2=eg.2
       ·exact dnN g6 (w2.symm.trans q)
       ·obtain ⟨_,_,w3,_⟩:=inn4 e he
        exact dnN (s6 _ _ w w2 (t5 _ _ w3)) q
     have keyE:putK (zi.map keyX) (Sum.inr es.1.x) (.ref dn)=(zi.map fun e=>(Th.poured es.1 y m N e.1,if e.1.x=es.1.x then dn else e.2)).map keyX:=by
      rw [put_in (LS.getX nd hs),List.map_map,List.map_map]
      refine List.map_congr_left fun e _ => ?_
      show (if (Sum.inr e.1.x:Key)=Sum.inr es.1.x then ((Sum.inr e.1.x:Key),V.ref dn) else (Sum.inr e.1.x,V.ref e.2))=(Sum.inr (Th.poured es.1 y m N e.1).x,V.ref (if e.1.x=es.1.x then dn else e.2))
      rw [poured_x]
      by_cases q:e.1.x=es.1.x
      ·rw [if_pos (by rw [q]),if_pos q]
      ·rw [if_neg (fun z=>q (Sum.inr.inj z)),if_neg q]
     rw [keyE]
     have dnh:dn ≠ hd:=fun z=>dnN h6' z.symm
     have up : ∀ b o,b ≠ hd->H6 b=some o->(upd (upd H6 dn (.dK [])) hd (.dK ((zi.map fun e=>(Th.poured es.1 y m N e.1,if e.1.x=es.1.x then dn else e.2)).map keyX))) b=some o:=fun b o nb q=>by rw [upd_ne nb]; exact t8 _ _ q
     have hdn':(upd (upd H6 dn (.dK [])) hd (.dK ((zi.map fun e=>(Th.poured es.1 y m N e.1,if e.1.x=es.1.x then dn else e.2)).map keyX))) dn=some (.dK []):=by rw [upd_ne dnh]; exact upd_same
     have hhF:(upd (upd H6 dn (.dK [])) hd (.dK ((zi.map fun e=>(Th.poured es.1 y m N e.1,if e.1.x=es.1.x then dn else e.2)).map keyX))) hd=some (.dK ((zi.map fun e=>(Th.poured es.1 y m N e.1,if e.1.x=es.1.x then dn else e.2)).map keyX)):=upd_same
     generalize upd (upd H6 dn (.dK [])) hd (.dK ((zi.map fun e=>(Th.poured es.1 y m N e.1,if e.1.x=es.1.x then dn else e.2)).map keyX))=HF at up hdn' hhF ⊢
     obtain ⟨kp,tkF⟩:=frT (HF:=HF) fun b o nb nh na q=>up b o nh (to6 b o nb nh na q)
     have dn0:H dn=none:=by
      cases q:H dn with
      | none=>rfl
      | some o =>
       exfalso
       have nz:dn ≠ a:=fun z=>dnN a6 z.symm
       exact dnN (to6 dn o dni dnh nz (s1 _ _ q)) rfl
     refine k _ HF kp tkF (e1 _) (fun e he => ?_) ⟨up _ _ nha a6,hhF,fun e he => ?_,?_,⟨lk,lks,?_,ldk,lll,⟨fun x l q=>lval.v x l (eL _ x l q),fun x hx=>eM _ x (lval.m x hx)⟩⟩,?_,B.s.dl,?_⟩
     ·obtain ⟨u,hu,rfl⟩:=List.mem_map.mp he
      show (if u.1.x=es.1.x then dn else u.2) ∈ _\/H (if u.1.x=es.1.x then dn else u.2)=none
      split
      ·exact .inr dn0
      ·exact .inl (List.mem_map_of_mem hu)
     ·obtain ⟨u,hu,rfl⟩:=List.mem_map.mp he
      by_cases q:u.1.x=es.1.x
      ·have:u=es:=nd_pr nd hu hs q
       subst this
       show Inn HF (Th.poured u.1 y m N u.1,if u.1.x=u.1.x then dn else u.2)
       rw [if_pos rfl]
       unfold Th.poured
       rw [if_pos rfl]
       refine ⟨[],[],hdn',⟨.nil,(fun _ h=>absurd h List.not_mem_nil),fun x _ => ?_⟩,fun x => ?_⟩
       ·show u.1.f x*(u.1.T - m)=0
        rw [mTe,Int.sub_self,Int.mul_zero]
       ·show x ∈ [] ↔ x ∈ (if m < u.1.T then u.1.ks else [])
        rw [if_neg (by omega)]
      ·show Inn HF (Th.poured es.1 y m N u.1,if u.1.x=es.1.x then dn else u.2)
       rw [if_neg q]
       exact (ih u hu q).keep fun o z=>up _ _ (hio u hu) z
     ·rw [eK]
      obtain ⟨w1,w2,w3⟩:=nkd kd (by simp)
      exact up _ _ w2 (to6 _ _ w1 w2 w3 B1.s.hk)
     ·obtain ⟨w1,w2,w3⟩:=nkd ls (by simp)
      exact up _ _ w2 (to6 _ _ w1 w2 w3 hls)
     ·obtain ⟨w1,w2,w3⟩:=nkd dd (by simp)
      exact up _ _ w2 (to6 _ _ w1 w2 w3 B1.s.hdd)
     ·rw [e2]
      refine List.nodup_append.mpr ⟨n5,nd_repl nds nd dni,fun b hb c hc q => ?_⟩
      subst q
      obtain ⟨u,hu,q⟩:=List.mem_map.mp hc
      by_cases w:u.1.x=es.1.x
      ·rw [if_pos w] at q
       subst q
       simp only [List.mem_cons,List.not_mem_nil,or_false] at hb
       rcases hb with z | z | z | z | z
       ·exact dnN a6 z.symm
       ·exact dnh z
       ·obtain ⟨w1,w2,w3⟩:=nkd kd (by simp)
        exact dnN (to6 _ _ w1 w2 w3 B1.s.hk) z.symm
       ·obtain ⟨w1,w2,w3⟩:=nkd ls (by simp)
        exact dnN (to6 _ _ w1 w2 w3 hls) z.symm
       ·obtain ⟨w1,w2,w3⟩:=nkd dd (by simp)
        exact dnN (to6 _ _ w1 w2 w3 B1.s.hdd) z.symm
      ·rw [if_neg w] at q
       exact nO b hb (q ▸ List.mem_map_of_mem (f:=(·.2)) hu)
    ·have mTn:m < es.1.T:=by
      have : ¬ m=es.1.T:=fun z=>hc (decide_eq_true (congrArg V.int z))
      omega
     obtain ⟨kp,tkF⟩:=frT (HF:=H6) to6
     refine k (zi.map fun e=>(Th.poured es.1 y m N e.1,e.2)) H6 kp tkF (e1 _) (fun e he => ?_) ⟨a6,?_,fun e he => ?_,?_,⟨lk,lks,?_,ldk,lll,⟨fun x l q=>lval.v x l (eL _ x l q),fun x hx=>eM _ x (lval.m x hx)⟩⟩,?_,B.s.dl,?_⟩
     ·obtain ⟨u,hu,rfl⟩:=List.mem_map.mp he
      exact .inl (List.mem_map_of_mem (f:=(·.2)) hu)
     ·rw [h6',List.map_map]
      refine congrArg (fun l=>some (HO.dK l)) (List.map_congr_left fun e _ => ?_)
      show ((Sum.inr e.1.x:Key),V.ref e.2)=(Sum.inr (Th.poured es.1 y m N e.1).x,V.ref e.2)
      rw [poured_x]
     ·obtain ⟨u,hu,rfl⟩:=List.mem_map.mp he
      by_cases q:u.1.x=es.1.x
      ·have:u=es:=nd_pr nd hu hs q
       subst this
       show Inn H6 (Th.poured u.1 y m N u.1,u.2)
       unfold Th.poured
       rw [if_pos rfl]
       refine ⟨kA',lA',h6,hi6.congr fun x => ?_,fun x => ?_⟩
       ·show (if x ∈ lA then u.1.f x*(u.1.T - m) else u.1.f x*u.1.T)=u.1.f x*(u.1.T - m)
        by_cases z:x ∈ lA
        ·rw [if_pos z]
        ·rw [if_neg z,os.out x (fun w=>z ((mA x).mpr w)),Int.zero_mul,Int.zero_mul]
       ·show _ ↔ x ∈ (if m < u.1.T then u.1.ks else [])
        rw [if_pos mTn,m6]
        exact mA x
      ·exact ih u hu q
     ·rw [eK (fun e=>e.2)]
      obtain ⟨w1,w2,w3⟩:=nkd kd (by simp)
      exact to6 _ _ w1 w2 w3 B1.s.hk
     ·obtain ⟨w1,w2,w3⟩:=nkd ls (by simp)
      exact to6 _ _ w1 w2 w3 hls
     ·obtain ⟨w1,w2,w3⟩:=nkd dd (by simp)
      exact to6 _ _ w1 w2 w3 B1.s.hdd
     ·rw [e2 (fun e=>e.2)]
      exact B.s.nda
end
end K76
namespace K76
open PySem PySem.Spec PyProof.Rows L2 GM TM
inductive Dd where
 | take (x w:Str) (m l:Int)
 | go (d:Int)
 | pour (x y:Str) (m:Int)
 | give (x y:Str) (m:Int)
def Dd.row:Dd->List V
 | .take x w m l=>[.str "take",.str x,.str w,.int m,.int l]
 | .go d=>[.str "go",.int d]
 | .pour x y m=>[.str "pour",.str x,.str y,.int m]
 | .give x y m=>[.str "give",.str x,.str y,.int m]
inductive Stp (n:Nat)(M:Int)(zs:List Th)(today:Int):Dd->Int->List Th->Int->Prop where
 | take {x w:Str} {m l:Int}:Wr x->Wr w->x ∉ zs.map Th.x->1<=m->m<=1000000->0<=l->l<=1000000->Stp n M zs today (.take x w m l) M (zs ++ [Th.lot M x m l]) today
 | go {d:Int}:today<=d->0<=d->d<=1000000->Stp n M zs today (.go d) M zs d
 | pour {s:Th} {y:Str} {m:Int}:PoA zs s y m today n->(∀ z ∈ zs,z.x=y->z.k = "store")->Stp n M zs today (.pour s.x y m) (M*s.T) (after zs s y "store" m n) today
 | give {s:Th} {y:Str} {m:Int}:PoA zs s y m today n->y ∉ zs.map Th.x->Stp n M zs today (.give s.x y m) (M*s.T) (after zs s y "dose" m n) today
theorem zok_pre {M:Int}{n:Nat}{zs:List Th}{y k:Str}(g:ZOk M n zs)(wy:Wr y)(hk:k = "store" \/ k = "dose")(n1:n+1<=52):ZOk M (n+1) (if y ∈ zs.map Th.x then zs else zs ++ [Th.ves y k]):=by
 obtain ⟨all,nd,len,inc⟩:=pre_ok g wy hk
 refine ⟨nd,fun z hz => ?_,fun z hz=>(all z hz).2.1,fun z hz x hx => ?_,g.M0,g.bM.mono (by omega),len,n1⟩
 ·obtain ⟨a,b,c,d,e,f,t,k⟩:=(all z hz).1
  exact ⟨a,b,c,d,e,f,by omega,by omega⟩
 ·obtain ⟨u,hu,q⟩:=(all z hz).2.2 x hx
  exact ⟨u,inc u hu,q⟩
def spDo (C:Addr)(K:PySem.W.Frag):Sp:=fun vs H Q _=>∃ L p dl dt db bs kvs day bf M n zs,∃ (d:Dd) (M':Int) (zs':List Th) (day':Int) (q:Addr),vs=[.ref p,.ref q]/\PS C H L p dl dt db bs kvs day bf M n zs/\SqT K H q d.row/\Stp n M zs day d M' zs' day'/\n+1<=52/\Nxt C H L p dl dt db bs day' M' n zs' d.row Q
def spApply:Sp:=fun vs H Q _=>∃ a hd kd ls dd big F today n ds zi,∃ (d:Dd) (F':Int) (zs':List Th) (today':Int) (q:Addr),vs=[.ref a,.ref q]/\LG H a hd kd ls dd big F today n ds zi/\H q=some (.tup d.row)/\Stp n F (zi.map (·.1)) today d F' zs' today'/\n+1<=52 /\
 ∀ zi' H',KpL (La a hd kd ls dd zi) H H'->Tk H H'->(zi'.map fun e=>e.1)=zs'->Adr H zi zi'->LS H' a hd kd ls dd big F' today' (n+1) (ds ++ [.ref q]) zi'->Q .non H'
section
variable {P:Program}{w:World}{K:PySem.W.Frag}{mg:Str->Option Value}{base:Heap}
theorem scDo:FnScope ["_law_books","_law_deed"] ["_law_books","_law_deed"] (defScope sDo):=⟨rfl,rfl,rfl,by decide +kernel,rfl,by decide +kernel,by decide +kernel⟩
theorem ok_do {f C:Addr}{fd:FuncData}(F:Fun K "_law_do" "_law_do" sDo f fd)(L:Cl K mg C)(mT:MCal P w K mg base CX0 7 C "take" ["self","name","ware","many","last"] (spTake C))(mP:MCal P w K mg base CX0 7 C "pour" ["self","source","goal","many"] (spPour C))(mG:MCal P w K mg base CX0 7 C "give" ["self","source","name","many"] (spGive C))(mO:MCal P w K mg base CX0 7 C "go" ["self","day"] (spGo C)):FnOk P w K mg base CX0 8 f fd ["_law_books","_law_deed"] (spDo C K):=by
 refine F.ok scDo (fun vs H Q E h => ?_) (fun cdv A outer s0 H vs Q E hr h => ?_)
 ·obtain ⟨_,_,_,_,_,_,_,_,_,_,_,_,_,_,_,_,_,rfl,_⟩:=h
  rfl
 ·obtain ⟨ad,p,dl,dt,db,bs,kvs,day,bf,M,n,zs,d,M',zs',day',q,rfl,B,sq,st,n1,k⟩:=h
  refine ⟨_,(pss_cons (ps_if (pt_cmpR op_eq (pit 1 0) pe_str (nomark _)) (pss_one (ps_ret (pe_mc L.cl mT hr pass0 (pv 0) (pa_cons (pit 1 1) (pa_cons (pit 1 2) (pa_cons (pit 1 3) (pa_cons (pit 1 4) pa_nil))))))) pss_nil)
   (pss_cons (ps_if (pt_cmpR op_eq (pit 1 0) pe_str (nomark _)) (pss_one (ps_ret (pe_mc L.cl mP hr pass0 (pv 0) (pa_cons (pit 1 1) (pa_cons (pit 1 2) (pa_cons (pit 1 3) pa_nil)))))) pss_nil)
   (pss_cons (ps_if (pt_cmpR op_eq (pit 1 0) pe_str (nomark _)) (pss_one (ps_ret (pe_mc L.cl mG hr pass0 (pv 0) (pa_cons (pit 1 1) (pa_cons (pit 1 2) (pa_cons (pit 1 3) pa_nil)))))) pss_nil)
   (pss_one (ps_ret (pe_mc L.cl mO hr pass0 (pv 0) (pa_cons (pit 1 1) pa_nil))))))),?_⟩
  obtain ⟨⟨dx,h0⟩,_⟩:=id B.bk
  have no : ∀ {x z:Str},x ≠ z->decide (V.str x=V.str z)=false:=fun h=>decide_eq_false fun q=>h (V.str.inj q)
  cases st with
  | take wx ww nx m1 mb l0 l1 =>
   refine ⟨q,_,_,rfl,sq,rfl,rfl,_,rfl,?_⟩
   rw [decide_eq_true rfl]
   exact iteT ⟨_,rfl,p,dx,_,rfl,h0,(by kernel_rfl),q,_,_,rfl,sq,rfl,q,_,_,rfl,sq,rfl,q,_,_,rfl,sq,rfl,q,_,_,rfl,sq,rfl,ad,p,dl,dt,db,bs,kvs,day,bf,M,n,zs,_,_,_,_,rfl,B,wx,ww,nx,m1,mb,l0,l1,n1,k⟩
  | go d0 d1 d2 =>
   refine ⟨q,_,_,rfl,sq,rfl,rfl,_,rfl,?_⟩
   rw [no (by decide +kernel)]
   refine iteF ⟨q,_,_,rfl,sq,rfl,rfl,_,rfl,?_⟩
   rw [no (by decide +kernel)]
   refine iteF ⟨q,_,_,rfl,sq,rfl,rfl,_,rfl,?_⟩
   rw [no (by decide +kernel)]
   exact iteF ⟨_,rfl,p,dx,_,rfl,h0,(by kernel_rfl),q,_,_,rfl,sq,rfl,ad,p,dl,dt,db,bs,kvs,day,bf,M,n,zs,_,rfl,B,d0,d1,d2,n1,k⟩
  | pour a st' =>
   refine ⟨q,_,_,rfl,sq,rfl,rfl,_,rfl,?_⟩
   rw [no (by decide +kernel)]
   refine iteF ⟨q,_,_,rfl,sq,rfl,rfl,_,rfl,?_⟩
   rw [decide_eq_true rfl]
   exact iteT ⟨_,rfl,p,dx,_,rfl,h0,(by kernel_rfl),q,_,_,rfl,sq,rfl,q,_,_,rfl,sq,rfl,q,_,_,rfl,sq,rfl,ad,p,dl,dt,db,bs,kvs,day,bf,M,n,zs,_,_,_,rfl,B,a,st',k⟩
  | give a st' =>
   refine ⟨q,_,_,rfl,sq,rfl,rfl,_,rfl,?_⟩
   rw [no (by decide +kernel)]
   refine iteF ⟨q,_,_,rfl,sq,rfl,rfl,_,rfl,?_⟩
   rw [no (by decide +kernel)]
   refine iteF ⟨q,_,_,rfl,sq,rfl,rfl,_,rfl,?_⟩
   rw [decide_eq_true rfl]
   exact iteT ⟨_,rfl,p,dx,_,rfl,h0,(by kernel_rfl),q,_,_,rfl,sq,rfl,q,_,_,rfl,sq,rfl,q,_,_,rfl,sq,rfl,ad,p,dl,dt,db,bs,kvs,day,bf,M,n,zs,_,_,_,rfl,B,a,st',k⟩
end
end K76
namespace K76
open PySem PySem.Spec PyProof.Rows L2 GM TM
section
variable {H H':Hp}{a hd kd ls dd:Addr}{big:Bool}{F today:Int}{n:Nat}{ds:List V}{zi:List (Th × Addr)}
structure Five (a hd kd ls dd:Addr)(zi:List (Th × Addr)):Prop where
 ah:a ≠ hd
 ak:a ≠ kd
 al:a ≠ ls
 ad:a ≠ dd
 hk:hd ≠ kd
 hl:hd ≠ ls
 hd':hd ≠ dd
 kl:kd ≠ ls
 kd':kd ≠ dd
 ld:ls ≠ dd
 o : ∀ e ∈ zi,e.2 ≠ a/\e.2 ≠ hd/\e.2 ≠ kd/\e.2 ≠ ls/\e.2 ≠ dd
theorem LS.five (B:LS H a hd kd ls dd big F today n ds zi):Five a hd kd ls dd zi:=by
 have n5:=(List.nodup_append.mp B.nda).1
 have nO : ∀ b ∈ [a,hd,kd,ls,dd],∀ e ∈ zi,e.2 ≠ b:=fun b hb e he z=>(List.nodup_append.mp B.nda).2.2 b hb b (z ▸ List.mem_map_of_mem (f:=(·.2)) he) rfl
 simp only [List.nodup_cons,List.mem_cons,List.not_mem_nil,or_false,not_or] at n5
 obtain ⟨⟨h1,h2,h3,h4⟩,⟨h5,h6,h7⟩,⟨h8,h9⟩,h10,_⟩:=n5
 exact ⟨h1,h2,h3,h4,h5,h6,h7,h8,h9,h10,fun e he=>⟨nO a (by simp) e he,nO hd (by simp) e he,nO kd (by simp) e he,nO ls (by simp) e he,nO dd (by simp) e he⟩⟩
theorem notTup (B:LS H a hd kd ls dd big F today n ds zi){q:Addr}{xs:List V}(h:H q=some (.tup xs)):q ∉ La a hd kd ls dd zi:=fun z=>by
 rcases List.mem_append.mp z with z | z
 ·simp only [List.mem_cons,List.not_mem_nil,or_false] at z
  obtain ⟨lk,_,hl,_⟩:=B.hl
  rcases z with rfl | rfl | rfl | rfl | rfl
  ·rw [B.ha] at h; cases h
  ·rw [B.hh] at h; cases h
  ·rw [B.hk] at h; cases h
  ·rw [hl] at h; cases h
  ·rw [B.hdd] at h; cases h
 ·obtain ⟨e,he,rfl⟩:=List.mem_map.mp z
  obtain ⟨_,_,w,_⟩:=B.inn e he
  rw [w] at h; cases h
theorem LS.tk (B:LS H a hd kd ls dd big F today n ds zi)(k:KpL (La a hd kd ls dd zi) H H'):Tk H H':=fun b xs e=>k b _ (notTup B e) e
theorem LS.allo (B:LS H a hd kd ls dd big F today n ds zi) : ∀ b ∈ La a hd kd ls dd zi,H b ≠ none:=fun b hb z=>by
 rcases List.mem_append.mp hb with w | w
 ·simp only [List.mem_cons,List.not_mem_nil,or_false] at w
  obtain ⟨lk,_,hl,_⟩:=B.hl
  rcases w with rfl | rfl | rfl | rfl | rfl
  ·rw [B.ha] at z; cases z
  ·rw [B.hh] at z; cases z
  ·rw [B.hk] at z; cases z
  ·rw [hl] at z; cases z
  ·rw [B.hdd] at z; cases z
 ·obtain ⟨e,he,rfl⟩:=List.mem_map.mp w
  obtain ⟨_,_,w,_⟩:=B.inn e he
  rw [w] at z; cases z
end
section
variable {P:Program}{w:World}{K:PySem.W.Frag}{mg:Str->Option Value}{base:Heap}
theorem scApply:FnScope ["_law_here","_law_deed"] ["_law_here","_law_deed"] (defScope sApply):=⟨rfl,rfl,rfl,by decide +kernel,rfl,by decide +kernel,by decide +kernel⟩
def pick2 (b:Bool):Str:=if b then "dose" else "store"
theorem ok_apply {f:Addr}{fd:FuncData}(F:Fun K "_law_apply" "_law_apply" sApply f fd)(T:Txt mg)(cP:Cal P w K mg base CX0 2 "_law_pour" ["_law_here","_law_source","_law_goal","_law_many"] spLpour):FnOk P w K mg base CX0 3 f fd ["_law_here","_law_deed"] spApply:=by
 refine F.ok scApply (fun vs H Q E h => ?_) (fun cdv A outer s0 H vs Q E hr h => ?_)
 ·obtain ⟨_,_,_,_,_,_,_,_,_,_,_,_,_,_,_,_,rfl,_⟩:=h
  rfl
 ·obtain ⟨a,hd,kd,ls,dd,big,Fn,today,n,ds,zi,d,F',zs',today',q,rfl,B,hq,st,n1,k⟩:=h
  refine ⟨_,(pss_cons (ps_expr (pe_bm PySem.F.plainAttrs_list PySem.F.slot_list_append PySem.F.type_list_append mt_append (pe_dget (hu_of hr) (pv 0) pe_str (fun _ _=>rfl)) (pa_cons (pv 1) pa_nil)))
   (pss_one (ps_if (pt_cmpR op_eq (pit 1 0) pe_str (nomark _))
    (pss_cons (ps_dput (hu_of hr) (pe_dget (hu_of hr) (pv 0) pe_str (fun _ _=>rfl)) (pit 1 1) pe_str rfl)
    (pss_cons (ps_dput (hu_of hr) (pe_dget (hu_of hr) (pv 0) pe_str (fun _ _=>rfl)) (pit 1 1) (pe_disp (pps_cons (pit 1 1) (pe_op op_mulB (pit 1 3) (pe_dget (hu_of hr) (pv 0) pe_str (fun _ _=>rfl))) pps_nil) rfl rfl (by simp) (by decide)) rfl)
    (pss_one (ps_dput (hu_of hr) (pe_dget (hu_of hr) (pv 0) pe_str (fun _ _=>rfl)) (pit 1 1) (pit 1 4) rfl))))
    (pss_one (ps_if (pt_cmpR op_eq (pit 1 0) pe_str (nomark _))
     (pss_one (ps_dput (hu_of hr) (pv 0) pe_str (pit 1 1) rfl))
     (pss_cons (ps_if (pt_cmp (pc_dnotin (hu_of hr) (pit 1 2) (pe_dget (hu_of hr) (pv 0) pe_str (fun _ _=>rfl))))
      (pss_cons (ps_dput (hu_of hr) (pe_dget (hu_of hr) (pv 0) pe_str (fun _ _=>rfl)) (pit 1 2) (pe_ix ix_list (pe_lst (pa_cons pe_str (pa_cons pe_str pa_nil))) (pe_callTy call_int1 rfl T.int' bt_int (pa_cons (pe_cmpR op_eq (pit 1 0) pe_str (nomark _)) pa_nil)) (fun _ _=>rfl)) rfl)
      (pss_one (ps_dput (hu_of hr) (pe_dget (hu_of hr) (pv 0) pe_str (fun _ _=>rfl)) (pit 1 2) pe_dnewK rfl)))
      pss_nil)
     (pss_one (ps_expr (pe_cal cP hr rfl pass0 (pa_cons (pv 0) (pa_cons (pit 1 1) (pa_cons (pit 1 2) (pa_cons (pit 1 3) pa_nil))))))))))))),?_⟩
  have nd:=B.g.nd
  have v5:=B.s.five
  have zl:=B.g.ln
  rw [List.length_map] at zl
  have n60:=B.g.n60
  refine ⟨_,rfl,a,_,rfl,dg B.s.ha hk_deeds,.inl ⟨rfl,_,SqL.of B.s.hdd⟩,_,rfl,dd,_,_,rfl,rfl,B.s.hdd,small1000 (by rw [B.s.dl]; omega),?_⟩
  have qdd:q ≠ dd:=ne_of hq B.s.hdd (by intro z; cases z)
  have hq1:(upd H dd (.lst (ds ++ [.ref q]))) q=some (.tup d.row):=by rw [upd_ne qdd]; exact hq
  have fr1 : ∀ b o,b ≠ dd->H b=some o->(upd H dd (.lst (ds ++ [.ref q]))) b=some o:=fun b o nb e=>by rw [upd_ne nb]; exact e
  have B1:LS (upd H dd (.lst (ds ++ [.ref q]))) a hd kd ls dd big Fn today (n+1) (ds ++ [.ref q]) zi:=by
   obtain ⟨h1,h2,h3,h4,⟨lk,lks,h5,h6,h6',h6''⟩,h7,h8,h9⟩:=B.s
   exact ⟨fr1 _ _ v5.ad h1,fr1 _ _ v5.hd' h2,fun e he=>(h3 e he).keep fun o z=>fr1 _ _ (v5.o e he).2.2.2.2 z,fr1 _ _ v5.kd' h4,⟨lk,lks,fr1 _ _ v5.ld h5,h6,by omega,h6''⟩,upd_same,by rw [List.length_append,h8]; rfl,h9⟩
  have kp1:KpL (La a hd kd ls dd zi) H (upd H dd (.lst (ds ++ [.ref q]))):=fun b o nb e=>fr1 b o (fun z=>nb (List.mem_append_left _ (by rw [z]; simp))) e
  have no1 : ∀ b,(upd H dd (.lst (ds ++ [.ref q]))) b=none->H b=none:=fun b z=>by
   cases hb:H b with
   | none=>rfl
   | some o =>
    by_cases e:b=dd
    ·rw [e,upd_same] at z; cases z
    ·rw [fr1 b o e hb] at z; cases z
  generalize upd H dd (.lst (ds ++ [.ref q]))=H1 at hq1 fr1 B1 kp1 no1 ⊢
  have no : ∀ {x z:Str},x ≠ z->decide (V.str x=V.str z)=false:=fun h=>decide_eq_false fun q=>h (V.str.inj q)
  have pourC : ∀ (Q':VK) (E':XK) (s:Th) (y ky:Str) (m:Int) (zi0:List (Th × Addr)) (H2:Hp),PoA (zi.map (·.1)) s y m today n->(ky = "store" \/ ky = "dose")->(zi0.map (·.1))=(if y ∈ (zi.map (·.1)).map Th.x then (zi.map (·.1)) else (zi.map (·.1)) ++ [Th.ves y ky])->LS H2 a hd kd ls dd big Fn today (n+1) (ds ++ [.ref q]) zi0->KpL (La a hd kd ls dd zi) H H2->Adr H zi zi0->(∀ zi' H',KpL (La a hd kd ls dd zi) H H'->Tk H H'->(zi'.map fun e=>e.1)=after (zi.map (·.1)) s y ky m n->Adr H zi zi'->LS H' a hd kd ls dd big (Fn*s.T) today (n+1) (ds ++ [.ref q]) zi'->Q' .non H')->spLpour [.ref a,.str s.x,.str y,.int m] H2 Q' E':=fun Q' E' s y ky m zi0 H2 pa hk ez L2 kp2 ad2 kk=>by
   have g0:=zok_pre B.g pa.wy hk n1
   rw [<- ez] at g0
   have hs0:s ∈ zi0.map (·.1):=by rw [ez]; exact (pre_ok B.g pa.wy hk).2.2.2 s pa.hs
   obtain ⟨es,hes,rfl⟩:=List.mem_map.mp hs0
   have hy0:y ∈ (zi0.map (·.1)).map Th.x:=by
    rw [ez]
    by_cases z:y ∈ (zi.map (·.1)).map Th.x
    ·rw [if_pos z]; exact z
    ·rw [if_neg z,List.map_append]; exact List.mem_append_right _ (List.mem_singleton.mpr rfl)
   obtain ⟨t,ht,rfl⟩:=List.mem_map.mp hy0
   obtain ⟨eg,heg,rfl⟩:=List.mem_map.mp ht
   refine ⟨a,hd,kd,ls,dd,big,Fn,today,n+1,ds ++ [.ref q],zi0,es,eg,eg.1.x,m,n,rfl,⟨L2,g0⟩,⟨hes,heg,rfl,pa.ne,pa.m1,pa.mT,pa.mb⟩,fun zi' H' kp' tk' e' ad' L' => ?_⟩
   have in0 : ∀ b,b ∈ La a hd kd ls dd zi0->b ∈ La a hd kd ls dd zi\/H b=none:=fun b hb=>by
    rcases List.mem_append.mp hb with w | w
    ·exact .inl (List.mem_append_left _ w)
    ·obtain ⟨u,hu,rfl⟩:=List.mem_map.mp w
     exact (ad2 u hu).elim (fun z=>.inl (List.mem_append_right _ z)) .inr
   have kpF:KpL (La a hd kd ls dd zi) H H':=fun b o nb e=>kp' b o (fun z=>(in0 b z).elim nb (fun w=>by rw [w] at e; cases e)) (kp2 b o nb e)
   refine kk zi' H' kpF (B.s.tk kpF) ?_ (fun e he => ?_) L'
   ·rw [e']
    show (zi0.map (·.1)).map _=_
    rw [ez]
    rfl
   ·rcases ad' e he with w | w
    ·obtain ⟨u,hu,q⟩:=List.mem_map.mp w
     rw [<- q]
     exact ad2 u hu
    ·by_cases z:e.2 ∈ zi.map (·.2)
     ·exact .inl z
     ·refine .inr ?_
      cases hb:H e.2 with
      | none=>rfl
      | some o =>
       exfalso
       by_cases z2:e.2 ∈ La a hd kd ls dd zi
       ·exact L2.allo e.2 ((List.mem_append.mp z2).elim (fun w=>List.mem_append_left _ w) (fun w=>absurd w z)) w
       ·rw [kp2 e.2 o z2 hb] at w
        cases w
  cases st with
  | take wx ww nx m1 mb l0 l1 =>
   rename_i x wr m l
   have hq1':H1 q=some (.tup [.str "take",.str x,.str wr,.int m,.int l]):=hq1
   obtain ⟨h1,h2,h3,h4,⟨lk,lks,h5,h6,h6l,h6v⟩,h7,h8,h9⟩:=id B1
   have sm:(zi.map keyK).length < sizeLine:=small1000 (by rw [List.length_map]; omega)
   have smX:(zi.map keyX).length < sizeLine:=small1000 (by rw [List.length_map]; omega)
   have smL:lk.length < sizeLine:=small1000 (by rw [h6.len]; omega)
   refine ⟨q,_,_,rfl,SqT.of hq1,rfl,rfl,_,rfl,?_⟩
   rw [decide_eq_true rfl]
   refine iteT ⟨_,rfl,a,_,rfl,dg h1 hk_kinds,q,_,_,rfl,SqT.of hq1',rfl,kd,_,rfl,DPut.k (k:=Sum.inr x) h4 sm,?_⟩
   have eK:putK (zi.map keyK) (Sum.inr x) (.str "lot")=zi.map keyK ++ [(.inr x,.str "lot")]:=putK_new _ (key_no (φ:=fun e=>.str e.1.k) nx)
   rw [eK]
   have fr2 : ∀ b o,b ≠ kd->H1 b=some o->(upd H1 kd (.dK (zi.map keyK ++ [(.inr x,.str "lot")]))) b=some o:=fun b o nb e=>by rw [upd_ne nb]; exact e
   have k2:(upd H1 kd (.dK (zi.map keyK ++ [(.inr x,.str "lot")]))) kd=some (.dK (zi.map keyK ++ [(.inr x,.str "lot")])):=upd_same
   have no2 : ∀ b,(upd H1 kd (.dK (zi.map keyK ++ [(.inr x,.str "lot")]))) b=none->H1 b=none:=fun b z=>by
    by_cases e:b=kd
    ·rw [e,upd_same] at z; cases z
    ·rwa [upd_ne e] at z
   generalize upd H1 kd (.dK (zi.map keyK ++ [(.inr x,.str "lot")]))=H2 at fr2 k2 no2 ⊢
   have hq2:=fr2 _ _ (ne_of hq1' h4 (by intro z; cases z)) hq1'
   have a2:=fr2 _ _ v5.ak h1
   have hh2:=fr2 _ _ v5.hk h2
   have l2:=fr2 _ _ (Ne.symm v5.kl) h5
   have d2:=fr2 _ _ (Ne.symm v5.kd') h7
   have i2 : ∀ e ∈ zi,Inn H2 e:=fun e he=>(h3 e he).keep fun o z=>fr2 _ _ (v5.o e he).2.2.1 z
   intro dn hdn
   have dn0:H dn=none:=no1 _ (no2 _ hdn)
   have t3:=Same.upd (o:=.dK []) hdn
   refine ⟨q,_,_,rfl,SqT.of (t3 _ _ hq2),rfl,q,_,_,rfl,SqT.of (t3 _ _ hq2),rfl,_,rfl,a,_,rfl,dg (t3 _ _ a2) hk_fine,_,_,rfl,rfl,⟨b6 (bt_lt 20 (c:=1048576) (by omega) (by omega)),b6 B.g.bm⟩,upd_same,[(.inr x,.int (m*Fn))],rfl,by show 1<=15; decide,?_⟩
   rw [show mergeK [] [((.inr x:Key),V.int (m*Fn))]=[(.inr x,.int (m*Fn))] from rfl]
   have s4:Same H2 (upd (upd H2 dn (.dK [])) dn (.dK [(.inr x,.int (m*Fn))])):=same_own t3 hdn
   have dn4:(upd (upd H2 dn (.dK [])) dn (.dK [(.inr x,.int (m*Fn))])) dn=some (.dK [(.inr x,.int (m*Fn))]):=upd_same
   generalize upd (upd H2 dn (.dK [])) dn (.dK [(.inr x,.int (m*Fn))])=H4 at s4 dn4 ⊢
   have dnN : ∀ {b:Addr} {o:HO},H2 b=some o->dn ≠ b:=fun {b o} e z=>by rw [z,e] at hdn; cases hdn
   refine ⟨_,rfl,a,_,rfl,dg (s4 _ _ a2) hk_held,q,_,_,rfl,SqT.of (s4 _ _ hq2),rfl,hd,_,rfl,DPut.k (k:=Sum.inr x) (s4 _ _ hh2) smX,?_⟩
   have eX:putK (zi.map keyX) (Sum.inr x) (.ref dn)=(zi ++ [(Th.lot Fn x m l,dn)]).map keyX:=by
    have z:=putK_new (kvs:=zi.map keyX) (k:=Sum.inr x) (.ref dn) (key_no (φ:=fun e=>.ref e.2) nx)
    rw [z,List.map_append]
    rfl
   rw [eX]
   have fr5 : ∀ b o,b ≠ hd->H4 b=some o->(upd H4 hd (.dK ((zi ++ [(Th.lot Fn x m l,dn)]).map keyX))) b=some o:=fun b o nb e=>by rw [upd_ne nb]; exact e
   have hh5:(upd H4 hd (.dK ((zi ++ [(Th.lot Fn x m l,dn)]).map keyX))) hd=some (.dK ((zi ++ [(Th.lot Fn x m l,dn)]).map keyX)):=upd_same
   generalize upd H4 hd (.dK ((zi ++ [(Th.lot Fn x m l,dn)]).map keyX))=H5 at fr5 hh5 ⊢
   have qh:q ≠ hd:=ne_of hq2 hh2 (by intro z; cases z)
   have hq5:=fr5 _ _ qh (s4 _ _ hq2)
   refine ⟨q,_,_,rfl,SqT.of hq5,rfl,_,rfl,a,_,rfl,dg (fr5 _ _ v5.ah (s4 _ _ a2)) hk_lasts,q,_,_,rfl,SqT.of hq5,rfl,ls,_,rfl,DPut.k (k:=Sum.inr x) (fr5 _ _ (Ne.symm v5.hl) (s4 _ _ l2)) smL,?_⟩
   have fr6 : ∀ b o,b ≠ ls->H5 b=some o->(upd H5 ls (.dK (putK lk (Sum.inr x) (.int l)))) b=some o:=fun b o nb e=>by rw [upd_ne nb]; exact e
   have ls6:(upd H5 ls (.dK (putK lk (Sum.inr x) (.int l)))) ls=some (.dK (putK lk (Sum.inr x) (.int l))):=upd_same
   generalize upd H5 ls (.dK (putK lk (Sum.inr x) (.int l)))=H6 at fr6 ls6 ⊢
   have up : ∀ b o,b ≠ hd->b ≠ ls->H2 b=some o->H6 b=some o:=fun b o n1 n2 e=>fr6 b o n2 (fr5 b o n1 (s4 _ _ e))
   have kpF:KpL (La a hd kd ls dd zi) H H6:=fun b o nb e=>up b o (fun z=>nb (List.mem_append_left _ (by rw [z]; simp))) (fun z=>nb (List.mem_append_left _ (by rw [z]; simp))) (fr2 b o (fun z=>nb (List.mem_append_left _ (by rw [z]; simp))) (kp1 b o nb e))
   obtain ⟨lks',ldk',lm',ll'⟩:=h6.put x (.int l)
   have dnh:dn ≠ hd:=dnN hh2
   have dnl:dn ≠ ls:=dnN l2
   refine k (zi ++ [(Th.lot Fn x m l,dn)]) H6 kpF (B.s.tk kpF) (by rw [List.map_append]; rfl) (fun e he => ?_) ⟨up _ _ v5.ah v5.al a2,fr6 _ _ v5.hl hh5,fun e he => ?_,?_,⟨_,lks',ls6,ldk',?_,⟨fun y l' hy => ?_,fun y hy => ?_⟩⟩,up _ _ (Ne.symm v5.hd') (Ne.symm v5.ld) d2,h8,?_⟩
   ·rcases List.mem_append.mp he with he | he
    ·exact .inl (List.mem_map_of_mem he)
    ·rw [List.mem_singleton.mp he]; exact .inr dn0
   ·rcases List.mem_append.mp he with he | he
    ·exact (i2 e he).keep fun o z=>up _ _ (v5.o e he).2.1 (v5.o e he).2.2.2.1 z
    ·rw [List.mem_singleton.mp he]
     refine ⟨_,[x],fr6 _ _ dnl (fr5 _ _ dnh dn4),⟨⟨rfl,List.Pairwise.cons (fun _ h=>absurd h List.not_mem_nil) .nil⟩,fun y hy => ?_,fun y hy=>if_neg fun z=>hy (List.mem_singleton.mpr z)⟩,fun y=>Iff.rfl⟩
     obtain rfl:=List.mem_singleton.mp hy
     show valV [((Sum.inr y:Key),V.int (m*Fn))] (Sum.inr y)=some (.int (if y=y then m*Fn else 0))
     rw [if_pos rfl]
     exact valV_pos rfl
   ·rw [List.map_append]
    exact up _ _ (Ne.symm v5.hk) v5.kl k2
   ·have hz:lks.length<=n:=by
     obtain ⟨lk0,lks0,z1,z2,z3,_⟩:=B.s.hl
     have e0:lk0=lk:=by
      have:=fr1 _ _ v5.ld z1
      rw [h5] at this
      cases this
      rfl
     subst e0
     have e1:lks0.map (Sum.inr:Str->Key)=lks.map Sum.inr:=z2.keys.symm.trans h6.keys
     have e2:=congrArg List.length e1
     rw [List.length_map,List.length_map] at e2
     omega
    omega
   ·rw [valV_put]
    obtain ⟨u,hu,ux,uk,ul⟩:=hy
    rw [List.map_append] at hu
    rcases List.mem_append.mp hu with hu | hu
    ·have ny:y ≠ x:=fun z=>nx (by rw [<- z,<- ux]; exact List.mem_map_of_mem hu)
     rw [if_neg (fun z=>ny (Sum.inr.inj z))]
     exact h6v.v y l' ⟨u,hu,ux,uk,ul⟩
    ·have e0:u=Th.lot Fn x m l:=List.mem_singleton.mp hu
     rw [e0] at ux ul
     have e1:x=y:=ux
     have e2:some l=some l':=ul
     rw [if_pos (by rw [e1]),Option.some.inj e2]
   ·rw [List.map_append]
    rcases (lm' y).mp hy with h | h
    ·obtain ⟨u,hu,q⟩:=h6v.m y h
     exact ⟨u,List.mem_append_left _ hu,q⟩
    ·exact ⟨Th.lot Fn x m l,List.mem_append_right _ (List.mem_singleton.mpr rfl),h.symm,rfl⟩
   ·rw [List.map_append,<- List.append_assoc]
    refine List.nodup_append.mpr ⟨B.s.nda,List.Pairwise.cons (fun _ h=>absurd h List.not_mem_nil) .nil,fun b hb c hc z => ?_⟩
    rw [List.mem_singleton.mp hc] at z
    exact B.s.allo b hb (by rw [z]; exact dn0)
  | go d0 d1 d2 =>
   refine ⟨q,_,_,rfl,SqT.of hq1,rfl,rfl,_,rfl,?_⟩
   rw [no (by decide +kernel)]
   refine iteF ⟨q,_,_,rfl,SqT.of hq1,rfl,rfl,_,rfl,?_⟩
   rw [decide_eq_true rfl]
   refine iteT ⟨q,_,_,rfl,SqT.of hq1,rfl,_,rfl,a,_,rfl,DPut.k (k:=Sum.inr "today") B1.ha (small1000 (by show 7<=1000; decide)),?_⟩
   rw [hk_putT]
   have fr2 : ∀ b o,b ≠ a->H1 b=some o->(upd H1 a (.dK (hkv big Fn hd kd ls today' dd))) b=some o:=fun b o nb e=>by rw [upd_ne nb]; exact e
   have kpF:KpL (La a hd kd ls dd zi) H (upd H1 a (.dK (hkv big Fn hd kd ls today' dd))):=fun b o nb e=>fr2 b o (fun z=>nb (List.mem_append_left _ (by rw [z]; simp))) (kp1 b o nb e)
   obtain ⟨h1,h2,h3,h4,⟨lk,lks,h5,h6⟩,h7,h8,h9⟩:=B1
   exact k zi _ kpF (B.s.tk kpF) rfl (fun e he=>.inl (List.mem_map_of_mem he)) ⟨upd_same,fr2 _ _ (Ne.symm v5.ah) h2,fun e he=>(h3 e he).keep fun o z=>fr2 _ _ (v5.o e he).1 z,fr2 _ _ (Ne.symm v5.ak) h4,⟨lk,lks,fr2 _ _ (Ne.symm v5.al) h5,h6⟩,fr2 _ _ (Ne.symm v5.ad) h7,h8,h9⟩
  | pour pa st' =>
   rename_i s y m
   have hq1':H1 q=some (.tup [.str "pour",.str s.x,.str y,.int m]):=hq1
   refine ⟨q,_,_,rfl,SqT.of hq1',rfl,rfl,_,rfl,?_⟩
   rw [no (by decide +kernel)]
   refine iteF ⟨q,_,_,rfl,SqT.of hq1',rfl,rfl,_,rfl,?_⟩
   rw [no (by decide +kernel)]
   refine iteF ⟨q,_,_,rfl,SqT.of hq1',rfl,_,rfl,a,_,rfl,dg B1.ha hk_kinds,kd,_,rfl,DGet.k (k:=.inr y) B1.hk,_,rfl,?_⟩
   by_cases hy:y ∈ (zi.map (·.1)).map Th.x
   ·obtain ⟨t,ht,rfl⟩:=List.mem_map.mp hy
    obtain ⟨eg,heg,rfl⟩:=List.mem_map.mp ht
    rw [show (valV (zi.map keyK) (Sum.inr eg.1.x)).isSome=true by rw [LS.getK nd heg]; rfl]
    exact iteF ⟨_,rfl,q,_,_,rfl,SqT.of hq1',rfl,q,_,_,rfl,SqT.of hq1',rfl,q,_,_,rfl,SqT.of hq1',rfl,pourC _ E s eg.1.x "store" m zi H1 pa (.inl rfl) (by rw [if_pos hy]) B1 kp1 (fun e he=>.inl (List.mem_map_of_mem he)) k⟩
   ·have sm:(zi.map keyK).length < sizeLine:=small1000 (by rw [List.length_map]; omega)
    have smX:(zi.map keyX).length < sizeLine:=small1000 (by rw [List.length_map]; omega)
    obtain ⟨h1,h2,h3,h4,⟨lk,lks,h5,h6,h6l,h6v⟩,h7,h8,h9⟩:=id B1
    have vn:(valV (zi.map keyK) (Sum.inr y)).isSome=false:=by rw [show valV (zi.map keyK) (Sum.inr y)=none from key_no (φ:=fun e=>.str e.1.k) hy]; rfl
    rw [vn]
    refine iteT ⟨(by show 2<=sizeLine; decide),fun lb hlb => ?_⟩
    have t2:=Same.upd (o:=.lst [.str "store",.str "dose"]) hlb
    have lb2:(upd H1 lb (.lst [.str "store",.str "dose"])) lb=some (.lst [.str "store",.str "dose"]):=upd_same
    generalize upd H1 lb (.lst [.str "store",.str "dose"])=H2 at t2 lb2 ⊢
    refine ⟨q,_,_,rfl,SqT.of (t2 _ _ hq1'),rfl,rfl,.inr ⟨_,rfl,?_⟩⟩
    rw [no (by decide +kernel)]
    refine ⟨lb,_,(0:Int),V.str "store",rfl,rfl,SqL.of lb2,rfl,_,rfl,a,_,rfl,dg (t2 _ _ h1) hk_kinds,q,_,_,rfl,SqT.of (t2 _ _ hq1'),rfl,kd,_,rfl,DPut.k (k:=Sum.inr y) (t2 _ _ h4) sm,?_⟩
    have eK:putK (zi.map keyK) (Sum.inr y) (.str "store")=zi.map keyK ++ [(.inr y,.str "store")]:=putK_new _ (key_no (φ:=fun e=>.str e.1.k) hy)
    rw [eK]
    have fr3 : ∀ b o,b ≠ kd->H2 b=some o->(upd H2 kd (.dK (zi.map keyK ++ [(.inr y,.str "store")]))) b=some o:=fun b o nb e=>by rw [upd_ne nb]; exact e
    have k3:(upd H2 kd (.dK (zi.map keyK ++ [(.inr y,.str "store")]))) kd=some (.dK (zi.map keyK ++ [(.inr y,.str "store")])):=upd_same
    have no3 : ∀ b,(upd H2 kd (.dK (zi.map keyK ++ [(.inr y,.str "store")]))) b=none->H2 b=none:=fun b z=>by
     by_cases e:b=kd
     ·rw [e,upd_same] at z; cases z
     ·rwa [upd_ne e] at z
    generalize upd H2 kd (.dK (zi.map keyK ++ [(.inr y,.str "store")]))=H3 at fr3 k3 no3 ⊢
    have hq3:=fr3 _ _ (ne_of hq1' h4 (by intro z; cases z)) (t2 _ _ hq1')
    have a3:=fr3 _ _ v5.ak (t2 _ _ h1)
    have hh3:=fr3 _ _ v5.hk (t2 _ _ h2)
    have l3:=fr3 _ _ (Ne.symm v5.kl) (t2 _ _ h5)
    have d3:=fr3 _ _ (Ne.symm v5.kd') (t2 _ _ h7)
    intro dn hdn
    have dn0:H dn=none:=no1 _ (same_none t2 (no3 _ hdn))
    have t4:=Same.upd (o:=.dK []) hdn
    have dn4:(upd H3 dn (.dK [])) dn=some (.dK []):=upd_same
    have dnN : ∀ {b:Addr} {o:HO},H3 b=some o->dn ≠ b:=fun {b o} e z=>by rw [z,e] at hdn; cases hdn
    generalize upd H3 dn (.dK [])=H4 at t4 dn4 ⊢
    refine ⟨_,rfl,a,_,rfl,dg (t4 _ _ a3) hk_held,q,_,_,rfl,SqT.of (t4 _ _ hq3),rfl,hd,_,rfl,DPut.k (k:=Sum.inr y) (t4 _ _ hh3) smX,?_⟩
    have eX:putK (zi.map keyX) (Sum.inr y) (.ref dn)=(zi ++ [(Th.ves y "store",dn)]).map keyX:=by
     have z:=putK_new (kvs:=zi.map keyX) (k:=Sum.inr y) (.ref dn) (key_no (φ:=fun e=>.ref e.2) hy)
     rw [z,List.map_append]
     rfl
    rw [eX]
    have fr5 : ∀ b o,b ≠ hd->H4 b=some o->(upd H4 hd (.dK ((zi ++ [(Th.ves y "store",dn)]).map keyX))) b=some o:=fun b o nb e=>by rw [upd_ne nb]; exact e
    have hh5:(upd H4 hd (.dK ((zi ++ [(Th.ves y "store",dn)]).map keyX))) hd=some (.dK ((zi ++ [(Th.ves y "store",dn)]).map keyX)):=upd_same
    generalize upd H4 hd (.dK ((zi ++ [(Th.ves y "store",dn)]).map keyX))=H5 at fr5 hh5 ⊢
    have qh:q ≠ hd:=ne_of hq3 hh3 (by intro z; cases z)
    have hq5:=fr5 _ _ qh (t4 _ _ hq3)
    have up : ∀ b o,b ≠ hd->b ≠ kd->H1 b=some o->H5 b=some o:=fun b o n1 n2 e=>fr5 b o n1 (t4 _ _ (fr3 b o n2 (t2 _ _ e)))
    have kpF:KpL (La a hd kd ls dd zi) H H5:=fun b o nb e=>up b o (fun z=>nb (List.mem_append_left _ (by rw [z]; simp))) (fun z=>nb (List.mem_append_left _ (by rw [z]; simp))) (kp1 b o nb e)
    have dnh:dn ≠ hd:=dnN hh3
    refine ⟨_,rfl,q,_,_,rfl,SqT.of hq5,rfl,q,_,_,rfl,SqT.of hq5,rfl,q,_,_,rfl,SqT.of hq5,rfl,pourC _ E s y "store" m (zi ++ [(Th.ves y "store",dn)]) H5 pa (.inl rfl) (by rw [if_neg hy,List.map_append]; rfl) ⟨fr5 _ _ v5.ah (t4 _ _ a3),hh5,fun e he => ?_,?_,⟨lk,lks,fr5 _ _ (Ne.symm v5.hl) (t4 _ _ l3),h6,h6l,⟨fun x l hx=>h6v.v x l ?_,fun x hx=>by obtain ⟨u,hu,q⟩:=h6v.m x hx; exact ⟨u,by rw [List.map_append]; exact List.mem_append_left _ hu,q⟩⟩⟩,fr5 _ _ (Ne.symm v5.hd') (t4 _ _ d3),h8,?_⟩ kpF (fun e he => ?_) k⟩
    ·rcases List.mem_append.mp he with he | he
     ·exact (h3 e he).keep fun o z=>up _ _ (v5.o e he).2.1 (v5.o e he).2.2.1 z
     ·rw [List.mem_singleton.mp he]
      exact ⟨[],[],fr5 _ _ dnh dn4,⟨.nil,(fun _ h=>absurd h List.not_mem_nil),fun _ _=>rfl⟩,fun _=>Iff.rfl⟩
    ·rw [List.map_append]
     exact fr5 _ _ (Ne.symm v5.hk) (t4 _ _ k3)
    ·obtain ⟨u,hu,ux,uk,ul⟩:=hx
     rw [List.map_append] at hu
     rcases List.mem_append.mp hu with hu | hu
     ·exact ⟨u,hu,ux,uk,ul⟩
     ·rw [List.mem_singleton.mp hu] at ul
      cases ul
    ·rw [List.map_append,<- List.append_assoc]
     refine List.nodup_append.mpr ⟨B.s.nda,List.Pairwise.cons (fun _ h=>absurd h List.not_mem_nil) .nil,fun b hb c hc z => ?_⟩
     rw [List.mem_singleton.mp hc] at z
     exact B.s.allo b hb (by rw [z]; exact dn0)
    ·rcases List.mem_append.mp he with he | he
     ·exact .inl (List.mem_map_of_mem he)
     ·rw [List.mem_singleton.mp he]; exact .inr dn0
  | give pa hy =>
   rename_i s y m
   have hq1':H1 q=some (.tup [.str "give",.str s.x,.str y,.int m]):=hq1
   refine ⟨q,_,_,rfl,SqT.of hq1',rfl,rfl,_,rfl,?_⟩
   rw [no (by decide +kernel)]
   refine iteF ⟨q,_,_,rfl,SqT.of hq1',rfl,rfl,_,rfl,?_⟩
   rw [no (by decide +kernel)]
   refine iteF ⟨q,_,_,rfl,SqT.of hq1',rfl,_,rfl,a,_,rfl,dg B1.ha hk_kinds,kd,_,rfl,DGet.k (k:=.inr y) B1.hk,_,rfl,?_⟩
   have sm:(zi.map keyK).length < sizeLine:=small1000 (by rw [List.length_map]; omega)
   have smX:(zi.map keyX).length < sizeLine:=small1000 (by rw [List.length_map]; omega)
   obtain ⟨h1,h2,h3,h4,⟨lk,lks,h5,h6,h6l,h6v⟩,h7,h8,h9⟩:=id B1
   have vn:(valV (zi.map keyK) (Sum.inr y)).isSome=false:=by rw [show valV (zi.map keyK) (Sum.inr y)=none from key_no (φ:=fun e=>.str e.1.k) hy]; rfl
   rw [vn]
   refine iteT ⟨(by show 2<=sizeLine; decide),fun lb hlb => ?_⟩
   have t2:=Same.upd (o:=.lst [.str "store",.str "dose"]) hlb
   have lb2:(upd H1 lb (.lst [.str "store",.str "dose"])) lb=some (.lst [.str "store",.str "dose"]):=upd_same
   generalize upd H1 lb (.lst [.str "store",.str "dose"])=H2 at t2 lb2 ⊢
   refine ⟨q,_,_,rfl,SqT.of (t2 _ _ hq1'),rfl,rfl,.inr ⟨_,rfl,?_⟩⟩
   rw [decide_eq_true rfl]
   refine ⟨lb,_,(1:Int),V.str "dose",rfl,rfl,SqL.of lb2,rfl,_,rfl,a,_,rfl,dg (t2 _ _ h1) hk_kinds,q,_,_,rfl,SqT.of (t2 _ _ hq1'),rfl,kd,_,rfl,DPut.k (k:=Sum.inr y) (t2 _ _ h4) sm,?_⟩
   have eK:putK (zi.map keyK) (Sum.inr y) (.str "dose")=zi.map keyK ++ [(.inr y,.str "dose")]:=putK_new _ (key_no (φ:=fun e=>.str e.1.k) hy)
   rw [eK]
   have fr3 : ∀ b o,b ≠ kd->H2 b=some o->(upd H2 kd (.dK (zi.map keyK ++ [(.inr y,.str "dose")]))) b=some o:=fun b o nb e=>by rw [upd_ne nb]; exact e
   have k3:(upd H2 kd (.dK (zi.map keyK ++ [(.inr y,.str "dose")]))) kd=some (.dK (zi.map keyK ++ [(.inr y,.str "dose")])):=upd_same
   have no3 : ∀ b,(upd H2 kd (.dK (zi.map keyK ++ [(.inr y,.str "dose")]))) b=none->H2 b=none:=fun b z=>by
    by_cases e:b=kd
    ·rw [e,upd_same] at z; cases z
    ·rwa [upd_ne e] at z
   generalize upd H2 kd (.dK (zi.map keyK ++ [(.inr y,.str "dose")]))=H3 at fr3 k3 no3 ⊢
   have hq3:=fr3 _ _ (ne_of hq1' h4 (by intro z; cases z)) (t2 _ _ hq1')
   have a3:=fr3 _ _ v5.ak (t2 _ _ h1)
   have hh3:=fr3 _ _ v5.hk (t2 _ _ h2)
   have l3:=fr3 _ _ (Ne.symm v5.kl) (t2 _ _ h5)
   have d3:=fr3 _ _ (Ne.symm v5.kd') (t2 _ _ h7)
   intro dn hdn
   have dn0:H dn=none:=no1 _ (same_none t2 (no3 _ hdn))
   have t4:=Same.upd (o:=.dK []) hdn
   have dn4:(upd H3 dn (.dK [])) dn=some (.dK []):=upd_same
   have dnN : ∀ {b:Addr} {o:HO},H3 b=some o->dn ≠ b:=fun {b o} e z=>by rw [z,e] at hdn; cases hdn
   generalize upd H3 dn (.dK [])=H4 at t4 dn4 ⊢
   refine ⟨_,rfl,a,_,rfl,dg (t4 _ _ a3) hk_held,q,_,_,rfl,SqT.of (t4 _ _ hq3),rfl,hd,_,rfl,DPut.k (k:=Sum.inr y) (t4 _ _ hh3) smX,?_⟩
   have eX:putK (zi.map keyX) (Sum.inr y) (.ref dn)=(zi ++ [(Th.ves y "dose",dn)]).map keyX:=by
    have z:=putK_new (kvs:=zi.map keyX) (k:=Sum.inr y) (.ref dn) (key_no (φ:=fun e=>.ref e.2) hy)
    rw [z,List.map_append]
    rfl
   rw [eX]
   have fr5 : ∀ b o,b ≠ hd->H4 b=some o->(upd H4 hd (.dK ((zi ++ [(Th.ves y "dose",dn)]).map keyX))) b=some o:=fun b o nb e=>by rw [upd_ne nb]; exact e
   have hh5:(upd H4 hd (.dK ((zi ++ [(Th.ves y "dose",dn)]).map keyX))) hd=some (.dK ((zi ++ [(Th.ves y "dose",dn)]).map keyX)):=upd_same
   generalize upd H4 hd (.dK ((zi ++ [(Th.ves y "dose",dn)]).map keyX))=H5 at fr5 hh5 ⊢
   have qh:q ≠ hd:=ne_of hq3 hh3 (by intro z; cases z)
   have hq5:=fr5 _ _ qh (t4 _ _ hq3)
   have up : ∀ b o,b ≠ hd->b ≠ kd->H1 b=some o->H5 b=some o:=fun b o n1 n2 e=>fr5 b o n1 (t4 _ _ (fr3 b o n2 (t2 _ _ e)))
   have kpF:KpL (La a hd kd ls dd zi) H H5:=fun b o nb e=>up b o (fun z=>nb (List.mem_append_left _ (by rw [z]; simp))) (fun z=>nb (List.mem_append_left _ (by rw [z]; simp))) (kp1 b o nb e)
   have dnh:dn ≠ hd:=dnN hh3
   refine ⟨_,rfl,q,_,_,rfl,SqT.of hq5,rfl,q,_,_,rfl,SqT.of hq5,rfl,q,_,_,rfl,SqT.of hq5,rfl,pourC _ E s y "dose" m (zi ++ [(Th.ves y "dose",dn)]) H5 pa (.inr rfl) (by rw [if_neg hy,List.map_append]; rfl) ⟨fr5 _ _ v5.ah (t4 _ _ a3),hh5,fun e he => ?_,?_,⟨lk,lks,fr5 _ _ (Ne.symm v5.hl) (t4 _ _ l3),h6,h6l,⟨fun x l hx=>h6v.v x l ?_,fun x hx=>by obtain ⟨u,hu,q⟩:=h6v.m x hx; exact ⟨u,by rw [List.map_append]; exact List.mem_append_left _ hu,q⟩⟩⟩,fr5 _ _ (Ne.symm v5.hd') (t4 _ _ d3),h8,?_⟩ kpF (fun e he => ?_) k⟩
   ·rcases List.mem_append.mp he with he | he
    ·exact (h3 e he).keep fun o z=>up _ _ (v5.o e he).2.1 (v5.o e he).2.2.1 z
    ·rw [List.mem_singleton.mp he]
     exact ⟨[],[],fr5 _ _ dnh dn4,⟨.nil,(fun _ h=>absurd h List.not_mem_nil),fun _ _=>rfl⟩,fun _=>Iff.rfl⟩
   ·rw [List.map_append]
    exact fr5 _ _ (Ne.symm v5.hk) (t4 _ _ k3)
   ·obtain ⟨u,hu,ux,uk,ul⟩:=hx
    rw [List.map_append] at hu
    rcases List.mem_append.mp hu with hu | hu
    ·exact ⟨u,hu,ux,uk,ul⟩
    ·rw [List.mem_singleton.mp hu] at ul
     cases ul
   ·rw [List.map_append,<- List.append_assoc]
    refine List.nodup_append.mpr ⟨B.s.nda,List.Pairwise.cons (fun _ h=>absurd h List.not_mem_nil) .nil,fun b hb c hc z => ?_⟩
    rw [List.mem_singleton.mp hc] at z
    exact B.s.allo b hb (by rw [z]; exact dn0)
   ·rcases List.mem_append.mp he with he | he
    ·exact .inl (List.mem_map_of_mem he)
    ·rw [List.mem_singleton.mp he]; exact .inr dn0
end
end K76
namespace K76
open PySem PySem.Spec PyProof.Rows L2 GM TM
theorem at_int {α:Type}{xs:List α}{e:Int}(h0:0<=e)(h:e < (xs.length:Int)) : ∃ x,atI xs e=some x/\x ∈ xs:=by
 obtain ⟨n,rfl⟩:=Int.eq_ofNat_of_zero_le h0
 have hn:n < xs.length:=by omega
 exact ⟨xs[n],atI_nat (List.getElem?_eq_getElem hn),List.getElem_mem hn⟩
end K76
namespace K76
open PySem PySem.Spec PyProof.Rows L2 GM TM
def spNameBy (K:PySem.W.Frag):Sp:=fun vs H Q _=>∃ (kp:Addr) (ss:List Str) (n:Int),vs=[.ref kp,.int n]/\SqL K H kp (ss.map V.str)/\(∀ x ∈ ss,Wr x)/\ss.length<=100/\0<=n/\∀ (x:Str) (n':Int) p H',0<=n'->Wr x->Same H H'->H' p=some (.tup [.str x,.int n'])->Q (.ref p) H'
def CanB (n:Nat)(M:Int)(zs:List Th)(today:Int)(d:Dd):Prop:=∃ M' zs' today',Stp n M zs today d M' zs' today'
def DdF:Dd->Prop
 | .take x w m l=>Wr x/\Wr w/\1<=m/\m<=1000000/\0<=l/\l<=1000000
 | .go d=>0<=d/\d<=1000000
 | .pour _ y m=>Wr y/\1<=m/\m<=1000000
 | .give _ y m=>Wr y/\1<=m/\m<=1000000
def spCan:Sp:=fun vs H Q _=>∃ a hd kd ls dd big F today n ds zi,∃ (d:Dd) (q:Addr),vs=[.ref a,.ref q]/\LG H a hd kd ls dd big F today n ds zi/\H q=some (.tup d.row)/\DdF d/\n+1<=52/\∀ b H',Same H H'->(b=true->CanB n F (zi.map (·.1)) today d)->Q (.bl b) H'
section
variable {P:Program}{w:World}{K:PySem.W.Frag}{mg:Str->Option Value}{base:Heap}
theorem scNameBy:FnScope ["_law_known","_law_left","_law_at"] ["_law_known","_law_left"] (defScope sNameBy):=⟨rfl,rfl,rfl,by decide +kernel,rfl,by decide +kernel,by decide +kernel⟩
theorem ok_nameby {f:Addr}{fd:FuncData}(F:Fun K "_law_name_by" "_law_name_by" sNameBy f fd)(T:Txt mg)(cW:Cal P w K mg base CX0 1 "_law_word_by" ["_law_left"] spWord):FnOk P w K mg base CX0 2 f fd ["_law_known","_law_left"] (spNameBy K):=by
 refine F.ok scNameBy (fun vs H Q E h => ?_) (fun cdv A outer s0 H vs Q E hr h => ?_)
 ·obtain ⟨_,_,_,rfl,_⟩:=h
  rfl
 ·obtain ⟨kp,ss,n,rfl,hk,hw,hl,n0,k⟩:=h
  refine ⟨_,(pss_cons (ps_set (i:=2) scNameBy.nd rfl (Or.inl rfl) (pe_op op_mod (pv 1) (pe_op op_add (pe_callB call_len_seq rfl T.len PySem.boot_len (pa_cons (pv 0) pa_nil)) pe_int)))
   (pss_cons (ps_set (i:=1) scNameBy.nd rfl (Or.inl rfl) (pe_op op_fdivB (pv 1) (pe_op op_add (pe_callB call_len_seq rfl T.len PySem.boot_len (pa_cons (pv 0) pa_nil)) pe_int)))
   (pss_cons (ps_if (pt_cmpR op_lt (pv 2) (pe_callB call_len_seq rfl T.len PySem.boot_len (pa_cons (pv 0) pa_nil)) (nomark _)) (pss_one (ps_ret (pe_tup (pa_cons (pe_ix ix_list (pv 0) (pv 2) (fun _ _=>rfl)) (pa_cons (pv 1) pa_nil))))) pss_nil)
   (pss_one (ps_ret (pe_cal cW hr rfl pass0 (pa_cons (pv 1) pa_nil))))))),?_⟩
  have lp:(0:Int) < ((ss.map V.str).length:Int)+1:=by omega
  have hm:=emod_in n lp
  have dn:=Int.ediv_nonneg n0 (show 0<=((ss.map V.str).length:Int)+1 by omega)
  refine ⟨_,rfl,_,rfl,kp,_,rfl,.inl hk,_,_,rfl,rfl,_,_,rfl,rfl,lp,?_⟩
  refine ⟨_,rfl,_,rfl,kp,_,rfl,.inl hk,_,_,rfl,rfl,_,_,rfl,rfl,⟨lp,(bt_lt 64 (c:=1000) (by omega) (by rw [List.length_map]; omega)).mono (by decide)⟩,?_⟩
  refine ⟨_,rfl,_,rfl,kp,_,rfl,.inl hk,_,_,rfl,rfl,_,rfl,ite2 (fun hc => ?_) (fun hc => ?_)⟩
  ·obtain ⟨v,hv,mv⟩:=at_int (xs:=ss.map V.str) hm.1 (of_decide_eq_true hc)
   obtain ⟨x,mx,rfl⟩:=List.mem_map.mp mv
   exact ⟨_,rfl,_,rfl,kp,_,_,_,rfl,rfl,hk,hv,_,rfl,(by show 2<=sizeLine; decide),fun p hp=>k x _ p _ dn (hw x mx) (Same.upd hp) upd_same⟩
  ·exact ⟨_,rfl,_,rfl,dn,fun x n' p H' h1 h2 s h3=>k x n' p H' h1 h2 s h3⟩
end
end K76
namespace K76
open PySem PySem.Spec PyProof.Rows L2 GM TM
section
variable {P:Program}{w:World}{K:PySem.W.Frag}{mg:Str->Option Value}{base:Heap}
theorem scCan:FnScope ["_law_here","_law_deed","_law_kinds"] ["_law_here","_law_deed"] (defScope sCan):=⟨rfl,rfl,rfl,by decide +kernel,rfl,by decide +kernel,by decide +kernel⟩
theorem ok_can {f:Addr}{fd:FuncData}(F:Fun K "_law_can" "_law_can" sCan f fd)(cF:Cal P w K mg base CX0 1 "_law_fresh" ["_law_here","_law_name"] spFresh)(cT:Cal P w K mg base CX0 1 "_law_total" ["_law_here","_law_name"] spLtot):FnOk P w K mg base CX0 2 f fd ["_law_here","_law_deed"] spCan:=by
 refine F.ok scCan (fun vs H Q E h => ?_) (fun cdv A outer s0 H vs Q E hr h => ?_)
 ·obtain ⟨_,_,_,_,_,_,_,_,_,_,_,_,_,rfl,_⟩:=h
  rfl
 ·obtain ⟨a,hd,kd,ls,dd,big,Fn,today,n,ds,zi,d,q,rfl,B,hq,df,n1,k⟩:=h
  refine ⟨_,(pss_cons (ps_set (i:=2) scCan.nd rfl (Or.inl rfl) (pe_dget (hu_of hr) (pv 0) pe_str (fun _ _=>rfl)))
   (pss_cons (ps_if (pt_cmpR op_eq (pit 1 0) pe_str (nomark _)) (pss_one (ps_ret (pe_cmpR op_ge (pit 1 1) (pe_dget (hu_of hr) (pv 0) pe_str (fun _ _=>rfl)) (nomark _)))) pss_nil)
   (pss_cons (ps_if (pt_cmpR op_eq (pit 1 0) pe_str (nomark _)) (pss_one (ps_ret (pe_cmp (pc_dnotin (hu_of hr) (pit 1 1) (pv 2))))) pss_nil)
   (pss_cons (ps_if (PW.pt (pw_or (pt_cmpR op_eq (pe_dget2 (hu_of hr) (pv 2) (pit 1 1) pe_str ⟨rfl,rfl,rfl,rfl⟩) pe_str (nomark _)) (pw_or1 (pt_not (pt_val (pe_cal cF hr rfl pass0 (pa_cons (pv 0) (pa_cons (pit 1 1) pa_nil)))))))) (pss_one (ps_ret pe_bl)) pss_nil)
   (pss_cons (ps_if (PW.pt (pw_or (pt_cmpR op_lt (pe_cal cT hr rfl pass0 (pa_cons (pv 0) (pa_cons (pit 1 1) pa_nil))) (pit 1 3) (nomark _)) (pw_or1 (pt_cmpR op_eq (pit 1 1) (pit 1 2) (nomark _))))) (pss_one (ps_ret pe_bl)) pss_nil)
   (pss_one (ps_ret (pe_or (pe_cmp (pc_dnotin (hu_of hr) (pit 1 2) (pv 2))) (pe_one (pe_and (pe_cmpR op_eq (pit 1 0) pe_str (nomark _)) (pe_one (pe_cmpR op_eq (pe_dget (hu_of hr) (pv 2) (pit 1 2) (fun _ _=>rfl)) pe_str (nomark _))))))))))))),?_⟩
  have nd:=B.g.nd
  have no : ∀ {x z:Str},x ≠ z->decide (V.str x=V.str z)=false:=fun h=>decide_eq_false fun q=>h (V.str.inj q)
  refine ⟨_,rfl,a,_,rfl,dg B.s.ha hk_kinds,?_⟩
  cases d with
  | go d' =>
   have sq:SqT K H q [.str "go",.int d']:=SqT.of hq
   refine ⟨q,_,_,rfl,sq,rfl,rfl,_,rfl,?_⟩
   rw [decide_eq_true rfl]
   exact iteT ⟨q,_,_,rfl,sq,rfl,_,rfl,a,_,rfl,dg B.s.ha hk_today,_,_,rfl,rfl,k _ _ (Same.refl _) fun hb=>⟨_,_,_,.go (by have:d' ≥ today:=of_decide_eq_true hb; omega) df.1 df.2⟩⟩
  | take x wr m l =>
   have sq:SqT K H q [.str "take",.str x,.str wr,.int m,.int l]:=SqT.of hq
   refine ⟨q,_,_,rfl,sq,rfl,rfl,_,rfl,?_⟩
   rw [no (by decide +kernel)]
   refine iteF ⟨q,_,_,rfl,sq,rfl,rfl,_,rfl,?_⟩
   rw [decide_eq_true rfl]
   refine iteT ⟨q,_,_,rfl,sq,rfl,_,rfl,kd,_,rfl,DGet.k (k:=.inr x) B.s.hk,k _ _ (Same.refl _) fun hb=>⟨_,_,_,.take df.1 df.2.1 (fun z => ?_) df.2.2.1 df.2.2.2.1 df.2.2.2.2.1 df.2.2.2.2.2⟩⟩
   obtain ⟨t,ht,rfl⟩:=List.mem_map.mp z
   obtain ⟨e,he,rfl⟩:=List.mem_map.mp ht
   rw [LS.getK nd he] at hb
   cases hb
  | pour x y m =>
   have sq:SqT K H q [.str "pour",.str x,.str y,.int m]:=SqT.of hq
   refine ⟨q,_,_,rfl,sq,rfl,rfl,_,rfl,?_⟩
   rw [no (by decide +kernel)]
   refine iteF ⟨q,_,_,rfl,sq,rfl,rfl,_,rfl,?_⟩
   rw [no (by decide +kernel)]
   refine iteF ⟨_,rfl,kd,rfl,.inl ⟨_,.inl B.s.hk⟩,q,_,_,rfl,sq,rfl,_,DGet.k (k:=.inr x) B.s.hk,?_⟩
   by_cases hx:x ∈ (zi.map (·.1)).map Th.x
   ·obtain ⟨t,ht,ex⟩:=List.mem_map.mp hx
    obtain ⟨e,he,rfl⟩:=List.mem_map.mp ht
    subst ex
    rw [LS.getK nd he]
    refine ⟨rfl,_,rfl,ite2 (fun hc=>k false _ (Same.refl _) (fun z=>by cases z)) (fun hc => ?_)⟩
    have ndo:e.1.k ≠ "dose" := fun z=>hc (decide_eq_true (by rw [z]; rfl))
    refine ⟨_,rfl,q,_,_,rfl,sq,rfl,a,hd,kd,ls,dd,big,Fn,today,n,zi,e,rfl,B.lr,he,fun b H1 s1 hf=>⟨_,rfl,?_⟩⟩
    cases b with
    | false=>exact iteT (k false _ s1 (fun z=>by cases z))
    | true =>
     refine iteF ⟨_,rfl,q,_,_,rfl,s1.tup sq,rfl,a,hd,kd,ls,dd,big,Fn,today,n,ds,zi,e,rfl,B.same s1,he,fun H2 s2 => ?_⟩
     have s12:=s1.trans s2
     have sq1:=s12.tup sq
     have B1:=B.same s12
     refine ⟨q,_,_,rfl,sq1,rfl,_,_,rfl,rfl,_,rfl,ite2 (fun _=>k false _ s12 (fun z=>by cases z)) (fun hlt => ?_)⟩
     refine ⟨q,_,_,rfl,sq1,rfl,q,_,_,rfl,sq1,rfl,rfl,_,rfl,ite2 (fun _=>k false _ s12 (fun z=>by cases z)) (fun hne => ?_)⟩
     have mT:m<=e.1.T:=by
      have : ¬ e.1.T < m:=fun z=>hlt (decide_eq_true z)
      omega
     have ne:y ≠ e.1.x:=fun z=>hne (decide_eq_true (by rw [z]))
     have pa:PoA (zi.map (·.1)) e.1 y m today n:=⟨ht,ndo,df.1,ne,df.2.1,mT,df.2.2,(hf rfl).2,n1⟩
     have s13:=s12
     refine ⟨q,_,_,rfl,sq1,rfl,_,rfl,kd,_,rfl,DGet.k (k:=.inr y) B1.s.hk,?_⟩
     by_cases hy:y ∈ (zi.map (·.1)).map Th.x
     ·have vs:(valV (zi.map keyK) (Sum.inr y)).isSome=true:=by
       obtain ⟨t,ht,ey⟩:=List.mem_map.mp hy
       obtain ⟨g,hg,rfl⟩:=List.mem_map.mp ht
       rw [<- ey,LS.getK nd hg]
       rfl
      rw [vs]
      refine ⟨_,rfl,iteF ⟨q,_,_,rfl,sq1,rfl,rfl,_,rfl,?_⟩⟩
      obtain ⟨t,ht,ey⟩:=List.mem_map.mp hy
      obtain ⟨g,hg,rfl⟩:=List.mem_map.mp ht
      subst ey
      rw [decide_eq_true rfl]
      refine iteT ⟨_,rfl,q,_,_,rfl,sq1,rfl,kd,_,rfl,dg B1.s.hk (LS.getK nd hg),rfl,k _ _ s13 fun hb=>⟨_,_,_,.pour pa fun z hz ez => ?_⟩⟩
      rw [nd_eq nd hz ht ez]
      exact V.str.inj (of_decide_eq_true hb)
     ·have vn:(valV (zi.map keyK) (Sum.inr y)).isSome=false:=by rw [show valV (zi.map keyK) (Sum.inr y)=none from key_no (φ:=fun e=>.str e.1.k) hy]; rfl
      rw [vn]
      exact ⟨_,rfl,iteT (k _ _ s13 fun _=>⟨_,_,_,.pour pa fun z hz ez=>absurd (ez ▸ List.mem_map_of_mem (f:=Th.x) hz) hy⟩)⟩
   ·rw [show valV (zi.map keyK) (Sum.inr x)=none from key_no (φ:=fun e=>.str e.1.k) hx]
    refine ⟨rfl,_,rfl,?_⟩
    rw [show decide ((none:Option V).getD (.str "dose")=V.str "dose")=true from decide_eq_true rfl]
    exact iteT (k false _ (Same.refl _) (fun z=>by cases z))
  | give x y m =>
   have sq:SqT K H q [.str "give",.str x,.str y,.int m]:=SqT.of hq
   refine ⟨q,_,_,rfl,sq,rfl,rfl,_,rfl,?_⟩
   rw [no (by decide +kernel)]
   refine iteF ⟨q,_,_,rfl,sq,rfl,rfl,_,rfl,?_⟩
   rw [no (by decide +kernel)]
   refine iteF ⟨_,rfl,kd,rfl,.inl ⟨_,.inl B.s.hk⟩,q,_,_,rfl,sq,rfl,_,DGet.k (k:=.inr x) B.s.hk,?_⟩
   by_cases hx:x ∈ (zi.map (·.1)).map Th.x
   ·obtain ⟨t,ht,ex⟩:=List.mem_map.mp hx
    obtain ⟨e,he,rfl⟩:=List.mem_map.mp ht
    subst ex
    rw [LS.getK nd he]
    refine ⟨rfl,_,rfl,ite2 (fun hc=>k false _ (Same.refl _) (fun z=>by cases z)) (fun hc => ?_)⟩
    have ndo:e.1.k ≠ "dose" := fun z=>hc (decide_eq_true (by rw [z]; rfl))
    refine ⟨_,rfl,q,_,_,rfl,sq,rfl,a,hd,kd,ls,dd,big,Fn,today,n,zi,e,rfl,B.lr,he,fun b H1 s1 hf=>⟨_,rfl,?_⟩⟩
    cases b with
    | false=>exact iteT (k false _ s1 (fun z=>by cases z))
    | true =>
     refine iteF ⟨_,rfl,q,_,_,rfl,s1.tup sq,rfl,a,hd,kd,ls,dd,big,Fn,today,n,ds,zi,e,rfl,B.same s1,he,fun H2 s2 => ?_⟩
     have s12:=s1.trans s2
     have sq1:=s12.tup sq
     have B1:=B.same s12
     refine ⟨q,_,_,rfl,sq1,rfl,_,_,rfl,rfl,_,rfl,ite2 (fun _=>k false _ s12 (fun z=>by cases z)) (fun hlt => ?_)⟩
     refine ⟨q,_,_,rfl,sq1,rfl,q,_,_,rfl,sq1,rfl,rfl,_,rfl,ite2 (fun _=>k false _ s12 (fun z=>by cases z)) (fun hne => ?_)⟩
     have mT:m<=e.1.T:=by
      have : ¬ e.1.T < m:=fun z=>hlt (decide_eq_true z)
      omega
     have ne:y ≠ e.1.x:=fun z=>hne (decide_eq_true (by rw [z]))
     have pa:PoA (zi.map (·.1)) e.1 y m today n:=⟨ht,ndo,df.1,ne,df.2.1,mT,df.2.2,(hf rfl).2,n1⟩
     have s13:=s12
     refine ⟨q,_,_,rfl,sq1,rfl,_,rfl,kd,_,rfl,DGet.k (k:=.inr y) B1.s.hk,?_⟩
     by_cases hy:y ∈ (zi.map (·.1)).map Th.x
     ·have vs:(valV (zi.map keyK) (Sum.inr y)).isSome=true:=by
       obtain ⟨t,ht,ey⟩:=List.mem_map.mp hy
       obtain ⟨g,hg,rfl⟩:=List.mem_map.mp ht
       rw [<- ey,LS.getK nd hg]
       rfl
      rw [vs]
      refine ⟨_,rfl,iteF ⟨q,_,_,rfl,sq1,rfl,rfl,_,rfl,?_⟩⟩
      obtain ⟨t,ht,ey⟩:=List.mem_map.mp hy
      obtain ⟨g,hg,rfl⟩:=List.mem_map.mp ht
      subst ey
      rw [no (by decide +kernel)]
      exact iteF (k _ _ s13 fun hb=>by cases hb)
     ·have vn:(valV (zi.map keyK) (Sum.inr y)).isSome=false:=by rw [show valV (zi.map keyK) (Sum.inr y)=none from key_no (φ:=fun e=>.str e.1.k) hy]; rfl
      rw [vn]
      exact ⟨_,rfl,iteT (k _ _ s13 fun _=>⟨_,_,_,.give pa hy⟩)⟩
   ·rw [show valV (zi.map keyK) (Sum.inr x)=none from key_no (φ:=fun e=>.str e.1.k) hx]
    refine ⟨rfl,_,rfl,?_⟩
    rw [show decide ((none:Option V).getD (.str "dose")=V.str "dose")=true from decide_eq_true rfl]
    exact iteT (k false _ (Same.refl _) (fun z=>by cases z))
end
end K76
namespace K76
open PySem PySem.Spec PyProof.Rows L2 GM TM
theorem e6:(10:Int) ^ Int.toNat 6=1000000:=by decide +kernel
def spTold:Sp:=fun vs H Q _=>∃ a hd kd ls dd big F today n ds zi,∃ c:Int,vs=[.ref a,.int c]/\LG H a hd kd ls dd big F today n ds zi/\∀ (d:Dd) q H',Same H H'->H' q=some (.tup d.row)->DdF d->Q (.ref q) H'
section
variable {P:Program}{w:World}{K:PySem.W.Frag}{mg:Str->Option Value}{base:Heap}
theorem scTold:FnScope ["_law_here","_law_cell","_law_known","_law_way","_law_left","_law_name","_law_ware","_law_one","_law_other"] ["_law_here","_law_cell"] (defScope sTold):=⟨rfl,rfl,rfl,by decide +kernel,rfl,by decide +kernel,by decide +kernel⟩
theorem ok_told {f:Addr}{fd:FuncData}(F:Fun K "_law_told_deed" "_law_told_deed" sTold f fd)(T:Txt mg)(cW:Cal P w K mg base CX0 2 "_law_word_by" ["_law_left"] spWord)(cN:Cal P w K mg base CX0 2 "_law_name_by" ["_law_known","_law_left"] (spNameBy K)):FnOk P w K mg base CX0 3 f fd ["_law_here","_law_cell"] spTold:=by
 refine F.ok scTold (fun vs H Q E h => ?_) (fun cdv A outer s0 H vs Q E hr h => ?_)
 ·obtain ⟨_,_,_,_,_,_,_,_,_,_,_,_,rfl,_⟩:=h
  rfl
 ·obtain ⟨a,hd,kd,ls,dd,big,Fn,today,n,ds,zi,c,rfl,B,k⟩:=h
  refine ⟨_,(pss_cons (ps_set (i:=2) scTold.nd rfl (Or.inl rfl) (pe_callB (call_sortDS rfl) rfl T.sorted' boot_sorted (pa_cons (pe_dget (hu_of hr) (pv 0) pe_str (fun _ _=>rfl)) pa_nil)))
   (pss_cons (ps_set (i:=3) scTold.nd rfl (Or.inl rfl) (pe_op op_mod (pe_callB call_abs rfl T.abs' bt_abs (pa_cons (pv 1) pa_nil)) pe_int))
   (pss_cons (ps_set (i:=4) scTold.nd rfl (Or.inl rfl) (pe_op op_fdivB (pe_callB call_abs rfl T.abs' bt_abs (pa_cons (pv 1) pa_nil)) pe_int))
   (pss_cons (ps_if (pt_cmpR op_eq (pv 3) pe_int (nomark _)) (pss_one (ps_ret (pe_tup (pa_cons pe_str (pa_cons (pe_op op_mod (pv 4) pe_int) pa_nil))))) pss_nil)
   (pss_cons (ps_if (pt_cmpR op_eq (pv 3) pe_int (nomark _))
    (pss_cons (ps_asg (pe_cal cW hr rfl pass0 (pa_cons (pv 4) pa_nil)) (pg_tup rfl (pgs_cons (pg_name (i:=5) scTold.nd rfl (Or.inl rfl)) (pgs_cons (pg_name (i:=4) scTold.nd rfl (Or.inl rfl)) pgs_nil))))
    (pss_cons (ps_asg (pe_cal cW hr rfl pass0 (pa_cons (pv 4) pa_nil)) (pg_tup rfl (pgs_cons (pg_name (i:=6) scTold.nd rfl (Or.inl rfl)) (pgs_cons (pg_name (i:=4) scTold.nd rfl (Or.inl rfl)) pgs_nil))))
    (pss_one (ps_ret (pe_tup (pa_cons pe_str (pa_cons (pv 5) (pa_cons (pv 6) (pa_cons (pe_op op_add pe_int (pe_op op_mod (pv 4) (pe_op op_powB pe_int pe_int))) (pa_cons (pe_op op_mod (pe_op op_fdivB (pv 4) (pe_op op_powB pe_int pe_int)) pe_int) pa_nil)))))))))) pss_nil)
   (pss_cons (ps_asg (pe_cal cN hr rfl pass0 (pa_cons (pv 2) (pa_cons (pv 4) pa_nil))) (pg_tup rfl (pgs_cons (pg_name (i:=7) scTold.nd rfl (Or.inl rfl)) (pgs_cons (pg_name (i:=4) scTold.nd rfl (Or.inl rfl)) pgs_nil))))
   (pss_cons (ps_if (pt_cmpR op_eq (pv 3) pe_int (nomark _))
    (pss_cons (ps_asg (pe_cal cN hr rfl pass0 (pa_cons (pv 2) (pa_cons (pv 4) pa_nil))) (pg_tup rfl (pgs_cons (pg_name (i:=8) scTold.nd rfl (Or.inl rfl)) (pgs_cons (pg_name (i:=4) scTold.nd rfl (Or.inl rfl)) pgs_nil))))
    (pss_one (ps_ret (pe_tup (pa_cons pe_str (pa_cons (pv 7) (pa_cons (pv 8) (pa_cons (pe_op op_add pe_int (pe_op op_mod (pv 4) (pe_op op_powB pe_int pe_int))) pa_nil)))))))) pss_nil)
   (pss_cons (ps_asg (pe_cal cW hr rfl pass0 (pa_cons (pv 4) pa_nil)) (pg_tup rfl (pgs_cons (pg_name (i:=8) scTold.nd rfl (Or.inl rfl)) (pgs_cons (pg_name (i:=4) scTold.nd rfl (Or.inl rfl)) pgs_nil))))
   (pss_one (ps_ret (pe_tup (pa_cons pe_str (pa_cons (pv 7) (pa_cons (pv 8) (pa_cons (pe_op op_add pe_int (pe_op op_mod (pv 4) (pe_op op_powB pe_int pe_int))) pa_nil))))))))))))))),?_⟩
  have nd:=B.g.nd
  have zl:=B.g.ln
  have n60:=B.g.n60
  rw [List.length_map] at zl
  have dkk:=keyK_dk nd
  have a0:=abs_nn c
  have p0:(0:Int) < (10:Int) ^ Int.toNat 6:=by rw [e6]; decide
  refine ⟨_,rfl,a,_,rfl,dg B.s.ha hk_kinds,kd,_,_,rfl,B.s.hk,dkk.keys,by rw [List.length_map]; omega,fun pn ss pm so hpn => ?_⟩
  have t1:=Same.upd (o:=.lst (ss.map V.str)) hpn
  have hn1:(upd H pn (.lst (ss.map V.str))) pn=some (.lst (ss.map V.str)):=upd_same
  generalize upd H pn (.lst (ss.map V.str))=H1 at t1 hn1 ⊢
  have sl:=pm.length_eq
  rw [List.length_map,List.length_map] at sl
  have wss : ∀ x ∈ ss,Wr x:=fun x hx=>by
   obtain ⟨z,hz,rfl⟩:=List.mem_map.mp (pm.mem_iff.mp hx)
   exact (B.g.ok z hz).wr
  have l0:=Int.ediv_nonneg a0 (show (0:Int)<=4 by decide)
  refine ⟨_,rfl,c,rfl,_,_,rfl,rfl,(by show (0:Int) < 4; decide),_,rfl,c,rfl,_,_,rfl,rfl,⟨by decide,b9⟩,?_⟩
  have q0 : ∀ z:Int,1<=1+z % (10:Int) ^ Int.toNat 6/\1+z % (10:Int) ^ Int.toNat 6<=1000000:=fun z=>by
   have:=emod_in z (m:=1000000) (by decide)
   rw [e6]
   omega
  refine ⟨_,rfl,rfl,_,rfl,ite2 (fun _ => ?_) (fun _=>⟨_,rfl,rfl,_,rfl,ite2 (fun _ => ?_) (fun _ => ?_)⟩)⟩
  ·refine ⟨_,rfl,_,_,rfl,rfl,(by show (0:Int) < 1000001; decide),(by show 2<=sizeLine; decide),fun q hq => ?_⟩
   have e:=emod_in ((if c < 0 then -c else c) / 4) (m:=1000001) (by decide)
   exact k (.go ((if c < 0 then -c else c) / 4 % 1000001)) q _ (t1.trans (Same.upd hq)) upd_same ⟨e.1,by omega⟩
  ·refine ⟨_,rfl,_,rfl,l0,fun x n2 p H2 n20 wx s2 hp2 => ?_⟩
   refine ⟨p,_,rfl,SqT.of hp2,rfl,_,_,rfl,_,_,rfl,rfl,?_⟩
   refine ⟨_,rfl,_,rfl,n20,fun wr n3 p3 H3 n30 ww s3 hp3 => ?_⟩
   refine ⟨p3,_,rfl,SqT.of hp3,rfl,_,_,rfl,_,_,rfl,rfl,?_⟩
   refine ⟨_,rfl,_,rfl,_,rfl,_,_,rfl,rfl,⟨by decide,by decide,bk⟩,_,_,rfl,rfl,p0,_,_,rfl,rfl,_,rfl,_,_,rfl,rfl,⟨by decide,by decide,bk⟩,_,_,rfl,rfl,⟨p0,by rw [e6]; exact b9⟩,_,_,rfl,rfl,(by show (0:Int) < 1000001; decide),(by show 5<=sizeLine; decide),fun q hq => ?_⟩
   have e:=emod_in (n3 / (10:Int) ^ Int.toNat 6) (m:=1000001) (by decide)
   exact k (.take x wr (1+n3 % (10:Int) ^ Int.toNat 6) (n3 / (10:Int) ^ Int.toNat 6 % 1000001)) q _ ((t1.trans (s2.trans s3)).trans (Same.upd hq)) upd_same ⟨wx,ww,(q0 n3).1,(q0 n3).2,e.1,by omega⟩
  ·refine ⟨_,rfl,_,rfl,pn,ss,_,rfl,SqL.of hn1,wss,by omega,l0,fun x n2 p H2 n20 wx s2 hp2 => ?_⟩
   refine ⟨p,_,rfl,SqT.of hp2,rfl,_,_,rfl,_,_,rfl,rfl,?_⟩
   refine ⟨_,rfl,rfl,_,rfl,ite2 (fun _ => ?_) (fun _ => ?_)⟩
   ·refine ⟨_,rfl,_,rfl,pn,ss,_,rfl,SqL.of (s2 _ _ hn1),wss,by omega,n20,fun y n3 p3 H3 n30 wy s3 hp3 => ?_⟩
    refine ⟨p3,_,rfl,SqT.of hp3,rfl,_,_,rfl,_,_,rfl,rfl,?_⟩
    refine ⟨_,rfl,_,rfl,_,rfl,_,_,rfl,rfl,⟨by decide,by decide,bk⟩,_,_,rfl,rfl,p0,_,_,rfl,rfl,(by show 4<=sizeLine; decide),fun q hq => ?_⟩
    exact k (.pour x y (1+n3 % (10:Int) ^ Int.toNat 6)) q _ ((t1.trans (s2.trans s3)).trans (Same.upd hq)) upd_same ⟨wy,(q0 n3).1,(q0 n3).2⟩
   ·refine ⟨_,rfl,_,rfl,n20,fun y n3 p3 H3 n30 wy s3 hp3 => ?_⟩
    refine ⟨p3,_,rfl,SqT.of hp3,rfl,_,_,rfl,_,_,rfl,rfl,?_⟩
    refine ⟨_,rfl,_,rfl,_,rfl,_,_,rfl,rfl,⟨by decide,by decide,bk⟩,_,_,rfl,rfl,p0,_,_,rfl,rfl,(by show 4<=sizeLine; decide),fun q hq => ?_⟩
    exact k (.give x y (1+n3 % (10:Int) ^ Int.toNat 6)) q _ ((t1.trans (s2.trans s3)).trans (Same.upd hq)) upd_same ⟨wy,(q0 n3).1,(q0 n3).2⟩
end
end K76
namespace K76
open PySem PySem.Spec PyProof.Rows L2 GM TM
def spGood (K:PySem.W.Frag):Sp:=fun vs H Q _=>∃ a hd kd ls dd big F today n ds zi,∃ (nm:Addr) (ws:List Str) (c:Int),vs=[.ref a,.ref nm,.int c]/\LG H a hd kd ls dd big F today n ds zi/\SqL K H nm (ws.map V.str)/\ws.length=8/\(∀ x ∈ ws,Wr x)/\0<=c/\c < 2147483587/\0<=today/\today<=2*(n:Int)/\n+1<=52 /\
 ∀ (d:Dd) q H' M' zs' today',Same H H'->H' q=some (.tup d.row)->Stp n F (zi.map (·.1)) today d M' zs' today'->today'<=2*((n:Int)+1)->Q (.ref q) H'
def spNext (K:PySem.W.Frag):Sp:=fun vs H Q _=>∃ a hd kd ls dd big F today n ds zi,∃ (nm:Addr) (ws:List Str) (o c:Int) (b:Bool),vs=[.ref a,.ref nm,.int o,.int c,.bl b]/\LG H a hd kd ls dd big F today n ds zi/\SqL K H nm (ws.map V.str)/\ws.length=8/\(∀ x ∈ ws,Wr x)/\0<=c/\c < 2147483587/\0<=today/\today<=1000000/\(b=false->today<=2*(n:Int))/\n+1<=52 /\
 ∀ (d:Dd) q H' M' zs' today',Same H H'->H' q=some (.tup d.row)->Stp n F (zi.map (·.1)) today d M' zs' today'->(b=false->today'<=2*((n:Int)+1))->Q (.ref q) H'
section
variable {P:Program}{w:World}{K:PySem.W.Frag}{mg:Str->Option Value}{base:Heap}
theorem scNext:FnScope ["_law_here","_law_names_here","_law_own","_law_cell","_law_by_digits","_law_deed"] ["_law_here","_law_names_here","_law_own","_law_cell","_law_by_digits"] (defScope sNext):=⟨rfl,rfl,rfl,by decide +kernel,rfl,by decide +kernel,by decide +kernel⟩
theorem ok_next {f:Addr}{fd:FuncData}(F:Fun K "_law_next" "_law_next" sNext f fd)(cG:Cal P w K mg base CX0 3 "_law_good" ["_law_here","_law_names_here","_law_cell"] (spGood K))(cT:Cal P w K mg base CX0 3 "_law_told_deed" ["_law_here","_law_cell"] spTold)(cC:Cal P w K mg base CX0 3 "_law_can" ["_law_here","_law_deed"] spCan):FnOk P w K mg base CX0 4 f fd ["_law_here","_law_names_here","_law_own","_law_cell","_law_by_digits"] (spNext K):=by
 refine F.ok scNext (fun vs H Q E h => ?_) (fun cdv A outer s0 H vs Q E hr h => ?_)
 ·obtain ⟨_,_,_,_,_,_,_,_,_,_,_,_,_,_,_,_,rfl,_⟩:=h
  rfl
 ·obtain ⟨a,hd,kd,ls,dd,big,Fn,today,n,ds,zi,nm,ws,o,c,b,rfl,B,hn,wl,ww,c0,c1,t0,t1,tb,n1,k⟩:=h
  refine ⟨_,(pss_cons (ps_if (pt_not (pt_val (pv 4))) (pss_one (ps_ret (pe_cal cG hr rfl pass0 (pa_cons (pv 0) (pa_cons (pv 1) (pa_cons (pv 3) pa_nil)))))) pss_nil)
   (pss_cons (ps_set (i:=5) scNext.nd rfl (Or.inl rfl) (pe_cal cT hr rfl pass0 (pa_cons (pv 0) (pa_cons (pv 2) pa_nil))))
   (pss_cons (ps_if (pt_val (pe_cal cC hr rfl pass0 (pa_cons (pv 0) (pa_cons (pv 5) pa_nil)))) (pss_one (ps_ret (pv 5))) pss_nil)
   (pss_one (ps_ret (pe_tup (pa_cons pe_str (pa_cons (pe_dget (hu_of hr) (pv 0) pe_str (fun _ _=>rfl)) pa_nil)))))))),?_⟩
  cases b with
  | false =>
   exact ⟨_,rfl,_,rfl,iteT ⟨_,rfl,_,rfl,_,rfl,a,hd,kd,ls,dd,big,Fn,today,n,ds,zi,nm,ws,c,rfl,B,hn,wl,ww,c0,c1,t0,tb rfl,n1,fun d q H' M' zs' today' s hq st le=>k d q H' M' zs' today' s hq st fun _=>le⟩⟩
  | true =>
   refine ⟨_,rfl,_,rfl,iteF ⟨_,rfl,_,rfl,a,hd,kd,ls,dd,big,Fn,today,n,ds,zi,o,rfl,B,fun d q H1 s1 hq df => ?_⟩⟩
   refine ⟨_,rfl,_,rfl,a,hd,kd,ls,dd,big,Fn,today,n,ds,zi,d,q,rfl,B.same s1,hq,df,n1,fun b H2 s2 hb=>⟨_,rfl,?_⟩⟩
   cases b with
   | true =>
    obtain ⟨M',zs',today',st⟩:=hb rfl
    exact iteT ⟨_,rfl,k d q _ M' zs' today' (s1.trans s2) (s2 _ _ hq) st (fun z=>by cases z)⟩
   | false =>
    have B2:=B.same (s1.trans s2)
    exact iteF ⟨_,rfl,a,_,rfl,dg B2.s.ha hk_today,(by show 2<=sizeLine; decide),fun r hr'=>k (.go today) r _ _ _ _ ((s1.trans s2).trans (Same.upd hr')) upd_same (.go (Int.le_refl _) t0 t1) (fun z=>by cases z)⟩
end
end K76
namespace L2
open PySem PySem.Spec PyProof.Rows
theorem size3000 {n:Nat}(h:n<=3000):n < sizeLine:=Nat.lt_of_le_of_lt h (by decide)
theorem comp_pair {β:Type}{J:It}{xs:List V}{D:Addr}{g:TG}{tt:TT}{te:TE}{σ0:St}{QD:Hp->Prop}{H1:Hp}(Y:Ys J xs H1)(rs:List β)(el:xs.length=rs.length)(p:β->Bool)(Pr:β->V->Hp->Prop)(hP : ∀ r y H H',Pr r y H->Tk H H'->Pr r y H')(hD:H1 D=none)(hl:xs.length<=3000)
  (hs : ∀ (i:Nat) x r H' (R1:VK) (R2:Hp->Prop),xs[i]?=some x->rs[i]?=some r->Same H1 H'->(p r=true->∀ y H4,Same H' H4->Pr r y H4->R1 y H4)->(p r=false->∀ H4,Same H' H4->R2 H4)->g x σ0 H' fun σ2 H2=>Keep σ0 σ2/\tt σ2 H2 fun b H3=>if b=true then te σ2 H3 R1 else R2 H3)
  (hd : ∀ ys H',Same H1 H'->H' D=some (.lst ys)->Paired (fun y r=>Pr r y H') ys (rs.filter p)->QD H') :
  ∃ W:Nat->Nat->List V->Hp->Prop,(∃ m,W 0 m [] (upd H1 D (.lst [])))/\∀ i m ys H,W i m ys H->H D=some (.lst ys)/\ys.length < sizeLine /\
   ((J.stop i H/\QD H)\/(J.go i H/\∀ x H',J.yld i H x H'->g x σ0 H' fun σ2 H2=>Keep σ0 σ2/\tt σ2 H2 fun b H3 =>
    if b=true then te σ2 H3 fun y H4=>H4 D=some (.lst ys)/\∃ m',m' < m/\W (i+1) m' (ys ++ [y]) (upd H4 D (.lst (ys ++ [y]))) else ∃ m',m' < m/\W (i+1) m' ys H3)):=by
 refine ⟨fun i m ys H=>m=xs.length - i/\i<=xs.length/\Same H1 H/\H D=some (.lst ys)/\Paired (fun y r=>Pr r y H) ys ((rs.take i).filter p),⟨_,rfl,Nat.zero_le _,Same.upd hD,upd_same,.nil⟩,?_⟩
 rintro i m ys H ⟨rfl,hi,sm,hDH,pr⟩
 have yl:ys.length<=i:=by
  rw [Paired.length pr]
  refine Nat.le_trans (List.length_filter_le _ _) ?_
  rw [List.length_take]
  exact Nat.min_le_left ..
 refine ⟨hDH,size3000 (by omega),?_⟩
 by_cases hlt:i < xs.length
 ·refine .inr ⟨Y.go i H sm hlt,fun x H' y => ?_⟩
  obtain ⟨rfl,hx⟩:=Y.yld i H x H' sm hlt y
  obtain ⟨r,hr⟩ : ∃ r,rs[i]?=some r:=⟨_,List.getElem?_eq_getElem (by omega)⟩
  have et:(rs.take (i+1)).filter p=(rs.take i).filter p ++ if p r=true then [r] else []:=by
   rw [List.take_add_one,hr,List.filter_append]
   congr 1
   show List.filter p [r]=_
   by_cases e:p r=true
   ·rw [if_pos e,List.filter_cons_of_pos e]; rfl
   ·rw [if_neg e,List.filter_cons_of_neg e]; rfl
  refine hs i x r H' _ _ hx hr sm (fun hp y H4 s4 py => ?_) fun hp H4 s4 => ?_
  ·have hD4:=s4 _ _ hDH
   have tk:Tk H4 (upd H4 D (.lst (ys ++ [y]))):=Tk.lst hD4
   refine ⟨hD4,xs.length - (i+1),by omega,rfl,hlt,fun b o hb => ?_,upd_same,?_⟩
   ·rw [upd_ne (ne_of_none hb hD)]
    exact s4 _ _ (sm _ _ hb)
   ·rw [et,if_pos hp]
    exact Paired.snoc (Paired.mapP pr fun _ _ z=>hP _ _ _ _ (hP _ _ _ _ z (Same.tk s4)) tk) (hP _ _ _ _ py tk)
  ·refine ⟨xs.length - (i+1),by omega,rfl,hlt,sm.trans s4,s4 _ _ hDH,?_⟩
   rw [et,if_neg (by rw [hp]; decide),List.append_nil]
   exact Paired.mapP pr fun _ _ z=>hP _ _ _ _ z (Same.tk s4)
 ·have e:i=xs.length:=by omega
  subst e
  rw [el,List.take_length] at pr
  exact .inl ⟨Y.stop _ H sm (Nat.le_refl _),hd ys H sm hDH pr⟩
end L2
namespace L2
open PySem PySem.Spec PyProof.Rows
theorem comp_any {J:It}{xs:List V}{D:Addr}{g:TG}{tt:TT}{te:TE}{σ0:St}{QD:Hp->Prop}{H1:Hp}(Y:Ys J xs H1)(Pr:V->Prop)(hD:H1 D=none)(hl:xs.length<=1000)
  (hs : ∀ (i:Nat) x H' (R1:VK) (R2:Hp->Prop),xs[i]?=some x->Same H1 H'->(∀ y H4,Same H' H4->Pr y->R1 y H4)->(∀ H4,Same H' H4->R2 H4)->g x σ0 H' fun σ2 H2=>Keep σ0 σ2/\tt σ2 H2 fun b H3=>if b=true then te σ2 H3 R1 else R2 H3)
  (hd : ∀ ys H',Same H1 H'->H' D=some (.lst ys)->ys.length<=xs.length->(∀ y ∈ ys,Pr y)->QD H') :
  ∃ W:Nat->Nat->List V->Hp->Prop,(∃ m,W 0 m [] (upd H1 D (.lst [])))/\∀ i m ys H,W i m ys H->H D=some (.lst ys)/\ys.length < sizeLine /\
   ((J.stop i H/\QD H)\/(J.go i H/\∀ x H',J.yld i H x H'->g x σ0 H' fun σ2 H2=>Keep σ0 σ2/\tt σ2 H2 fun b H3 =>
    if b=true then te σ2 H3 fun y H4=>H4 D=some (.lst ys)/\∃ m',m' < m/\W (i+1) m' (ys ++ [y]) (upd H4 D (.lst (ys ++ [y]))) else ∃ m',m' < m/\W (i+1) m' ys H3)):=by
 refine ⟨fun i m ys H=>m=xs.length - i/\i<=xs.length/\Same H1 H/\H D=some (.lst ys)/\ys.length<=i/\∀ y ∈ ys,Pr y,⟨_,rfl,Nat.zero_le _,Same.upd hD,upd_same,Nat.le_refl _,fun y h=>(nomatch h)⟩,?_⟩
 rintro i m ys H ⟨rfl,hi,sm,hDH,yl,pr⟩
 refine ⟨hDH,small1000 (by omega),?_⟩
 by_cases hlt:i < xs.length
 ·refine .inr ⟨Y.go i H sm hlt,fun x H' y => ?_⟩
  obtain ⟨rfl,hx⟩:=Y.yld i H x H' sm hlt y
  refine hs i x H' _ _ hx sm (fun y H4 s4 py => ?_) fun H4 s4 => ?_
  ·have hD4:=s4 _ _ hDH
   refine ⟨hD4,xs.length - (i+1),by omega,rfl,hlt,fun b o hb => ?_,upd_same,?_,fun z hz => ?_⟩
   ·rw [upd_ne (ne_of_none hb hD)]
    exact s4 _ _ (sm _ _ hb)
   ·rw [List.length_append]
    exact Nat.succ_le_succ yl
   ·rcases List.mem_append.mp hz with h | h
    ·exact pr z h
    ·rw [List.mem_singleton.mp h]
     exact py
  ·exact ⟨xs.length - (i+1),by omega,rfl,hlt,sm.trans s4,s4 _ _ hDH,by omega,pr⟩
 ·have e:i=xs.length:=by omega
  subst e
  exact .inl ⟨Y.stop _ H sm (Nat.le_refl _),hd ys H sm hDH yl pr⟩
end L2
namespace L2
open PySem PySem.Spec PyProof.Rows
theorem seqN {t u:TS}{D:Ends}{σ:St}{H:Hp}(S:St->Hp->Prop)(h : ∀ σ' H',S σ' H'->u D σ' H')(g : ∀ N:St->Hp->Prop,(∀ σ' H',S σ' H'->N σ' H')->t { D with nx:=N } σ H):tSeq t u D σ H:=g (u D) h
theorem ifN {c:TT}{t u r:TS}{D:Ends}{σ:St}{H:Hp}(S:Bool->Hp->Prop)(h : ∀ b H',S b H'->if b=true then t { D with nx:=r D } σ H' else u { D with nx:=r D } σ H')(g : ∀ C:Bool->Hp->Prop,(∀ b H',S b H'->C b H')->c σ H C):tSeq (tIfS c t u) r D σ H:=g _ h
theorem at_last {α:Type}{xs:List α}(h:xs ≠ []) : ∃ x,atI xs (-1)=some x/\x ∈ xs:=by
 have e:=List.dropLast_concat_getLast h
 refine ⟨xs.getLast h,?_,List.getLast_mem h⟩
 have:=atI_last xs.dropLast (xs.getLast h)
 rw [e] at this
 exact this
theorem cut_mem {xs:List V}{lo hi:Option Int}{v:V}(h:v ∈ cutV xs lo hi):v ∈ xs:=List.mem_of_mem_drop (List.mem_of_mem_take h)
end L2
namespace K76
open PySem PySem.Spec PyProof.Rows L2 GM TM
theorem TOk.T1 {M:Int}{n:Nat}{z:Th}(t:TOk M n z)(M0:0 < M)(h:z.ks ≠ []):1<=z.T:=by
 have s:=t.sum
 obtain ⟨y,ys,e⟩:=List.exists_cons_of_ne_nil h
 have le:1<=(z.ks.map z.f).sum:=by
  have a:=t.pos y (by rw [e]; exact List.mem_cons_self)
  have b:=sum_mem (f:=z.f) (fun x=>by
   by_cases hx:x ∈ z.ks
   ·have:=t.pos x hx; omega
   ·rw [t.out x hx]; exact Int.le_refl _) (show y ∈ z.ks by rw [e]; exact List.mem_cons_self)
  omega
 rw [s] at le
 by_cases c:1<=z.T
 ·exact c
 ·have:z.T=0:=by have:=t.T0; omega
  rw [this,Int.zero_mul] at le
  omega
section
variable {P:Program}{w:World}{K:PySem.W.Frag}{mg:Str->Option Value}{base:Heap}
theorem ndG1:(["_law_name","_law_here"]:List Str).Nodup:=by decide +kernel
theorem ndG3:(["_law_name","_law_here","_law_source"]:List Str).Nodup:=by decide +kernel
abbrev NGood:List Str:=["_law_here","_law_names_here","_law_cell","_law_some","_law_free","_law_way","_law_most","_law_spoons","_law_source","_law_many","_law_goals"]
theorem scGood:FnScope NGood ["_law_here","_law_names_here","_law_cell"] (defScope sGood):=⟨rfl,rfl,rfl,by decide +kernel,rfl,by decide +kernel,by decide +kernel⟩
theorem ok_good {f:Addr}{fd:FuncData}(F:Fun K "_law_good" "_law_good" sGood f fd)(T:Txt mg)(cF:Cal P w K mg base CX0 2 "_law_fresh" ["_law_here","_law_name"] spFresh)(cT:Cal P w K mg base CX0 2 "_law_total" ["_law_here","_law_name"] spLtot):FnOk P w K mg base CX0 3 f fd ["_law_here","_law_names_here","_law_cell"] (spGood K):=by
 refine F.ok scGood (fun vs H Q E h => ?_) (fun cdv A outer s0 H vs Q E hr h => ?_)
 ·obtain ⟨_,_,_,_,_,_,_,_,_,_,_,_,_,_,rfl,_⟩:=h
  rfl
 ·obtain ⟨a,hd,kd,ls,dd,big,Fn,today,n,ds,zi,nm,ws,c,rfl,B,hn,wl,ww,c0,c1,t0,tb,n1,k⟩:=h
  refine ⟨_,(pss_cons (ps_thaw (ps_compC (iy:=3) (N':=["_law_name","_law_here"]) (fun σ=>[none,some 0].map fun t=>t.bind fun j=>(σ[j]?).join) rfl rfl (by decide +kernel) (by decide +kernel)
     (hk_of (sc:=defScope sGood) rfl (by decide +kernel)) (fun _ _ _=>blkN_by (sc:=defScope sGood) (N:=NGood) [none,some 0] rfl rfl rfl rfl (by decide +kernel))
     (pi_dict (pe_dget (hu_of hr) (pv 0) pe_str (fun _ _=>rfl))) (fun _ _ _ _ _ _=>pg_name (i:=0) ndG1 rfl (Or.inl rfl))
     (fun _ _ _ _ _ _=>pifs_one (PW.pt (pw_and (pt_cmpR op_ne (pe_dget (hu_of hr) (pe_dget (hu_of hr) (pv 1) pe_str (fun _ _=>rfl)) (pv 0) (fun _ _=>rfl)) pe_str (nomark _)) (pw_and1 (pt_val (pe_cal cF hr rfl pass0 (pa_cons (pv 1) (pa_cons (pv 0) pa_nil))))))))
     (fun _ _ _ _ _ _=>pv 0) scGood.nd rfl (Or.inl rfl) (Or.inr rfl) rfl))
   (pss_cons (ps_compC (iy:=4) (N':=["_law_name","_law_here"]) (fun σ=>[none,some 0].map fun t=>t.bind fun j=>(σ[j]?).join) rfl rfl (by decide +kernel) (by decide +kernel)
     (hk_of (sc:=defScope sGood) rfl (by decide +kernel)) (fun _ _ _=>blkN_by (sc:=defScope sGood) (N:=NGood) [none,some 0] rfl rfl rfl rfl (by decide +kernel))
     (pi_list (pv 1)) (fun _ _ _ _ _ _=>pg_name (i:=0) ndG1 rfl (Or.inl rfl))
     (fun _ _ _ _ _ _=>pifs_one (pt_cmp (pc_dnotin (hu_of hr) (pv 0) (pe_dget (hu_of hr) (pv 1) pe_str (fun _ _=>rfl)))))
     (fun _ _ _ _ _ _=>pv 0) scGood.nd rfl (Or.inl rfl) (Or.inr rfl) rfl)
   (pss_cons (ps_set (i:=5) scGood.nd rfl (Or.inl rfl) (pe_op op_mod (pv 2) pe_int))
   (pss_cons (ps_set (i:=6) scGood.nd rfl (Or.inl rfl) (pe_ix ix_list (pe_lst (pa_cons pe_int (pa_cons pe_int (pa_cons pe_int pa_nil)))) (pe_op op_mod (pe_op op_fdivB (pv 2) pe_int) pe_int) (fun _ _=>rfl)))
   (pss_cons (ps_if (pt_val (pe_dget (hu_of hr) (pv 0) pe_str (fun _ _=>rfl)))
    (pss_one (ps_set (i:=6) scGood.nd rfl (Or.inl rfl) (pe_op op_add (pe_op op_mulB (pv 6) (pv 6)) pe_int)))
    pss_nil)
   (pss_cons (ps_set (i:=7) scGood.nd rfl (Or.inl rfl) (pe_op op_add pe_int (pe_op op_mod (pe_op op_fdivB (pv 2) pe_int) (pv 6))))
   (pss_cons (ps_if (PW.pt (pw_or (pt_cmpR (op_eqE hr.units) (pv 3) (pe_lst pa_nil) (nomark _)) (pw_or1 (PW.pt (pw_and (pt_cmpR op_lt (pv 5) pe_int (nomark _)) (pw_and (pt_cmpR (op_neE hr.units) (pv 4) (pe_lst pa_nil) (nomark _)) (pw_and1 (pt_cmpR op_lt (pe_callB call_lenDK rfl T.len PySem.boot_len (pa_cons (pe_dget (hu_of hr) (pv 0) pe_str (fun _ _=>rfl)) pa_nil)) pe_int (nomark _)))))))))
    (pss_cons (ps_if (pt_cmpR (op_eqE hr.units) (pv 4) (pe_lst pa_nil) (nomark _))
     (pss_one (ps_ret (pe_tup (pa_cons pe_str (pa_cons (pe_dget (hu_of hr) (pv 0) pe_str (fun _ _=>rfl)) pa_nil)))))
     pss_nil)
    (pss_one (ps_ret (pe_tup (pa_cons pe_str (pa_cons (pe_ix ix_list (pv 4) pe_int (fun _ _=>rfl)) (pa_cons (pe_ix ix_list (pv 1) (pe_op op_mod (pe_op op_fdivB (pv 2) pe_int) pe_int) (fun _ _=>rfl)) (pa_cons (pv 7) (pa_cons (pe_op op_add (pe_dget (hu_of hr) (pv 0) pe_str (fun _ _=>rfl)) (pe_op op_mod (pe_op op_fdivB (pv 2) pe_int) pe_int)) pa_nil)))))))))
    pss_nil)
   (pss_cons (ps_if (pt_cmpR op_eq (pv 5) pe_int (nomark _))
    (pss_one (ps_ret (pe_tup (pa_cons pe_str (pa_cons (pe_callB (call_min2 rfl) rfl T.min' boot_min (pa_cons (pe_op op_powB pe_int pe_int) (pa_cons (pe_op op_add (pe_dget (hu_of hr) (pv 0) pe_str (fun _ _=>rfl)) (pe_op op_mod (pe_op op_fdivB (pv 2) pe_int) pe_int)) pa_nil))) pa_nil)))))
    pss_nil)
   (pss_cons (ps_set (i:=8) scGood.nd rfl (Or.inr rfl) (pe_ix ix_list (pv 3) (pe_op op_mod (pe_op op_fdivB (pv 2) pe_int) (pe_callB call_len_seq rfl T.len PySem.boot_len (pa_cons (pv 3) pa_nil))) (fun _ _=>rfl)))
   (pss_cons (ps_set (i:=9) scGood.nd rfl (Or.inl rfl) (pe_op op_add pe_int (pe_op op_mod (pe_op op_fdivB (pv 2) pe_int) (pe_cal cT hr rfl pass0 (pa_cons (pv 0) (pa_cons (pv 8) pa_nil))))))
   (pss_cons (ps_if (pt_cmpR op_eq (pe_op op_mod (pe_op op_fdivB (pv 2) pe_int) pe_int) pe_int (nomark _))
    (pss_one (ps_set (i:=9) scGood.nd rfl (Or.inl rfl) (pe_cal cT hr rfl pass0 (pa_cons (pv 0) (pa_cons (pv 8) pa_nil)))))
    pss_nil)
   (pss_cons (ps_set (i:=9) scGood.nd rfl (Or.inl rfl) (pe_callB (call_min2 rfl) rfl T.min' boot_min (pa_cons (pv 9) (pa_cons (pe_op op_powB pe_int pe_int) pa_nil))))
   (pss_cons (ps_if (PW.pt (pw_and (pt_cmpR op_eq (pv 5) pe_int (nomark _)) (pw_and1 (pt_cmpR op_gt (pe_callB call_len_seq rfl T.len PySem.boot_len (pa_cons (pv 4) pa_nil)) pe_int (nomark _)))))
    (pss_one (ps_ret (pe_tup (pa_cons pe_str (pa_cons (pv 8) (pa_cons (pe_ix ix_list (pv 4) (pe_un un_neg pe_int) (fun _ _=>rfl)) (pa_cons (pv 9) pa_nil)))))))
    pss_nil)
   (pss_cons (ps_thaw (ps_compC (iy:=10) (N':=["_law_name","_law_here","_law_source"]) (fun σ=>[none,some 0,some 8].map fun t=>t.bind fun j=>(σ[j]?).join) rfl rfl (by decide +kernel) (by decide +kernel)
     (hk_of (sc:=defScope sGood) rfl (by decide +kernel)) (fun _ _ _=>blkN_by (sc:=defScope sGood) (N:=NGood) [none,some 0,some 8] rfl rfl rfl rfl (by decide +kernel))
     (pi_dict (pe_dget (hu_of hr) (pv 0) pe_str (fun _ _=>rfl))) (fun _ _ _ _ _ _=>pg_name (i:=0) ndG3 rfl (Or.inl rfl))
     (fun _ _ _ _ _ _=>pifs_one (PW.pt (pw_and (pt_cmpR op_eq (pe_dget (hu_of hr) (pe_dget (hu_of hr) (pv 1) pe_str (fun _ _=>rfl)) (pv 0) (fun _ _=>rfl)) pe_str (nomark _)) (pw_and1 (pt_cmpR op_ne (pv 0) (pv 2) (nomark _))))))
     (fun _ _ _ _ _ _=>pv 0) scGood.nd rfl (Or.inl rfl) (Or.inr rfl) rfl))
   (pss_cons (ps_set (i:=10) scGood.nd rfl (Or.inl rfl) (pe_op op_cat (pv 10) (pe_slice sl_list (pv 4) (po_some pe_int) (po_some pe_int))))
   (pss_cons (ps_if (pt_cmpR (op_eqE hr.units) (pv 10) (pe_lst pa_nil) (nomark _))
    (pss_one (ps_ret (pe_tup (pa_cons pe_str (pa_cons (pe_dget (hu_of hr) (pv 0) pe_str (fun _ _=>rfl)) pa_nil)))))
    pss_nil)
   (pss_one (ps_ret (pe_tup (pa_cons pe_str (pa_cons (pv 8) (pa_cons (pe_ix ix_list (pv 10) (pe_op op_mod (pe_op op_fdivB (pv 2) pe_int) (pe_callB call_len_seq rfl T.len PySem.boot_len (pa_cons (pv 10) pa_nil))) (fun _ _=>rfl)) (pa_cons (pv 9) pa_nil))))))))))))))))))))))),?_⟩
  have nd:=B.g.nd
  have zl:=B.g.ln
  have n60:=B.g.n60
  rw [List.length_map] at zl
  have t1:today<=1000000:=by omega
  have nfz:=no_frz B.s.hh
  have p0:(0:Int) < (10:Int) ^ Int.toNat 6:=by rw [e6]; decide
  refine ⟨_,rfl,a,_,rfl,dg B.s.ha hk_held,hd,_,rfl,B.s.hh,fun ob D hD => ?_⟩
  have nda:=B.s.nda
  have n5:=(List.nodup_append.mp nda).1
  simp only [List.nodup_cons,List.mem_cons,List.not_mem_nil,or_false,not_or] at n5
  have nhk:kd ≠ hd:=Ne.symm n5.2.1.1
  have nah:a ≠ hd:=n5.1.1
  refine comp_any (Ys.dict upd_same) (fun y=>∃ e ∈ zi,y = .str e.1.x/\e.1.k ≠ "dose" /\ Frs (zi.map fun e:Th × Addr=>e.1) e.1 today) hD (by rw [List.length_map,List.length_map]; omega) (fun i y H' R1 R2 hy sm h1 h2 => ?_) (fun ys H5 sm hD5 yl hys => ?_)
  ·rw [List.getElem?_map] at hy
   obtain ⟨kv,hkv,rfl⟩:=Option.map_eq_some_iff.mp hy
   rw [List.getElem?_map] at hkv
   obtain ⟨e,hze,rfl⟩:=Option.map_eq_some_iff.mp hkv
   have he:=List.mem_of_getElem? hze
   have L1:=(B.held ob).same sm
   have hk1:H' kd=some (.dK (zi.map keyK)):=sm _ _ (by rw [upd_ne nhk]; exact B.s.hk)
   refine ⟨(Keep.refl _).set rfl,_,rfl,a,_,rfl,dg L1.ha hk_kinds,_,rfl,kd,_,rfl,dg hk1 (LS.getK nd he),rfl,_,rfl,ite2 (fun hc => ?_) (fun _=>iteF (h2 _ (Same.refl _)))⟩
   have ndo:e.1.k ≠ "dose" := fun z=>by
    have:(!decide (V.str e.1.k=V.str "dose"))=true:=hc
    rw [z] at this
    simp at this
   refine ⟨_,rfl,_,rfl,a,hd,kd,ls,dd,big,Fn,today,n,zi,e,rfl,L1,he,fun b H2 s2 hf => ?_⟩
   cases b with
   | true=>exact ⟨_,rfl,iteT ⟨_,rfl,h1 _ _ s2 ⟨e,he,rfl,ndo,hf rfl⟩⟩⟩
   | false=>exact ⟨_,rfl,iteF (h2 _ s2)⟩
  ·have Dd:D ≠ hd:=fun z=>by rw [z,upd_same] at hD; cases hD
   have sF:=thaw_same B.s.hh sm
   refine ⟨hd,ob,_,sm _ _ upd_same,nfz,?_⟩
   have hs1:(upd H5 hd (.dK (zi.map keyX))) D=some (.lst ys):=by rw [upd_ne Dd]; exact hD5
   have B1:=B.same sF
   generalize upd H5 hd (.dK (zi.map keyX))=H1 at sF hs1 B1 ⊢
   have hn1:=sF.seq hn
   refine ⟨_,rfl,nm,rfl,⟨_,hn1⟩,fun D2 hD2 => ?_⟩
   refine comp_any (Ys.list (xs:=ws.map V.str) hn1) (fun y=>∃ x ∈ ws,y = .str x/\x ∉ (zi.map fun e:Th × Addr=>e.1).map Th.x) hD2 (by rw [List.length_map]; omega) (fun i y H' R1 R2 hy sm2 h1 h2 => ?_) (fun fs H6 sm2 hD6 fl hfs => ?_)
   ·rw [List.getElem?_map] at hy
    obtain ⟨x,hx,rfl⟩:=Option.map_eq_some_iff.mp hy
    have B2:=B1.same sm2
    refine ⟨(Keep.refl _).set rfl,_,rfl,_,rfl,a,_,rfl,dg B2.s.ha hk_kinds,kd,_,rfl,DGet.k (k:=.inr x) B2.s.hk,?_⟩
    by_cases hxx:x ∈ (zi.map fun e:Th × Addr=>e.1).map Th.x
    ·have vs:(valV (zi.map keyK) (Sum.inr x)).isSome=true:=by
      obtain ⟨t,ht,ey⟩:=List.mem_map.mp hxx
      obtain ⟨g,hg,rfl⟩:=List.mem_map.mp ht
      rw [<- ey,LS.getK nd hg]
      rfl
     rw [vs]
     exact ⟨_,rfl,iteF (h2 _ (Same.refl _))⟩
    ·have vn:(valV (zi.map keyK) (Sum.inr x)).isSome=false:=by rw [show valV (zi.map keyK) (Sum.inr x)=none from key_no (φ:=fun e=>.str e.1.k) hxx]; rfl
     rw [vn]
     exact ⟨_,rfl,iteT ⟨_,rfl,h1 _ _ (Same.refl _) ⟨x,List.mem_of_getElem? hx,rfl,hxx⟩⟩⟩
   ·have s6:=sF.trans sm2
    have B6:=B1.same sm2
    have hs6:=sm2 _ _ hs1
    have hn6:=s6.seq hn
    clear hD hD5 sm yl hD2 hs1 hn1 sm2 B1 sF
    have m3:=emod_in (c / 8) (m:=3) (by decide)
    refine ⟨_,rfl,_,_,rfl,rfl,(by show (0:Int) < 8; decide),?_⟩
    refine ⟨(by show 3<=sizeLine; decide),fun z hz => ?_⟩
    have tz:=Same.upd (o:=.lst [.int 12,.int 60,.int 900]) hz
    obtain ⟨v,hv,mv⟩:=at_int (xs:=[V.int 12,.int 60,.int 900]) m3.1 m3.2
    refine ⟨_,rfl,_,_,rfl,rfl,⟨by decide,b9⟩,_,_,rfl,rfl,(by show (0:Int) < 3; decide),z,_,_,_,rfl,rfl,SqL.of upd_same,hv,?_⟩
    obtain ⟨mo,rfl,mo1,mo2⟩ : ∃ mo:Int,v = .int mo/\12<=mo/\mo<=900:=by
     simp only [List.mem_cons,List.not_mem_nil,or_false] at mv
     rcases mv with rfl | rfl | rfl
     ·exact ⟨12,rfl,by decide,by decide⟩
     ·exact ⟨60,rfl,by decide,by decide⟩
     ·exact ⟨900,rfl,by decide,by decide⟩
    have s7:=s6.trans tz
    have B7:=B6.same tz
    have hs7:=tz _ _ hs6
    have hf7:=tz _ _ hD6
    generalize upd H6 z (.lst [.int 12,.int 60,.int 900])=H7 at s7 B7 hs7 hf7 ⊢
    have hn7:=s7.seq hn
    clear tz B6 hs6 hn6 hD6 s6 hz
    dsimp only [gName]
    refine seqN (fun σ' H'=>H7=H'/\∃ m6:Int,1<=m6/\m6<=1000000/\σ'=[some (.ref a),some (.ref nm),some (.int c),some (.ref D),some (.ref D2),some (.int (c % 8)),some (.int m6),none,none,none,none]) ?_ (fun N hN => ?_)
    rotate_left
    ·refine ⟨_,rfl,a,_,rfl,dg B7.s.ha hk_big,_,rfl,ite2 (fun _ => ?_) (fun _=>hN _ _ ⟨rfl,mo,by omega,by omega,rfl⟩)⟩
     refine ⟨_,rfl,_,rfl,_,_,rfl,rfl,⟨b6 (bt_lt 10 (c:=1024) (by omega) (by omega)),b6 (bt_lt 10 (c:=1024) (by omega) (by omega))⟩,_,_,rfl,rfl,hN _ _ ⟨rfl,_,?_,?_,rfl⟩⟩
     ·have:=Int.mul_nonneg (show 0<=mo by omega) (show 0<=mo by omega)
      omega
     ·have:=Int.mul_le_mul mo2 mo2 (by omega) (by decide)
      omega
    rintro _ _ ⟨rfl,m6,m61,m62,rfl⟩
    have sp:=emod_in (c / 64) (m:=m6) (by omega)
    refine ⟨_,rfl,_,_,rfl,rfl,⟨by decide,b9⟩,_,rfl,_,_,rfl,rfl,(by show (0:Int) < m6; omega),_,_,rfl,rfl,?_⟩
    dsimp only [gName]
    refine ifN (fun b H'=>Same H7 H'/\(b=false->ys ≠ [])) (fun b H8 ⟨s8,hb⟩ => ?_) (fun C hC => ?_)
    rotate_left
    ·refine ⟨_,rfl,(by show 0<=sizeLine; decide),fun z hz => ?_⟩
     have t8:=Same.upd (o:=.lst []) hz
     refine ⟨D,z,ys,rfl,rfl,SqL.of (t8 _ _ hs7),SqL.of upd_same,_,rfl,ite2 (fun _=>hC _ _ ⟨t8,fun z=>by cases z⟩) (fun hne => ?_)⟩
     have yne:ys ≠ []:=fun z=>hne (by rw [z]; rfl)
     refine ⟨_,rfl,_,_,rfl,rfl,_,rfl,ite2 (fun _ => ?_) (fun _=>hC _ _ ⟨t8,fun _=>yne⟩)⟩
     refine ⟨_,rfl,(by show 0<=sizeLine; decide),fun z2 hz2 => ?_⟩
     have t9:=Same.upd (o:=.lst []) hz2
     have t89:=t8.trans t9
     refine ⟨D2,z2,fs,rfl,rfl,SqL.of (t89 _ _ hf7),SqL.of upd_same,_,rfl,ite2 (fun _ => ?_) (fun _=>hC _ _ ⟨t89,fun _=>yne⟩)⟩
     have B9:=B7.same t89
     obtain ⟨lk,lks,hls,_⟩:=B9.s.hl
     refine ⟨_,rfl,a,_,rfl,dg B9.s.ha hk_lasts,ls,_,rfl,hls,_,_,rfl,rfl,_,rfl,hC _ _ ⟨t89,fun _=>yne⟩⟩
    have B8:=B7.same s8
    have hs8:=s8 _ _ hs7
    have hf8:=s8 _ _ hf7
    have s08:=s7.trans s8
    have hn8:=s08.seq hn
    cases b with
    | true =>
     refine iteT ?_
     refine ⟨_,rfl,(by show 0<=sizeLine; decide),fun z hz => ?_⟩
     have t9:=Same.upd (o:=.lst []) hz
     have B9:=B8.same t9
     have hf9:=t9 _ _ hf8
     have hn9:=t9.seq hn8
     have s09:=s08.trans t9
     refine ⟨D2,z,fs,rfl,rfl,SqL.of hf9,SqL.of upd_same,_,rfl,ite2 (fun _ => ?_) (fun hne => ?_)⟩
     ·exact ⟨_,rfl,a,_,rfl,dg B9.s.ha hk_today,(by show 2<=sizeLine; decide),fun q hq=>k (.go today) q _ _ _ _ (s09.trans (Same.upd hq)) upd_same (.go (Int.le_refl _) t0 t1) (by omega)⟩
     ·have fne:fs ≠ []:=fun z=>hne (by rw [z]; rfl)
      have fpos:0 < fs.length:=List.length_pos_iff.mpr fne
      obtain ⟨v0,hv0,mv0⟩:=at_int (xs:=fs) (e:=0) (by decide) (by omega)
      obtain ⟨x,hx,rfl,nx⟩:=hfs v0 mv0
      have m8:=emod_in (c / 8) (m:=8) (by decide)
      have m5:=emod_in (c / 512) (m:=5) (by decide)
      obtain ⟨v1,hv1,mv1⟩:=at_int (xs:=ws.map V.str) (e:=c / 8 % 8) m8.1 (by rw [List.length_map,wl]; exact m8.2)
      obtain ⟨x1,hx1,rfl⟩:=List.mem_map.mp mv1
      refine ⟨_,rfl,D2,_,_,_,rfl,rfl,SqL.of hf9,hv0,_,rfl,_,rfl,_,_,rfl,rfl,⟨by decide,b9⟩,_,_,rfl,rfl,(by show (0:Int) < 8; decide),nm,_,_,_,rfl,rfl,hn9,hv1,_,rfl,_,rfl,a,_,rfl,dg B9.s.ha hk_today,_,rfl,_,_,rfl,rfl,⟨by decide,b9⟩,_,_,rfl,rfl,(by show (0:Int) < 5; decide),_,_,rfl,rfl,(by show 5<=sizeLine; decide),fun q hq => ?_⟩
      exact k (.take x x1 (1+c / 64 % m6) (today+c / 512 % 5)) q _ _ _ _ (s09.trans (Same.upd hq)) upd_same (.take (ww x hx) (ww x1 hx1) nx (by omega) (by omega) (by omega) (by omega)) (by omega)
    | false =>
     refine iteF ?_
     have yne:=hb rfl
     have ypos:0 < ys.length:=List.length_pos_iff.mpr yne
     have m3':=emod_in (c / 8) (m:=3) (by decide)
     refine ⟨_,rfl,rfl,_,rfl,ite2 (fun _ => ?_) (fun _ => ?_)⟩
     ·refine ⟨_,_,rfl,rfl,⟨by decide,by decide,bk⟩,_,rfl,a,_,rfl,dg B8.s.ha hk_today,_,rfl,_,_,rfl,rfl,⟨by decide,b9⟩,_,_,rfl,rfl,(by show (0:Int) < 3; decide),_,_,rfl,rfl,_,_,rfl,(by show 2<=sizeLine; decide),fun q hq => ?_⟩
      rw [e6,if_pos (show today+c / 8 % 3 < 1000000 by omega)] at *
      exact k (.go (today+c / 8 % 3)) q _ _ _ _ (s08.trans (Same.upd hq)) upd_same (.go (by omega) (by omega) (by omega)) (by omega)
     ·have my:=emod_in (c / 8) (m:=(ys.length:Int)) (by omega)
      obtain ⟨v,hv,mv⟩:=at_int (xs:=ys) my.1 my.2
      obtain ⟨e,he,rfl,ndo,fr⟩:=hys v mv
      have mz:=List.mem_map_of_mem (f:=(·.1)) he
      have to:=B.g.ok e.1 mz
      have T1:=to.T1 B.g.M0 fr.1
      refine ⟨_,rfl,_,rfl,_,_,rfl,rfl,⟨by decide,b9⟩,_,rfl,D,_,rfl,.inl (SqL.of hs8),_,_,rfl,rfl,(by show (0:Int) < (ys.length:Int); omega),D,_,_,_,rfl,rfl,SqL.of hs8,hv,?_⟩
      have mm:=emod_in (c / 64) (m:=e.1.T) (by omega)
      refine ⟨_,rfl,_,_,rfl,rfl,⟨by decide,b9⟩,_,rfl,_,rfl,a,hd,kd,ls,dd,big,Fn,today,n,ds,zi,e,rfl,B8,he,fun H9 s9=>⟨_,_,rfl,rfl,(by show (0:Int) < e.1.T; omega),_,_,rfl,rfl,?_⟩⟩
      have B9:=B8.same s9
      have s09:=s08.trans s9
      have hs9:=s9 _ _ hs8
      have hf9:=s9 _ _ hf8
      dsimp only [gName]
      refine seqN (fun σ' H'=>Same H9 H'/\∃ m:Int,1<=m/\m<=e.1.T/\σ'=[some (.ref a),some (.ref nm),some (.int c),some (.ref D),some (.ref D2),some (.int (c % 8)),some (.int m6),some (.int (1+c / 64 % m6)),some (.str e.1.x),some (.int m),none]) ?_ (fun N hN => ?_)
      rotate_left
      ·refine ⟨_,rfl,_,_,rfl,rfl,⟨by decide,b9⟩,_,_,rfl,rfl,(by show (0:Int) < 4; decide),rfl,_,rfl,ite2 (fun _ => ?_) (fun _=>hN _ _ ⟨Same.refl _,_,by omega,by omega,rfl⟩)⟩
       exact ⟨_,rfl,_,rfl,a,hd,kd,ls,dd,big,Fn,today,n,ds,zi,e,rfl,B9,he,fun H10 s10=>hN _ _ ⟨s10,_,T1,Int.le_refl _,rfl⟩⟩
      rintro _ HA ⟨sA,m,mm1,mm2,rfl⟩
      have BA:=B9.same sA
      have s0A:=s09.trans sA
      have hfA:=sA _ _ hf9
      refine ⟨_,rfl,_,_,rfl,rfl,⟨by decide,by decide,bk⟩,_,_,rfl,?_⟩
      obtain ⟨m',em,p1,p2,p3⟩ : ∃ m':Int,(if (10:Int) ^ Int.toNat 6 < m then (10:Int) ^ Int.toNat 6 else m)=m'/\1<=m'/\m'<=e.1.T/\m'<=1000000:=by
       rw [e6]
       split
       ·exact ⟨_,rfl,by omega,by omega,by omega⟩
       ·exact ⟨_,rfl,by omega,by omega,by omega⟩
      rw [em]
      dsimp only [gName]
      refine ifN (fun b H'=>HA=H'/\(b=true->fs ≠ [])) (fun b _ ⟨eh,hb1⟩ => ?_) (fun C hC => ?_)
      rotate_left
      ·refine ⟨_,rfl,rfl,_,rfl,ite2 (fun _=>⟨_,rfl,D2,_,rfl,.inl (SqL.of hfA),_,_,rfl,rfl,_,rfl,hC _ _ ⟨rfl,fun hg z => ?_⟩⟩) (fun _=>hC _ _ ⟨rfl,fun z=>by cases z⟩)⟩
       subst z
       exact absurd hg (by decide)
      subst eh
      have ww' : ∀ {y:Str},y ∉ (zi.map fun e:Th × Addr=>e.1).map Th.x->y ≠ e.1.x:=fun ny z=>ny (z ▸ List.mem_map_of_mem mz)
      cases b with
      | true =>
       refine iteT ?_
       obtain ⟨v2,hv2,mv2⟩:=at_last (hb1 rfl)
       obtain ⟨x,hx,rfl,nx⟩:=hfs v2 mv2
       refine ⟨_,rfl,_,rfl,_,rfl,D2,_,_,_,rfl,rfl,SqL.of hfA,hv2,_,rfl,(by show 4<=sizeLine; decide),fun q hq => ?_⟩
       exact k (.give e.1.x x m') q _ _ _ _ (s0A.trans (Same.upd hq)) upd_same (.give (s:=e.1) ⟨mz,ndo,ww x hx,ww' nx,p1,p2,p3,fr.2,n1⟩ nx) (by omega)
      | false =>
       refine iteF ?_
       refine ⟨_,rfl,a,_,rfl,dg BA.s.ha hk_held,hd,_,rfl,BA.s.hh,fun ob3 D3 hD3 => ?_⟩
       refine comp_any (Ys.dict upd_same) (fun y=>∃ g ∈ zi,y = .str g.1.x/\g.1.k = "store" /\ g.1.x ≠ e.1.x) hD3 (by rw [List.length_map,List.length_map]; omega) (fun i y H' R1 R2 hy sm h1 h2 => ?_) (fun gs H5 sm hD5 gl hgs => ?_)
       ·rw [List.getElem?_map] at hy
        obtain ⟨kv,hkv,rfl⟩:=Option.map_eq_some_iff.mp hy
        rw [List.getElem?_map] at hkv
        obtain ⟨g,hzg,rfl⟩:=Option.map_eq_some_iff.mp hkv
        have hg:=List.mem_of_getElem? hzg
        have L1:=(BA.held ob3).same sm
        have hk1:H' kd=some (.dK (zi.map keyK)):=sm _ _ (by rw [upd_ne nhk]; exact BA.s.hk)
        refine ⟨(Keep.refl _).set rfl,_,rfl,a,_,rfl,dg L1.ha hk_kinds,_,rfl,kd,_,rfl,dg hk1 (LS.getK nd hg),rfl,_,rfl,ite2 (fun hc => ?_) (fun _=>iteF (h2 _ (Same.refl _)))⟩
        refine ⟨_,rfl,_,rfl,rfl,_,rfl,ite2 (fun hc2=>⟨_,rfl,h1 _ _ (Same.refl _) ⟨g,hg,rfl,V.str.inj (of_decide_eq_true hc),fun z => ?_⟩⟩) (fun _=>h2 _ (Same.refl _))⟩
        have:(!decide (V.str g.1.x=V.str e.1.x))=true:=hc2
        rw [z] at this
        simp at this
       ·have Dd3:D3 ≠ hd:=fun z=>by rw [z,upd_same] at hD3; cases hD3
        have sF:=thaw_same BA.s.hh sm
        refine ⟨hd,ob3,_,sm _ _ upd_same,nfz,?_⟩
        have hg1:(upd H5 hd (.dK (zi.map keyX))) D3=some (.lst gs):=by rw [upd_ne Dd3]; exact hD5
        have BB:=BA.same sF
        generalize upd H5 hd (.dK (zi.map keyX))=HB at sF hg1 BB ⊢
        have s0B:=s0A.trans sF
        have hfB:=sF _ _ hfA
        refine ⟨_,rfl,_,rfl,_,rfl,_,rfl,D2,_,rfl,SqL.of hfB,fun p hp => ?_⟩
        have tp:=Same.upd (o:=.lst (cutV fs (some 1) (some 2))) hp
        have cl:=cutV_length fs (some 1) (some 2)
        rw [List.length_map,List.length_map] at gl
        rw [List.length_map] at fl
        refine ⟨D3,p,gs,_,rfl,rfl,tp _ _ hg1,upd_same,Nat.le_of_lt (small1000 (by omega)),fun r hrr => ?_⟩
        have tr:=Same.upd (o:=.lst (gs ++ cutV fs (some 1) (some 2))) hrr
        have BC:=BB.same (tp.trans tr)
        have s0C:=s0B.trans (tp.trans tr)
        have hall : ∀ v ∈ gs ++ cutV fs (some 1) (some 2),∃ y:Str,v = .str y/\Wr y/\y ≠ e.1.x/\∀ z ∈ zi.map (fun e:Th × Addr=>e.1),z.x=y->z.k = "store" := fun v hv=>by
         rcases List.mem_append.mp hv with hv | hv
         ·obtain ⟨g,hg,rfl,gk,ne⟩:=hgs v hv
          have mg':=List.mem_map_of_mem (f:=(·.1)) hg
          exact ⟨_,rfl,(B.g.ok g.1 mg').wr,ne,fun z hz ez=>by rw [nd_eq nd hz mg' ez]; exact gk⟩
         ·obtain ⟨x,hx,rfl,nx⟩:=hfs v (cut_mem hv)
          exact ⟨x,rfl,ww x hx,ww' nx,fun z hz ez=>absurd (ez ▸ List.mem_map_of_mem hz) nx⟩
        have hr2:(upd (upd HB p (.lst (cutV fs (some 1) (some 2)))) r (.lst (gs ++ cutV fs (some 1) (some 2)))) r=some (.lst (gs ++ cutV fs (some 1) (some 2))):=upd_same
        generalize upd (upd HB p (.lst (cutV fs (some 1) (some 2)))) r (.lst (gs ++ cutV fs (some 1) (some 2)))=HC at BC s0C hr2 ⊢
        generalize gs ++ cutV fs (some 1) (some 2)=qs at hall hr2
        refine ⟨_,rfl,(by show 0<=sizeLine; decide),fun z hz => ?_⟩
        have t9:=Same.upd (o:=.lst []) hz
        have BD:=BC.same t9
        have hr3:=t9 _ _ hr2
        have s0D:=s0C.trans t9
        refine ⟨r,z,qs,rfl,rfl,SqL.of hr3,SqL.of upd_same,_,rfl,ite2 (fun _ => ?_) (fun hne => ?_)⟩
        ·exact ⟨_,rfl,a,_,rfl,dg BD.s.ha hk_today,(by show 2<=sizeLine; decide),fun q hq=>k (.go today) q _ _ _ _ (s0D.trans (Same.upd hq)) upd_same (.go (Int.le_refl _) t0 t1) (by omega)⟩
        ·have qne:qs ≠ []:=fun z=>hne (by rw [z]; rfl)
         have qpos:0 < qs.length:=List.length_pos_iff.mpr qne
         have mq:=emod_in (c / 4096) (m:=(qs.length:Int)) (by omega)
         obtain ⟨v4,hv4,mv4⟩:=at_int (xs:=qs) mq.1 mq.2
         obtain ⟨y,rfl,wy,ny,sty⟩:=hall v4 mv4
         refine ⟨_,rfl,_,rfl,_,rfl,_,_,rfl,rfl,⟨by decide,b9⟩,_,rfl,r,_,rfl,.inl (SqL.of hr3),_,_,rfl,rfl,(by show (0:Int) < (qs.length:Int); omega),r,_,_,_,rfl,rfl,SqL.of hr3,hv4,_,rfl,(by show 4<=sizeLine; decide),fun q hq => ?_⟩
         exact k (.pour e.1.x y m') q _ _ _ _ (s0D.trans (Same.upd hq)) upd_same (.pour (s:=e.1) ⟨mz,ndo,wy,ny,p1,p2,p3,fr.2,n1⟩ sty) (by omega)
end
end K76
namespace K76
open PySem PySem.Spec PyProof.Rows L2 GM TM
theorem PS.grow {C:Addr}{H H':Hp}{L:List Addr}{p dl dt db:Addr}{bs:List V}{kvs:List (Key × V)}{day:Int}{bf:List V}{M:Int}{n:Nat}{zs:List Th}(h:PS C H L p dl dt db bs kvs day bf M n zs){A L':List Addr}(hA : ∀ b ∈ A,b ∈ L/\Out p dl dt db b)(k:KpL A H H')(t:Tk H H')(sub : ∀ b ∈ L',b ∈ L\/H b=none)(inc:p ∈ L'/\dl ∈ L'/\dt ∈ L'/\db ∈ L')(al : ∀ b ∈ L',H' b ≠ none):PS C H' L' p dl dt db bs kvs day bf M n zs:=by
 obtain ⟨⟨⟨dx,b0⟩,b1,b2,b3,b4⟩,th,bl,fl,inL,al0,g⟩:=h
 have o1:p ∉ A:=fun z=>(hA _ z).2.1 rfl
 have o2:dl ∉ A:=fun z=>(hA _ z).2.2.1 rfl
 have o3:dt ∉ A:=fun z=>(hA _ z).2.2.2.1 rfl
 have o4:db ∉ A:=fun z=>(hA _ z).2.2.2.2 rfl
 refine ⟨⟨⟨dx,k _ _ o1 b0⟩,k _ _ o2 b1,k _ _ o3 b2,k _ _ o4 b3,b4⟩,paired_mono (fun kv z ⟨e,q,d1,d2,r1,r2,r3,r4⟩=>⟨e,q,d1,d2,r1,?_,?_,?_⟩) th,bl,fl,inc,al,g⟩
 ·exact r2.keep (L:=A) (fun z=>r3 (hA _ z).1) (fun z=>r4 (hA _ z).1) k t (Nat.le_refl _)
 ·intro z
  obtain ⟨_,_,e1,_⟩:=r2.hd
  exact (sub _ z).elim r3 fun y=>by rw [e1] at y; cases y
 ·intro z
  obtain ⟨_,e1,_⟩:=r2.hw
  exact (sub _ z).elim r4 fun y=>by rw [e1] at y; cases y
structure BS (C:Addr)(K:PySem.W.Frag)(H1 H:Hp)(p dl dt db a hd kd ls dd:Addr)(big:Bool)(bs:List V)(kvs:List (Key × V))(bf ds:List V)(M today:Int)(n:Nat)(dts:List Dt)(zi:List (Th × Addr)):Prop where
 P:PS C H ([p,dl,dt,db] ++ La a hd kd ls dd zi) p dl dt db bs kvs today bf M n (zi.map (·.1))
 L:LG H a hd kd ls dd big M today n ds zi
 D1:DL K H 40 bs dts
 D2:DL K H 40 ds dts
 sm:Same H1 H
 fr : ∀ b ∈ [p,dl,dt,db] ++ La a hd kd ls dd zi,H1 b=none
 dj : ∀ b ∈ La a hd kd ls dd zi,Out p dl dt db b
 d0:0<=today
 d1:today<=1000000
section
variable {C:Addr}{K:PySem.W.Frag}{H1 H H2 H3:Hp}{p dl dt db a hd kd ls dd:Addr}{big:Bool}{bs:List V}{kvs:List (Key × V)}{bf ds:List V}{M today:Int}{n:Nat}{dts:List Dt}{zi:List (Th × Addr)}
theorem BS.keep (S:BS C K H1 H p dl dt db a hd kd ls dd big bs kvs bf ds M today n dts zi)(s:Same H H2):BS C K H1 H2 p dl dt db a hd kd ls dd big bs kvs bf ds M today n dts zi:=⟨S.P.keep s,S.L.same s,S.D1.keep s.tk,S.D2.keep s.tk,S.sm.trans s,S.fr,S.dj,S.d0,S.d1⟩
theorem BS.lg (S:BS C K H1 H p dl dt db a hd kd ls dd big bs kvs bf ds M today n dts zi)(k:Kp p dl dt db H H2):LG H2 a hd kd ls dd big M today n ds zi:=⟨S.L.s.keep fun b hb o e=>k b o (S.dj b hb) e,S.L.g⟩
theorem BS.out1 (S:BS C K H1 H p dl dt db a hd kd ls dd big bs kvs bf ds M today n dts zi){b:Addr}{o:HO}(e:H1 b=some o):Out p dl dt db b/\b ∉ La a hd kd ls dd zi:=by
 have nn : ∀ x ∈ [p,dl,dt,db] ++ La a hd kd ls dd zi,b ≠ x:=fun x hx z=>by
  have:=S.fr x hx
  rw [<- z,e] at this
  cases this
 exact ⟨⟨nn _ (by simp),nn _ (by simp),nn _ (by simp),nn _ (by simp)⟩,fun z=>nn b (List.mem_append_right _ z) rfl⟩
theorem BS.same2 (S:BS C K H1 H p dl dt db a hd kd ls dd big bs kvs bf ds M today n dts zi)(k:Kp p dl dt db H H2):Same H1 H2:=fun b o e=>k b o (S.out1 e).1 (S.sm b o e)
theorem BS.next (S:BS C K H1 H p dl dt db a hd kd ls dd big bs kvs bf ds M today n dts zi){bs':List V}{kvs':List (Key × V)}{bf' ds':List V}{M' today':Int}{n':Nat}{dts':List Dt}{zi':List (Th × Addr)}
  (P2:PS C H2 ([p,dl,dt,db] ++ La a hd kd ls dd zi) p dl dt db bs' kvs' today' bf' M' n' (zi'.map (·.1))) (k2:Kp p dl dt db H H2) (k3:KpL (La a hd kd ls dd zi) H2 H3) (t3:Tk H2 H3) (ad:Adr H2 zi zi') (l3:LS H3 a hd kd ls dd big M' today' n' ds' zi')
  (D1:DL K H3 40 bs' dts') (D2:DL K H3 40 ds' dts') (d0:0<=today') (d1:today'<=1000000):BS C K H1 H3 p dl dt db a hd kd ls dd big bs' kvs' bf' ds' M' today' n' dts' zi':=by
 have s2:=S.same2 k2
 have cases' : ∀ b ∈ La a hd kd ls dd zi',b ∈ La a hd kd ls dd zi\/H2 b=none:=fun b hb=>by
  rcases List.mem_append.mp hb with hb | hb
  ·exact .inl (List.mem_append_left _ hb)
  ·obtain ⟨e,he,rfl⟩:=List.mem_map.mp hb
   exact (ad e he).elim (fun z=>.inl (List.mem_append_right _ z)) .inr
 have four : ∀ b,b ∈ [p,dl,dt,db]->b ∉ La a hd kd ls dd zi:=fun b hb z=>by
  obtain ⟨o1,o2,o3,o4⟩:=S.dj b z
  simp only [List.mem_cons,List.not_mem_nil,or_false] at hb
  rcases hb with rfl | rfl | rfl | rfl
  ·exact o1 rfl
  ·exact o2 rfl
  ·exact o3 rfl
  ·exact o4 rfl
 refine ⟨P2.grow (A:=La a hd kd ls dd zi) (fun b hb=>⟨List.mem_append_right _ hb,S.dj b hb⟩) k3 t3 (fun b hb => ?_) ⟨by simp,by simp,by simp,by simp⟩ (fun b hb => ?_),⟨l3,P2.g⟩,D1,D2,fun b o e=>k3 b o (S.out1 e).2 (s2 b o e),fun b hb => ?_,fun b hb => ?_,d0,d1⟩
 ·rcases List.mem_append.mp hb with hb | hb
  ·exact .inl (List.mem_append_left _ hb)
  ·exact (cases' b hb).elim (fun z=>.inl (List.mem_append_right _ z)) .inr
 ·rcases List.mem_append.mp hb with hb | hb
  ·intro z
   cases h2:H2 b with
   | none=>exact P2.al b (List.mem_append_left _ hb) h2
   | some o=>rw [k3 b o (four b hb) h2] at z; cases z
  ·exact l3.allo b hb
 ·rcases List.mem_append.mp hb with hb | hb
  ·exact S.fr b (List.mem_append_left _ hb)
  ·exact (cases' b hb).elim (fun z=>S.fr b (List.mem_append_right _ z)) fun z=>same_none s2 z
 ·exact (cases' b hb).elim (fun z=>S.dj b z) fun z=>P2.bk.outN z
end
def Dd.dt:Dd->Dt
 | .take x w m l=>.t [.s "take",.s x,.s w,.i m,.i l]
 | .go d=>.t [.s "go",.i d]
 | .pour x y m=>.t [.s "pour",.s x,.s y,.i m]
 | .give x y m=>.t [.s "give",.s x,.s y,.i m]
theorem Dd.dv {K:PySem.W.Frag}{H:Hp}{q:Addr}(d:Dd)(h:H q=some (.tup d.row)):Dv K H 40 (.ref q) d.dt:=by
 cases d with
 | take x w m l=>exact .tup (n:=39) (SqZ.of h) (.cons .s (.cons .s (.cons .s (.cons .i (.cons .i .nil)))))
 | go d=>exact .tup (n:=39) (SqZ.of h) (.cons .s (.cons .i .nil))
 | pour x y m=>exact .tup (n:=39) (SqZ.of h) (.cons .s (.cons .s (.cons .s (.cons .i .nil))))
 | give x y m=>exact .tup (n:=39) (SqZ.of h) (.cons .s (.cons .s (.cons .s (.cons .i .nil))))
theorem Stp.day {n:Nat}{M M':Int}{zs zs':List Th}{today today':Int}{d:Dd}(h:Stp n M zs today d M' zs' today')(h0:0<=today)(h1:today<=1000000):0<=today'/\today'<=1000000:=by
 cases h with
 | take=>exact ⟨h0,h1⟩
 | go _ a b=>exact ⟨a,b⟩
 | pour=>exact ⟨h0,h1⟩
 | give=>exact ⟨h0,h1⟩
theorem BS.start {C:Addr}{K:PySem.W.Frag}{H1 H2 H3:Hp}{p dl dt db a hd kd ls dd:Addr}{big:Bool}(B:Bk C H2 p dl dt db [] [] 0 [])(s2:Same H1 H2)(f:H1 p=none/\H1 dl=none/\H1 dt=none/\H1 db=none)(s3:Same H2 H3)(fr : ∀ b ∈ [a,hd,kd,ls,dd],H2 b=none)(l:LS H3 a hd kd ls dd big 1 0 0 [] []):BS C K H1 H3 p dl dt db a hd kd ls dd big [] [] [] [] 1 0 0 [] []:=by
 have g:ZOk 1 0 []:=⟨List.nodup_nil,(fun z h=>nomatch h),(fun z h=>nomatch h),(fun z h=>nomatch h),by decide,bt_lt 1 (c:=2) (by decide) (by decide),Nat.le_refl _,by decide⟩
 have B3:=B.keep s3
 have e:La a hd kd ls dd []=[a,hd,kd,ls,dd]:=rfl
 refine ⟨⟨B3,.nil,rfl,rfl,⟨by simp,by simp,by simp,by simp⟩,fun b hb => ?_,g⟩,⟨l,g⟩,.nil,.nil,s2.trans s3,fun b hb => ?_,fun b hb => ?_,by decide,by decide⟩
 ·rcases List.mem_append.mp hb with hb | hb
  ·obtain ⟨⟨dx,h0⟩,h1,h2,h3,_⟩:=B3
   simp only [List.mem_cons,List.not_mem_nil,or_false] at hb
   rcases hb with rfl | rfl | rfl | rfl
   ·rw [h0]; simp
   ·rw [h1]; simp
   ·rw [h2]; simp
   ·rw [h3]; simp
  ·exact l.allo b hb
 ·rcases List.mem_append.mp hb with hb | hb
  ·simp only [List.mem_cons,List.not_mem_nil,or_false] at hb
   rcases hb with rfl | rfl | rfl | rfl
   ·exact f.1
   ·exact f.2.1
   ·exact f.2.2.1
   ·exact f.2.2.2
  ·exact same_none s2 (fr b (e ▸ hb))
 ·exact B.outN (fr b (e ▸ hb))
end K76
namespace K76
open PySem PySem.Spec PyProof.Rows L2 GM TM
def tot (zs:List Th)(x:Str):Int:=match zs.find? (fun z=>decide (z.x=x)) with
 | some z=>z.T
 | none=>0
theorem tot_of {zs:List Th}(nd:(zs.map Th.x).Nodup){u:Th}(hu:u ∈ zs):tot zs u.x=u.T:=by
 unfold tot
 cases h:zs.find? (fun z=>decide (z.x=u.x)) with
 | none=>exact absurd (List.find?_eq_none.mp h u hu) (by simp)
 | some z =>
  have e:z.x=u.x:=by simpa using List.find?_some h
  rw [nd_eq nd (List.mem_of_find?_eq_some h) hu e]
abbrev Hst:=List (Dd × List Th)
inductive Mv:Dd->Str->Str->Prop where
 | pour {x y:Str} {m:Int}:Mv (.pour x y m) x y
 | give {x y:Str} {m:Int}:Mv (.give x y m) x y
def Hol (hs:Hst)(x:Str)(a b:Int):Prop:=∀ (k:Nat) e,a<=(k:Int)->(k:Int) < b->hs[k]?=some e->tot e.2 x ≠ 0
structure StW (hs:Hst)(s:Str × Int)(k:Int)(s':Str × Int):Prop where
 ex : ∃ (j:Nat) (e:Dd × List Th),k=(j:Int)/\hs[j]?=some e/\Mv e.1 s.1 s'.1
 e2:s'.2=k
 lt:s.2 < k
 hol:0<=s.2->Hol hs s.1 s.2 k
inductive Wk (hs:Hst):Str × Int->List Int->Str × Int->Prop where
 | nil {s}:Wk hs s [] s
 | cons {s k s' ws s''}:StW hs s k s'->Wk hs s' ws s''->Wk hs s (k :: ws) s''
theorem Wk.snoc {hs:Hst}{k:Int}{s' s'':Str × Int} : ∀ {s:Str × Int} {ws:List Int},Wk hs s ws s'->StW hs s' k s''->Wk hs s (ws ++ [k]) s''
 | _,_,.nil,h=>.cons h .nil
 | _,_,.cons a t,h=>.cons a (t.snoc h)
theorem get_pre {hs:Hst}{e x:Dd × List Th}{k:Nat}(h:hs[k]?=some x):(hs ++ [e])[k]?=some x:=by
 rw [List.getElem?_append_left (List.getElem?_eq_some_iff.mp h).1]
 exact h
theorem Hol.pre {hs:Hst}{e:Dd × List Th}{x:Str}{a b:Int}(h:Hol hs x a b)(hb:b<=(hs.length:Int)):Hol (hs ++ [e]) x a b:=fun k u h1 h2 hk=>by
 rw [List.getElem?_append_left (by omega)] at hk
 exact h k u h1 h2 hk
theorem StW.pre {hs:Hst}{e:Dd × List Th}{s s':Str × Int}{k:Int}(h:StW hs s k s'):StW (hs ++ [e]) s k s':=by
 obtain ⟨⟨j,u,ek,hj,mv⟩,e2,lt,hol⟩:=h
 have hl:=(List.getElem?_eq_some_iff.mp hj).1
 exact ⟨⟨j,u,ek,get_pre hj,mv⟩,e2,lt,fun h0=>(hol h0).pre (by omega)⟩
theorem Wk.pre {hs:Hst}{e:Dd × List Th} : ∀ {s:Str × Int} {ws:List Int} {s':Str × Int},Wk hs s ws s'->Wk (hs ++ [e]) s ws s'
 | _,_,_,.nil=>.nil
 | _,_,_,.cons a t=>.cons a.pre t.pre
theorem Wk.pos {hs:Hst} : ∀ {s:Str × Int} {ws:List Int} {s':Str × Int},Wk hs s ws s'->ws ≠ []->0<=s'.2/\s'.2 < (hs.length:Int)
 | _,_,_,.nil,h=>absurd rfl h
 | _,_,_,@Wk.cons _ _ k s1 ws _ a t,_=>by
  cases ws with
  | nil =>
   cases t
   obtain ⟨⟨j,u,ek,hj,mv⟩,e2,_⟩:=a
   have hl:=(List.getElem?_eq_some_iff.mp hj).1
   rw [e2]
   omega
  | cons _ _=>exact t.pos (by simp)
def RowW (hs:Hst)(y x:Str)(ws:List Int):Prop:=(y=x/\ws=[])\/(y ≠ x/\ws ≠ []/\∃ l,Wk hs (y,-1) ws (x,l)/\Hol hs x l (hs.length:Int))
def WOk (hs:Hst)(zs:List Th):Prop:=∀ z ∈ zs,∀ y ∈ z.ks,RowW hs y z.x (z.w y)
theorem WOk.nil:WOk [] []:=fun z h=>nomatch h
theorem RowW.stay {hs:Hst}{y x:Str}{ws:List Int}{d:Dd}{zs':List Th}(h:RowW hs y x ws)(t:tot zs' x ≠ 0):RowW (hs ++ [(d,zs')]) y x ws:=by
 rcases h with h | ⟨ne,wn,l,wk,hol⟩
 ·exact .inl h
 ·refine .inr ⟨ne,wn,l,wk.pre,fun k e h1 h2 hk => ?_⟩
  by_cases c:k < hs.length
  ·rw [List.getElem?_append_left c] at hk
   exact hol k e h1 (by omega) hk
  ·rw [List.length_append] at h2
   have ek:k=hs.length:=by have:(k:Int) < ((hs.length+1:Nat):Int):=h2; omega
   rw [ek,List.getElem?_concat_length] at hk
   cases hk
   exact t
theorem RowW.go {hs:Hst}{y x g:Str}{ws:List Int}{d:Dd}{zs':List Th}(h:RowW hs y x ws)(mv:Mv d x g)(ne:y ≠ g)(t:tot zs' g ≠ 0):RowW (hs ++ [(d,zs')]) y g (ws ++ [(hs.length:Int)]):=by
 have hold:Hol (hs ++ [(d,zs')]) g (hs.length:Int) ((hs ++ [(d,zs')]).length:Int):=fun k e h1 h2 hk=>by
  rw [List.length_append] at h2
  have ek:k=hs.length:=by have:(k:Int) < ((hs.length+1:Nat):Int):=h2; omega
  rw [ek,List.getElem?_concat_length] at hk
  cases hk
  exact t
 have ex : ∃ (j:Nat) (e:Dd × List Th),((hs.length:Nat):Int)=(j:Int)/\(hs ++ [(d,zs')])[j]?=some e/\Mv e.1 x g:=⟨hs.length,(d,zs'),rfl,List.getElem?_concat_length,mv⟩
 rcases h with ⟨e,ew⟩ | ⟨_,wn,l,wk,hol⟩
 ·subst e
  subst ew
  exact .inr ⟨ne,by simp,_,.cons (s':=(g,(hs.length:Int))) ⟨ex,rfl,(by show (-1:Int) < (hs.length:Int); omega),fun h=>absurd h (by show ¬ (0:Int) <= -1; decide)⟩ .nil,hold⟩
 ·have p:=wk.pos wn
  exact .inr ⟨ne,by simp,_,wk.pre.snoc (s'':=(g,(hs.length:Int))) ⟨ex,rfl,p.2,fun _=>hol.pre (Int.le_refl _)⟩,hold⟩
theorem WOk.step {hs:Hst}{n:Nat}{M M':Int}{zs zs':List Th}{today today':Int}{d:Dd}(W:WOk hs zs)(g:ZOk M n zs)(g':ZOk M' (n+1) zs')(hl:hs.length=n)(st:Stp n M zs today d M' zs' today'):WOk (hs ++ [(d,zs')]) zs':=by
 intro z' hz' y hy
 have t:tot zs' z'.x ≠ 0:=by
  rw [tot_of g'.nd hz']
  have:=(g'.ok z' hz').T1 g'.M0 (fun e=>by rw [e] at hy; cases hy)
  omega
 have pourC : ∀ {s:Th} {gl k:Str} {m:Int},zs'=after zs s gl k m n->PoA zs s gl m today n->(gl ∈ zs.map Th.x->∀ u ∈ zs,u.x=gl->u.k ≠ "lot")->Mv d s.x gl->RowW (hs ++ [(d,zs')]) y z'.x (z'.w y):=fun {s gl k m} ez a hgl mv=>by
  rw [ez] at hz'
  unfold after at hz'
  obtain ⟨z,hz,e⟩:=List.mem_map.mp hz'
  have hzz:z ∈ zs\/z=Th.ves gl k:=by
   split at hz
   ·exact .inl hz
   ·rcases List.mem_append.mp hz with h | h
    ·exact .inl h
    ·exact .inr (List.mem_singleton.mp h)
  have ex:z'.x=z.x:=by rw [<- e]; exact poured_x
  rw [ex] at t ⊢
  unfold Th.poured at e
  by_cases c1:z.x=s.x
  ·rw [if_pos c1] at e
   subst e
   have hzs:z ∈ zs:=hzz.elim id fun q=>by rw [q] at c1; exact absurd c1 a.ne
   have hy':y ∈ z.ks:=by
    have:y ∈ (if m < z.T then z.ks else []):=hy
    split at this
    ·exact this
    ·cases this
   exact (W z hzs y hy').stay t
  ·rw [if_neg c1] at e
   by_cases c2:z.x=gl
   ·rw [if_pos c2] at e
    subst e
    show RowW _ y z.x (if y ∈ z.ks then z.w y else s.w y ++ [(n:Int)])
    by_cases c3:y ∈ z.ks
    ·rw [if_pos c3]
     have hzs:z ∈ zs:=hzz.elim id fun q=>by rw [q] at c3; cases c3
     exact (W z hzs y c3).stay t
    ·rw [if_neg c3,<- hl]
     have hys:y ∈ s.ks:=(got_mem.mp hy).resolve_left c3
     refine (W s a.hs y hys).go (c2 ▸ mv) (fun q => ?_) t
     obtain ⟨u,hu,ux,uk⟩:=g.lots s a.hs y hys
     have ug:u.x=gl:=by rw [ux,q,c2]
     exact hgl (ug ▸ List.mem_map_of_mem hu) u hu ug uk
   ·rw [if_neg c2] at e
    subst e
    have hzs:z ∈ zs:=hzz.elim id fun q=>by rw [q] at c2; exact absurd rfl c2
    exact (W z hzs y hy).stay t
 cases st with
 | take wx ww nx m1 mb l0 l1 =>
  rcases List.mem_append.mp hz' with h | h
  ·exact (W z' h y hy).stay t
  ·rw [List.mem_singleton.mp h] at hy ⊢
   exact .inl ⟨List.mem_singleton.mp hy,rfl⟩
 | go _ _ _=>exact (W z' hz' y hy).stay t
 | pour a st'=>exact pourC rfl a (fun _ u hu e k=>by have:=st' u hu e; rw [k] at this; exact absurd this (by decide +kernel)) .pour
 | give a st'=>exact pourC rfl a (fun h=>absurd h st') .give
def Fm (X X':List Addr)(H H':Hp):Prop:=∀ b o,b ∉ X->H b=some o->H' b=some o/\b ∉ X'
theorem Fm.of {X:List Addr}{H H':Hp}(s:Same H H'):Fm X X H H':=fun b o n e=>⟨s b o e,n⟩
theorem Fm.trans {X X' X'':List Addr}{H H' H'':Hp}(h:Fm X X' H H')(k:Fm X' X'' H' H''):Fm X X'' H H'':=fun b o n e=>by
 obtain ⟨e1,n1⟩:=h b o n e
 exact k b o n1 e1
theorem Fm.put {X:List Addr}{H:Hp}{x:Addr}{o:HO}(h:x ∈ X):Fm X X H (upd H x o):=fun b o' n e=>by
 have ne:b ≠ x:=fun z=>n (by rw [z]; exact h)
 exact ⟨by rw [upd_ne ne]; exact e,n⟩
def Beh (X:List Addr)(H:Hp)(v:V)(e:Dd × List Th):Prop:=∃ r kvs,v = .ref r/\H r=some (.dK kvs)/\r ∉ X/\∀ x:Str,(valV kvs (.inr x)).getD (.int 0) = .int (tot e.2 x)
theorem Beh.keep {X X':List Addr}{H H':Hp}{v:V}{e:Dd × List Th}(h:Beh X H v e)(k:Fm X X' H H'):Beh X' H' v e:=by
 obtain ⟨r,kvs,h1,h2,h3,h4⟩:=h
 obtain ⟨e1,n1⟩:=k r _ h3 h2
 exact ⟨r,kvs,h1,e1,n1,h4⟩
def DAt (H:Hp)(v:V)(e:Dd × List Th):Prop:=∃ q,v = .ref q/\H q=some (.tup e.1.row)
theorem DAt.keep {H H':Hp}{v:V}{e:Dd × List Th}(h:DAt H v e)(t:Tk H H'):DAt H' v e:=by
 obtain ⟨q,h1,h2⟩:=h
 exact ⟨q,h1,t _ _ h2⟩
theorem tot_kvs {zi:List (Th × Addr)}(nd:((zi.map (·.1)).map Th.x).Nodup)(x:Str):(valV (zi.map fun e=>((Sum.inr e.1.x:Key),V.int e.1.T)) (.inr x)).getD (.int 0) = .int (tot (zi.map (·.1)) x):=by
 by_cases hx:x ∈ (zi.map (·.1)).map Th.x
 ·obtain ⟨t,ht,rfl⟩:=List.mem_map.mp hx
  obtain ⟨e,he,rfl⟩:=List.mem_map.mp ht
  rw [key_at (φ:=fun e=>.int e.1.T) nd e he,tot_of nd ht]
  rfl
 ·rw [key_no (φ:=fun e=>.int e.1.T) hx]
  unfold tot
  have:(zi.map (·.1)).find? (fun z=>decide (z.x=x))=none:=List.find?_eq_none.mpr fun z hz=>by
   intro q
   exact hx ((of_decide_eq_true q) ▸ List.mem_map_of_mem hz)
  rw [this]
  rfl
section
variable {C:Addr}{K:PySem.W.Frag}{H1 H H2 H3:Hp}{p dl dt db a hd kd ls dd:Addr}{big:Bool}{bs:List V}{kvs:List (Key × V)}{bf ds:List V}{M today:Int}{n:Nat}{dts:List Dt}{zi zi':List (Th × Addr)}
theorem BS.fm (S:BS C K H1 H p dl dt db a hd kd ls dd big bs kvs bf ds M today n dts zi){Y:List Addr}(k2:Kp p dl dt db H H2)(k3:KpL (La a hd kd ls dd zi) H2 H3)(ad:Adr H2 zi zi'):Fm (Y ++ ([p,dl,dt,db] ++ La a hd kd ls dd zi)) (Y ++ ([p,dl,dt,db] ++ La a hd kd ls dd zi')) H H3:=fun b o n e=>by
 rw [List.mem_append,List.mem_append,not_or,not_or] at n
 obtain ⟨n1,n2,n3⟩:=n
 have o2:Out p dl dt db b:=⟨fun z=>n2 (by simp [z]),fun z=>n2 (by simp [z]),fun z=>n2 (by simp [z]),fun z=>n2 (by simp [z])⟩
 have e2:=k2 b o o2 e
 refine ⟨k3 b o n3 e2,fun z => ?_⟩
 rcases List.mem_append.mp z with z | z
 ·exact n1 z
 ·rcases List.mem_append.mp z with z | z
  ·exact n2 z
  ·rcases List.mem_append.mp z with z | z
   ·exact n3 (List.mem_append_left _ z)
   ·obtain ⟨u,hu,rfl⟩:=List.mem_map.mp z
    rcases ad u hu with q | q
    ·exact n3 (List.mem_append_right _ q)
    ·rw [e2] at q
     cases q
def But (x:Addr)(H H':Hp):Prop:=∀ b o,b ≠ x->H b=some o->H' b=some o
theorem But.tk {x:Addr}{us:List V}{H H':Hp}(k:But x H H')(hx:H x=some (.lst us)):Tk H H':=fun b xs e=>k b _ (fun z=>by rw [z,hx] at e; cases e) e
theorem But.dk {x:Addr}{us:List V}{H H':Hp}(k:But x H H')(hx:H x=some (.lst us)){b:Addr}{o:HO}(e:H b=some o)(n : ∀ l,o ≠ .lst l):H' b=some o:=k b o (fun z=>by rw [z,hx] at e; exact n us (Option.some.inj e).symm) e
theorem PS.kpx {L:List Addr}{zs:List Th}{day:Int}(h:PS C H L p dl dt db bs kvs day bf M n zs){x:Addr}{us:List V}(hx:H x=some (.lst us))(nx:x ≠ dl/\x ≠ db)(k:But x H H2)(hx' : ∃ o,H2 x=some o):PS C H2 L p dl dt db bs kvs day bf M n zs:=by
 have tk:=k.tk hx
 obtain ⟨⟨⟨dx,b0⟩,b1,b2,b3,b4⟩,th,bl,fl,inL,al,g⟩:=h
 have nod : ∀ {b:Addr} {kk:List (Key × V)},H b=some (.dK kk)->H2 b=some (.dK kk):=fun {b kk} e=>k.dk hx e fun _ z=>by cases z
 refine ⟨⟨⟨dx,k.dk hx b0 fun _ z=>by cases z⟩,k _ _ (Ne.symm nx.1) b1,nod b2,k _ _ (Ne.symm nx.2) b3,b4⟩,paired_mono (fun kv z ⟨e,q,d1,d2,r1,⟨q1,⟨kk,ks,q2,q3⟩,⟨ws,q4,q5⟩⟩,r3,r4⟩=>⟨e,q,d1,d2,r1,⟨tk _ _ q1,⟨kk,ks,nod q2,q3.1.keep tk,q3.2⟩,⟨ws,nod q4,q5.keep tk (Nat.le_refl _)⟩⟩,r3,r4⟩) th,bl,fl,inL,fun b hb z => ?_,g⟩
 by_cases q:b=x
 ·obtain ⟨o,ho⟩:=hx'
  rw [q,ho] at z
  cases z
 ·cases hb':H b with
  | none=>exact al b hb hb'
  | some o=>rw [k b o q hb'] at z; cases z
theorem LG.kpx {F:Int}(h:LG H a hd kd ls dd big F today n ds zi){x:Addr}{us:List V}(hx:H x=some (.lst us))(nx:x ≠ dd)(k:But x H H2):LG H2 a hd kd ls dd big F today n ds zi:=by
 obtain ⟨⟨ha,hh,inn,hk,⟨lk,lks,hl,hl'⟩,hdd,dl',nda⟩,g⟩:=h
 have nod : ∀ {b:Addr} {kk:List (Key × V)},H b=some (.dK kk)->H2 b=some (.dK kk):=fun {b kk} e=>k.dk hx e fun _ z=>by cases z
 exact ⟨⟨nod ha,nod hh,fun e he=>(by obtain ⟨kk,ks,q1,q2⟩:=inn e he; exact ⟨kk,ks,nod q1,q2⟩),nod hk,⟨lk,lks,nod hl,hl'⟩,k _ _ (Ne.symm nx) hdd,dl',nda⟩,g⟩
theorem BS.kpx (S:BS C K H1 H p dl dt db a hd kd ls dd big bs kvs bf ds M today n dts zi){x:Addr}{us:List V}(hx:H x=some (.lst us))(nx:x ∉ [p,dl,dt,db] ++ La a hd kd ls dd zi)(f:H1 x=none)(k:But x H H2)(hx' : ∃ o,H2 x=some o):BS C K H1 H2 p dl dt db a hd kd ls dd big bs kvs bf ds M today n dts zi:=by
 have tk:=k.tk hx
 have o1:x ≠ dl:=fun z=>nx (by simp [z])
 have o2:x ≠ db:=fun z=>nx (by simp [z])
 have o3:x ≠ dd:=fun z=>nx (by simp [z,La])
 exact ⟨S.P.kpx hx ⟨o1,o2⟩ k hx',S.L.kpx hx o3 k,S.D1.keep tk,S.D2.keep tk,fun b o e=>k b o (fun z=>by rw [z,f] at e; cases e) (S.sm b o e),S.fr,S.dj,S.d0,S.d1⟩
end
end K76
namespace K76
open PySem PySem.Spec PyProof.Rows L2 GM TM
theorem Mv.row {d:Dd}{x y:Str}(h:Mv d x y) : ∃ (w:Str) (m:Int),d.row=[.str w,.str x,.str y,.int m]/\(w = "pour" \/ w = "give"):=by
 cases h with
 | pour=>exact ⟨_,_,rfl,.inl rfl⟩
 | give=>exact ⟨_,_,rfl,.inr rfl⟩
theorem nin_pg {w:Str}(h:w = "pour" \/ w = "give") : ¬ (if true=true then !inV (V.str w) [V.str "pour",V.str "give"] else inV (V.str w) [V.str "pour",V.str "give"])=true:=by
 rcases h with rfl | rfl <;> decide +kernel
structure LT (H:Hp)(X:List Addr)(a hd kd ls dd tl:Addr)(big:Bool)(F today:Int)(ds ts:List V)(hs:Hst):Prop where
 ha:H a=some (.dK (hkv big F hd kd ls today dd))
 hdd:H dd=some (.lst ds)
 pd:Paired (DAt H) ds hs
 ht:H tl=some (.lst ts)
 pt:Paired (Beh X H) ts hs
 ln:hs.length<=60
theorem LT.same {H H':Hp}{X:List Addr}{a hd kd ls dd tl:Addr}{big:Bool}{F today:Int}{ds ts:List V}{hs:Hst}(h:LT H X a hd kd ls dd tl big F today ds ts hs)(s:Same H H'):LT H' X a hd kd ls dd tl big F today ds ts hs:=⟨s _ _ h.ha,s _ _ h.hdd,paired_mono (fun _ _ r=>r.keep s.tk) h.pd,s _ _ h.ht,paired_mono (fun _ _ r=>r.keep (Fm.of s)) h.pt,h.ln⟩
abbrev sLrow:Stmt:=top 51
def spLrow:Sp:=fun vs H Q _=>∃ X a hd kd ls dd tl big F today ds ts hs l y x ws,vs=[.ref a,.ref tl,.str y,.str x,.ref l]/\LT H X a hd kd ls dd tl big F today ds ts hs/\H l=some (.lst (ws.map V.int))/\ws.length<=60/\RowW hs y x ws/\y ≠ x/\∀ H',Same H H'->Q (.bl true) H'
section
variable {P:Program}{w:World}{K:PySem.W.Frag}{mg:Str->Option Value}{base:Heap}
theorem ndLr:(["_law_k","_law_totals_here","_law_name"]:List Str).Nodup:=by decide +kernel
abbrev NLrow:List Str:=["_law_here","_law_totals_here","_law_lot","_law_name","_law_row_here","_law_there","_law_last","_law_number","_law_deed","_law_k"]
theorem scLrow:FnScope NLrow ["_law_here","_law_totals_here","_law_lot","_law_name","_law_row_here"] (defScope sLrow):=⟨rfl,rfl,rfl,by decide +kernel,rfl,by decide +kernel,by decide +kernel⟩
theorem ok_lrow {f:Addr}{fd:FuncData}(F:Fun K "_law_row" "_law_row" sLrow f fd)(T:Txt mg)(cW:Cal P w K mg base CX0 1 "_law_whole" ["_law_found"] spWh):FnOk P w K mg base CX0 2 f fd ["_law_here","_law_totals_here","_law_lot","_law_name","_law_row_here"] spLrow:=by
 refine F.ok scLrow (fun vs H Q E h => ?_) (fun cdv A outer s0 H vs Q E hr h => ?_)
 ·obtain ⟨_,_,_,_,_,_,_,_,_,_,_,_,_,_,_,_,_,rfl,_⟩:=h
  rfl
 ·obtain ⟨X,a,hd,kd,ls,dd,tl,big,Fn,today,ds,ts,hs,l,y,x,ws,rfl,B,hl,wl,rw',nyx,k⟩:=h
  refine ⟨_,(pss_cons (ps_if (PW.pt (pw_or (pt_not (pt_val (pe_callB call_isi rfl T.isi boot_isinstance (pa_cons (pv 4) (pa_cons (pe_bltn (v:=.ty "list") rfl T.list' bt_list rfl) pa_nil))))) (pw_or1 (pt_cmpR (op_eqE hr.units) (pv 4) (pe_lst pa_nil) (nomark _)))))
    (pss_one (ps_ret pe_bl))
    pss_nil)
   (pss_cons (ps_set (i:=5) scLrow.nd rfl (Or.inl rfl) (pv 2))
   (pss_cons (ps_set (i:=6) scLrow.nd rfl (Or.inl rfl) (pe_un un_neg pe_int))
   (pss_cons (ps_for PassesOwn.never rfl (pi_list (pv 4)) (pg_name (i:=7) scLrow.nd rfl (Or.inl rfl))
    (pss_cons (ps_if (PW.pt (pw_or (pt_not (pt_val (pe_cal cW hr rfl pass0 (pa_cons (pv 7) pa_nil)))) (pw_or1 (pt_not (pt_chain op_lt op_lt (pv 6) (pv 7) (pe_callB call_len_seq rfl T.len PySem.boot_len (pa_cons (pe_dget (hu_of hr) (pv 0) pe_str (fun _ _=>rfl)) pa_nil)))))))
     (pss_one (ps_ret pe_bl))
     pss_nil)
    (pss_cons (ps_set (i:=8) scLrow.nd rfl (Or.inl rfl) (pe_ix ix_list (pe_dget (hu_of hr) (pv 0) pe_str (fun _ _=>rfl)) (pv 7) (fun _ _=>rfl)))
    (pss_cons (ps_if (PW.pt (pw_or (pt_cmpR op_notIn_seq (pit 8 0) (pe_tup (pa_cons pe_str (pa_cons pe_str pa_nil))) (by with_unfolding_all rfl)) (pw_or1 (pt_cmpR op_ne (pit 8 1) (pv 5) (nomark _)))))
     (pss_one (ps_ret pe_bl))
     pss_nil)
    (pss_cons (ps_for PassesOwn.never rfl (pi_range2 rfl T.range (pa_cons (pe_callB (call_max2 rfl) rfl T.max' boot_max (pa_cons (pv 6) (pa_cons pe_int pa_nil))) (pa_cons (pv 7) pa_nil))) (pg_name (i:=9) scLrow.nd rfl (Or.inl rfl))
     (pss_one (ps_if (PW.pt (pw_and (pt_cmpR op_ge (pv 6) pe_int (nomark _)) (pw_and1 (pt_cmpR op_eq (pe_dget2 (hu_of hr) (pe_ix ix_list (pv 1) (pv 9) (fun _ _=>rfl)) (pv 5) pe_int ⟨rfl,rfl,rfl,rfl⟩) pe_int (nomark _)))))
      (pss_one (ps_ret pe_bl))
      pss_nil)))
    (pss_cons (ps_set (i:=5) scLrow.nd rfl (Or.inl rfl) (pit 8 2))
    (pss_one (ps_set (i:=6) scLrow.nd rfl (Or.inl rfl) (pv 7)))))))))
   (pss_cons (ps_if (pt_cmpR op_ne (pv 5) (pv 3) (nomark _))
    (pss_one (ps_ret pe_bl))
    pss_nil)
   (pss_one (ps_ret (pe_cmpR (op_eqE hr.units) (pe_compC (N':=["_law_k","_law_totals_here","_law_name"]) (fun σ=>[none,some 1,some 3].map fun t=>t.bind fun j=>(σ[j]?).join) rfl rfl (by decide +kernel) (by decide +kernel)
     (hk_of (sc:=defScope sLrow) rfl (by decide +kernel)) (fun _ _ _=>blkN_by (sc:=defScope sLrow) (N:=NLrow) [none,some 1,some 3] rfl rfl rfl rfl (by decide +kernel))
     (pi_range2 rfl T.range (pa_cons (pv 6) (pa_cons (pe_callB call_len_seq rfl T.len PySem.boot_len (pa_cons (pv 1) pa_nil)) pa_nil))) (fun _ _ _ _ _ _=>pg_name (i:=0) ndLr rfl (Or.inl rfl))
     (fun _ _ _ _ _ _=>pifs_one (pt_cmpR op_eq (pe_dget2 (hu_of hr) (pe_ix (ix_listK (K:=K) rfl) (pv 1) (pv 0) (fun _ _=>rfl)) (pv 2) pe_int ⟨rfl,rfl,rfl,rfl⟩) pe_int (nomark _)))
     (fun _ _ _ _ _ _=>pv 0)) (pe_lst pa_nil) (nomark _))))))))),?_⟩
  have tsl:=paired_len B.pt
  have dsl:=paired_len B.pd
  have hn:=B.ln
  have gotT : ∀ {H':Hp} {z:Str} {kk:Int},Same H H'->0<=kk->kk < (hs.length:Int)->(∀ (j:Nat) e,kk=(j:Int)->hs[j]?=some e->tot e.2 z ≠ 0)->∃ v r kvs,atI ts kk=some v/\v = .ref r/\H' r=some (.dK kvs)/\∃ t:Int,(valV kvs (.inr z)).getD (.int 0) = .int t/\t ≠ 0:=fun {H' z kk} sm h0 h1 ht=>by
   obtain ⟨j,rfl⟩:=Int.eq_ofNat_of_zero_le h0
   have hj:j < ts.length:=by omega
   obtain ⟨e,he,r,kvs,r1,r2,r3,r4⟩:=paired_get B.pt (List.getElem?_eq_getElem hj)
   exact ⟨_,r,kvs,atI_nat (List.getElem?_eq_getElem hj),r1,sm _ _ r2,_,r4 z,ht j e rfl he⟩
  ·obtain ⟨ne,wn,lst,wk,hol⟩:=rw'.resolve_left fun h=>nyx h.1
   refine ⟨_,rfl,_,"list",true,rfl,.lst_list (SqL.of hl),_,rfl,iteF ⟨_,rfl,(by show 0<=sizeLine; decide),fun z hz => ?_⟩⟩
   have t1:=Same.upd (o:=.lst []) hz
   refine ⟨l,z,_,rfl,rfl,SqL.of (t1 _ _ hl),SqL.of upd_same,_,rfl,ite2 (fun h => ?_) (fun _ => ?_)⟩
   ·cases ws with
    | nil=>exact absurd rfl wn
    | cons _ _=>cases h
   generalize upd H z (.lst [])=H1 at t1 ⊢
   refine ⟨_,rfl,_,rfl,_,rfl,l,rfl,⟨_,SqL.of (t1 _ _ hl)⟩,?_⟩
   refine for_list (xs:=ws.map V.int) (fun i σ H'=>∃ (s:Str × Int) (v7 v8 v9:Option V),σ=[some (.ref a),some (.ref tl),some (.str y),some (.str x),some (.ref l),some (.str s.1),some (.int s.2),v7,v8,v9]/\Same H1 H'/\Wk hs s (ws.drop i) (x,lst)) ⟨(y,-1),none,none,none,rfl,Same.refl _,wk⟩ (fun i σ H' _ hh=>by obtain ⟨_,_,_,_,_,sm,_⟩:=hh; exact SqL.of (sm _ _ (t1 _ _ hl))) ?_ ?_
   ·rintro i v σ H2 hv hh
    obtain ⟨⟨s1,s2⟩,v7,v8,v9,rfl,sm,wk⟩:=hh
    rw [List.getElem?_map] at hv
    obtain ⟨nb,hnb,rfl⟩:=Option.map_eq_some_iff.mp hv
    have hlt:=(List.getElem?_eq_some_iff.mp hnb).1
    rw [List.drop_eq_getElem_cons hlt,(List.getElem?_eq_some_iff.mp hnb).2] at wk
    cases wk with
    | @cons _ _ s' _ _ sw wk' =>
    obtain ⟨s1',s2'⟩:=s'
    obtain ⟨⟨j,e,ej,hj,mv⟩,e2,lt,hol1⟩:=sw
    dsimp only at e2 lt hol1 mv
    subst e2
    have jl:=(List.getElem?_eq_some_iff.mp hj).1
    have s12:=t1.trans sm
    have B2:=B.same s12
    refine ⟨_,rfl,_,true,rfl,.int,_,rfl,iteF ⟨_,rfl,_,rfl,_,_,rfl,rfl,_,rfl,ite2 (fun _ => ?_) (fun z=>absurd (decide_eq_true lt) z)⟩⟩
    refine ⟨_,rfl,a,_,rfl,dg B2.ha hk_deeds,dd,_,rfl,.inl (SqL.of B2.hdd),_,_,rfl,rfl,_,rfl,?_⟩
    rw [show decide (s2' < ((ds.length:Nat):Int))=true from decide_eq_true (by omega)]
    refine iteF ?_
    obtain ⟨vq,hvq,mvq⟩ : ∃ v,ds[j]?=some v/\DAt H2 v e:=by
     obtain ⟨v,hv⟩ : ∃ v,ds[j]?=some v:=⟨_,List.getElem?_eq_getElem (by omega)⟩
     obtain ⟨e',he',r⟩:=paired_get B2.pd hv
     rw [hj] at he'
     cases he'
     exact ⟨v,hv,r⟩
    obtain ⟨q,rfl,hq⟩:=mvq
    obtain ⟨wd,m,erow,hwd⟩:=mv.row
    rw [erow] at hq
    have at1:atI ds s2'=some (.ref q):=by rw [ej]; exact atI_nat hvq
    refine ⟨_,rfl,a,_,rfl,dg B2.ha hk_deeds,_,rfl,dd,_,_,_,rfl,rfl,SqL.of B2.hdd,at1,?_⟩
    refine ⟨q,_,_,rfl,SqT.of hq,rfl,(by show 2<=sizeLine; decide),fun z hz => ?_⟩
    have t3:=Same.upd (o:=.tup [.str "pour",.str "give"]) hz
    refine ⟨z,_,rfl,.inr (SqT.of upd_same),rfl,rfl,_,rfl,ite2 (fun h=>absurd h (nin_pg hwd)) (fun _ => ?_)⟩
    have hq3:=t3 _ _ hq
    refine ⟨q,_,_,rfl,SqT.of hq3,rfl,_,rfl,rfl,_,rfl,ite2 (fun z=>by simp at z) (fun _ => ?_)⟩
    have s13:=s12.trans t3
    have sm3:=sm.trans t3
    generalize upd H2 z (.tup [.str "pour",.str "give"])=H3 at t3 hq3 s13 sm3 ⊢
    have B3:=B.same s13
    refine ⟨_,rfl,_,_,rfl,_,rfl,_,_,rfl,⟨?_,?_,by omega,by omega⟩,?_⟩
    ·split <;> omega
    ·split <;> omega
    refine for_range (fun i' σ H'=>∃ v9:Option V,σ=[some (.ref a),some (.ref tl),some (.str y),some (.str x),some (.ref l),some (.str s1),some (.int s2),some (.int s2'),some (.ref q),v9]/\Same H3 H') ⟨_,rfl,Same.refl _⟩ ?_ ?_
    ·rintro i' σ H4 hi' hh
     obtain ⟨v9',rfl,s4⟩:=hh
     refine ⟨_,rfl,_,_,rfl,rfl,_,rfl,ite2 (fun hc0 => ?_) (fun _=>iteF ⟨_,rfl,s4⟩)⟩
     have h0:0<=s2:=of_decide_eq_true hc0
     have elo:(if (0:Int) > s2 then (0:Int) else s2)=s2:=if_neg (by omega)
     rw [elo] at hi' ⊢
     obtain ⟨v,r,kvs,g1,rfl,g3,t,g4,g5⟩:=gotT (H':=H4) (z:=s1) (kk:=s2+i') (s13.trans s4) (by omega) (by omega) fun j' e' ej' he'=>hol1 h0 j' e' (by omega) (by omega) he'
     refine ⟨_,rfl,_,rfl,tl,_,_,_,rfl,rfl,SqL.of (s4 _ _ B3.ht),g1,r,rfl,.inl ⟨_,.inl g3⟩,_,rfl,_,DGet.k (k:=.inr s1) g3,?_⟩
     rw [g4]
     refine ⟨rfl,_,rfl,ite2 (fun z=>absurd (V.int.inj (of_decide_eq_true z)) g5) (fun _=>⟨_,rfl,s4⟩)⟩
    ·rintro σ H4 hh
     obtain ⟨v9',rfl,s4⟩:=hh
     exact ⟨q,_,_,rfl,SqT.of (s4 _ _ hq3),rfl,_,rfl,(s1',s2'),_,_,_,rfl,sm3.trans s4,wk'⟩
   ·rintro σ H2 hh
    obtain ⟨⟨s1,s2⟩,v7,v8,v9,rfl,sm,wk'⟩:=hh
    rw [List.length_map,List.drop_length] at wk'
    have p2:=wk.pos wn
    dsimp only at p2
    cases wk'
    refine ⟨_,rfl,_,rfl,rfl,_,rfl,ite2 (fun z=>by simp at z) (fun _ => ?_)⟩
    have s12:=t1.trans sm
    have B2:=B.same s12
    refine ⟨_,rfl,_,rfl,tl,_,rfl,.inl (SqL.of B2.ht),_,_,rfl,⟨by omega,by omega,by omega,by omega⟩,fun D hD => ?_⟩
    refine comp_any Ys.rng (fun _=>False) hD (by rw [rngV_len]; omega) (fun i y' H' R1 R2 hy sm4 h1 h2 => ?_) (fun ys H5 sm4 hD5 yl hys => ?_)
    ·obtain ⟨hi,rfl⟩:=rngV_get hy
     obtain ⟨v,r,kvs,g1,rfl,g3,t,g4,g5⟩:=gotT (H':=H') (z:=x) (kk:=lst+i) (s12.trans sm4) (by omega) (by omega) fun j' e' ej' he'=>hol j' e' (by omega) (by omega) he'
     refine ⟨(Keep.refl _).set rfl,_,rfl,_,rfl,tl,_,_,_,rfl,rfl,SqL.of (sm4 _ _ B2.ht),g1,r,rfl,.inl ⟨_,.inl g3⟩,_,rfl,_,DGet.k (k:=.inr x) g3,?_⟩
     rw [g4]
     exact ⟨rfl,_,rfl,ite2 (fun z=>absurd (V.int.inj (of_decide_eq_true z)) g5) (fun _=>h2 _ (Same.refl _))⟩
    ·have ey:ys=[]:=List.eq_nil_iff_forall_not_mem.mpr fun v hv=>hys v hv
     subst ey
     refine ⟨(by show 0<=sizeLine; decide),fun z hz => ?_⟩
     have t6:=Same.upd (o:=.lst []) hz
     exact ⟨D,z,[],rfl,rfl,SqL.of (t6 _ _ hD5),SqL.of upd_same,k _ ((s12.trans sm4).trans t6)⟩
end
end K76
namespace L2
open PySem PySem.Spec PyProof.Rows
theorem comp_pairL {β:Type}{J:It}{xs:List V}{D:Addr}{g:TG}{tt:TT}{te:TE}{σ0:St}{QD:Hp->Prop}{H1:Hp}(Y:Ys J xs H1)(rs:List β)(el:xs.length=rs.length)(p:β->Bool)(Pr:β->V->Hp->Prop)(hP : ∀ r y H H',Pr r y H->(∀ b o,b ≠ D->H b=some o->H' b=some o)->Pr r y H')(hD:H1 D=none)(hl:xs.length<=3000)
  (hs : ∀ (i:Nat) x r H' (R1:VK) (R2:Hp->Prop),xs[i]?=some x->rs[i]?=some r->Same H1 H'->(∃ ys,H' D=some (.lst ys))->(p r=true->∀ y H4,Same H' H4->Pr r y H4->R1 y H4)->(p r=false->∀ H4,Same H' H4->R2 H4)->g x σ0 H' fun σ2 H2=>Keep σ0 σ2/\tt σ2 H2 fun b H3=>if b=true then te σ2 H3 R1 else R2 H3)
  (hd : ∀ ys H',Same H1 H'->H' D=some (.lst ys)->Paired (fun y r=>Pr r y H') ys (rs.filter p)->QD H') :
  ∃ W:Nat->Nat->List V->Hp->Prop,(∃ m,W 0 m [] (upd H1 D (.lst [])))/\∀ i m ys H,W i m ys H->H D=some (.lst ys)/\ys.length < sizeLine /\
   ((J.stop i H/\QD H)\/(J.go i H/\∀ x H',J.yld i H x H'->g x σ0 H' fun σ2 H2=>Keep σ0 σ2/\tt σ2 H2 fun b H3 =>
    if b=true then te σ2 H3 fun y H4=>H4 D=some (.lst ys)/\∃ m',m' < m/\W (i+1) m' (ys ++ [y]) (upd H4 D (.lst (ys ++ [y]))) else ∃ m',m' < m/\W (i+1) m' ys H3)):=by
 refine ⟨fun i m ys H=>m=xs.length - i/\i<=xs.length/\Same H1 H/\H D=some (.lst ys)/\Paired (fun y r=>Pr r y H) ys ((rs.take i).filter p),⟨_,rfl,Nat.zero_le _,Same.upd hD,upd_same,.nil⟩,?_⟩
 rintro i m ys H ⟨rfl,hi,sm,hDH,pr⟩
 have yl:ys.length<=i:=by
  rw [Paired.length pr]
  refine Nat.le_trans (List.length_filter_le _ _) ?_
  rw [List.length_take]
  exact Nat.min_le_left ..
 refine ⟨hDH,size3000 (by omega),?_⟩
 by_cases hlt:i < xs.length
 ·refine .inr ⟨Y.go i H sm hlt,fun x H' y => ?_⟩
  obtain ⟨rfl,hx⟩:=Y.yld i H x H' sm hlt y
  obtain ⟨r,hr⟩ : ∃ r,rs[i]?=some r:=⟨_,List.getElem?_eq_getElem (by omega)⟩
  have et:(rs.take (i+1)).filter p=(rs.take i).filter p ++ if p r=true then [r] else []:=by
   rw [List.take_add_one,hr,List.filter_append]
   congr 1
   show List.filter p [r]=_
   by_cases e:p r=true
   ·rw [if_pos e,List.filter_cons_of_pos e]; rfl
   ·rw [if_neg e,List.filter_cons_of_neg e]; rfl
  refine hs i x r H' _ _ hx hr sm ⟨_,hDH⟩ (fun hp y H4 s4 py => ?_) fun hp H4 s4 => ?_
  ·have hD4:=s4 _ _ hDH
   have kp : ∀ b o,b ≠ D->H4 b=some o->(upd H4 D (.lst (ys ++ [y]))) b=some o:=fun b o nb e=>by rw [upd_ne nb]; exact e
   refine ⟨hD4,xs.length - (i+1),by omega,rfl,hlt,fun b o hb => ?_,upd_same,?_⟩
   ·rw [upd_ne (ne_of_none hb hD)]
    exact s4 _ _ (sm _ _ hb)
   ·rw [et,if_pos hp]
    exact Paired.snoc (Paired.mapP pr fun _ _ z=>hP _ _ _ _ (hP _ _ _ _ z fun b o _ e=>s4 b o e) kp) (hP _ _ _ _ py kp)
  ·refine ⟨xs.length - (i+1),by omega,rfl,hlt,sm.trans s4,s4 _ _ hDH,?_⟩
   rw [et,if_neg (by rw [hp]; decide),List.append_nil]
   exact Paired.mapP pr fun _ _ z=>hP _ _ _ _ z fun b o _ e=>s4 b o e
 ·have e:i=xs.length:=by omega
  subst e
  rw [el,List.take_length] at pr
  exact .inl ⟨Y.stop _ H sm (Nat.le_refl _),hd ys H sm hDH pr⟩
theorem strs_eq : ∀ {ys:List V} {ss:List Str},Paired (fun y (r:Str)=>y=V.str r) ys ss->ys=ss.map V.str
 | _,_,.nil=>rfl
 | _,_,.cons e t=>by rw [List.map_cons,e,strs_eq t]
end L2
namespace K76
open PySem PySem.Spec PyProof.Rows L2 GM TM
def isDs (zs:List Th)(x:Str):Bool:=match zs.find? (fun z=>decide (z.x=x)) with
 | some z=>decide (z.k = "dose")
 | none=>false
def hasY (zs:List Th)(y x:Str):Bool:=match zs.find? (fun z=>decide (z.x=x)) with
 | some z=>decide (y ∈ z.ks)
 | none=>false
theorem find_of {zs:List Th}(nd:(zs.map Th.x).Nodup){u:Th}(hu:u ∈ zs):zs.find? (fun z=>decide (z.x=u.x))=some u:=by
 cases h:zs.find? (fun z=>decide (z.x=u.x)) with
 | none=>exact absurd (List.find?_eq_none.mp h u hu) (by simp)
 | some z =>
  have e:z.x=u.x:=by simpa using List.find?_some h
  rw [nd_eq nd (List.mem_of_find?_eq_some h) hu e]
theorem isDs_of {zs:List Th}(nd:(zs.map Th.x).Nodup){u:Th}(hu:u ∈ zs):isDs zs u.x=decide (u.k = "dose"):=by unfold isDs; rw [find_of nd hu]
theorem hasY_of {zs:List Th}(nd:(zs.map Th.x).Nodup){u:Th}(hu:u ∈ zs)(y:Str):hasY zs y u.x=decide (y ∈ u.ks):=by unfold hasY; rw [find_of nd hu]
abbrev CaPr (H0 H:Hp)(zs:List Th)(y:Str)(c:Addr)(s:Str):Prop:=∃ l z,z ∈ zs/\z.x=s/\y ∈ z.ks/\z.k = "dose" /\ H c=some (.tup [.str s,.ref l])/\H l=some (.lst ((z.w y).map V.int))/\H0 l=none/\(z.w y).length<=60
def spCalled (C:Addr):Sp:=fun vs H Q _=>∃ L p dl dt db bs kvs day bf M n zs u,vs=[.ref p,.str u.x]/\PS C H L p dl dt db bs kvs day bf M n zs/\u ∈ zs/\u.k = "lot" /\
 ∀ D cs sn H',Same H H'->H D=none->H' D=some (.lst (cs.map V.ref))->sn.Perm (zs.map Th.x)->sortedS sn=true->Paired (CaPr H H' zs u.x) cs ((sn.filter (isDs zs)).filter (hasY zs u.x))->Q (.ref D) H'
section
variable {P:Program}{w:World}{K:PySem.W.Frag}{mg:Str->Option Value}{base:Heap}
theorem ndC1:(["name","self"]:List Str).Nodup:=by decide +kernel
theorem ndC2:(["name","self","lot"]:List Str).Nodup:=by decide +kernel
theorem scCalled:FnScope ["self","lot","doses"] ["self","lot"] (defScope sCalled):=⟨rfl,rfl,rfl,by decide +kernel,rfl,by decide +kernel,by decide +kernel⟩
theorem dk_non {kvs:List (Key × V)}{ks:List Str}(h:DK kvs ks){y:Str}(hy:y ∉ ks):valV kvs (.inr y)=none:=by
 cases hv:valV kvs (Sum.inr y) with
 | none=>rfl
 | some v=>exact absurd ((h.get y).mp (by rw [hv]; rfl)) hy
theorem refs_ofP {Pr:Addr->Str->Prop} : ∀ {ys:List V} {ss:List Str},Paired (fun y s=>∃ c,y=V.ref c/\Pr c s) ys ss->∃ cs:List Addr,ys=cs.map V.ref/\Paired Pr cs ss
 | _,_,.nil=>⟨[],rfl,.nil⟩
 | _,_,.cons ⟨c,e,h⟩ t=>by
  obtain ⟨cs,e2,p⟩:=refs_ofP t
  exact ⟨c :: cs,by rw [e,e2]; rfl,.cons h p⟩
theorem ok_called {f C:Addr}{fd:FuncData}(F:Fun K "called" "Books.called" sCalled f fd)(T:Txt mg)(L:Cl K mg C)(mO:MCal P w K mg base CX0 3 C "is_one_of" ["self","name","words"] (spOneOf C K)):FnOk P w K mg base CX0 4 f fd ["self","lot"] (spCalled C):=by
 refine F.ok scCalled (fun vs H Q E h => ?_) (fun cdv A outer s H vs Q E hr h => ?_)
 ·obtain ⟨_,_,_,_,_,_,_,_,_,_,_,_,_,rfl,_⟩:=h
  rfl
 ·obtain ⟨l,p,dl,dt,db,bs,kvs,day,bf,M,n,zs,u,rfl,B,hu,uk,k⟩:=h
  refine ⟨_,(pss_cons (ps_if (pt_not (pt_val (pe_mc L.cl mO hr pass0 (pv 0) (pa_cons (pv 1) (pa_cons (pe_tup (pa_cons pe_str pa_nil)) pa_nil))))) (pss_one ps_no) pss_nil)
   (pss_cons (ps_compC (iy:=2) (N':=["name","self"]) (fun σ=>[none,some 0].map fun t=>t.bind fun j=>(σ[j]?).join) rfl rfl (by decide +kernel) (by decide +kernel)
     (hk_of (sc:=defScope sCalled) rfl (by decide +kernel)) (fun _ _ _=>blkN_by (sc:=defScope sCalled) (N:=["self","lot","doses"]) [none,some 0] rfl rfl rfl rfl (by decide +kernel))
     (pi_list (pe_callB (call_sortDS rfl) rfl T.sorted' boot_sorted (pa_cons (pe_fld (pv 0) rfl) pa_nil))) (fun _ _ _ _ _ _=>pg_name (i:=0) ndC1 rfl (Or.inl rfl))
     (fun _ _ _ _ _ _=>pifs_one (pt_val (pe_mc L.cl mO hr pass0 (pv 1) (pa_cons (pv 0) (pa_cons (pe_tup (pa_cons pe_str pa_nil)) pa_nil)))))
     (fun _ _ _ _ _ _=>pv 0) scCalled.nd rfl (Or.inl rfl) (Or.inr rfl) rfl)
   (pss_one (ps_ret (pe_compC (N':=["name","self","lot"]) (fun σ=>[none,some 0,some 1].map fun t=>t.bind fun j=>(σ[j]?).join) rfl rfl (by decide +kernel) (by decide +kernel)
     (hk_of (sc:=defScope sCalled) rfl (by decide +kernel)) (fun _ _ _=>blkN_by (sc:=defScope sCalled) (N:=["self","lot","doses"]) [none,some 0,some 1] rfl rfl rfl rfl (by decide +kernel))
     (pi_list (pv 2)) (fun _ _ _ _ _ _=>pg_name (i:=0) ndC2 rfl (Or.inl rfl))
     (fun _ _ _ _ _ _=>pifs_one (pt_cmp (pc_din (hu_of hr) (pv 2) (pe_ix (ix_tupK (K:=K) rfl) (pe_dget (hu_of hr) (pe_fldK (K:=K) rfl (pv 1) rfl) (pv 0) (fun _ _=>rfl)) pe_int (fun _ _=>rfl)))))
     (fun _ _ _ _ _ _=>pe_tup (pa_cons (pv 0) (pa_cons (pe_callTy (call_list_ofK (K:=K) rfl) rfl T.list' bt_list (pa_cons (pe_dget (hu_of hr) (pe_ix (ix_tupK (K:=K) rfl) (pe_dget (hu_of hr) (pe_fldK (K:=K) rfl (pv 1) rfl) (pv 0) (fun _ _=>rfl)) pe_int (fun _ _=>rfl)) (pv 2) (fun _ _=>rfl)) pa_nil)) pa_nil)))))))),?_⟩
  obtain ⟨⟨dx,h0⟩,hl,ht,hb,n6⟩:=id B.bk
  have nd:=B.g.nd
  have n60:=B.g.n60
  have zln:=B.g.ln
  have kl:=B.kl
  refine ⟨_,rfl,p,dx,_,rfl,h0,(by kernel_rfl),_,rfl,(by show 1<=sizeLine; decide),fun w1 hw1 => ?_⟩
  have t1:=Same.upd (o:=.tup [.str "lot"]) hw1
  refine ⟨l,p,dl,dt,db,bs,kvs,day,bf,M,n,zs,u.x,w1,["lot"],rfl,B.keep t1,(B.g.ok u hu).wr,SqT.of upd_same,.inl ⟨u,hu,rfl,fun H2 s2 => ?_⟩⟩
  rw [show decide (u.k ∈ (["lot"]:List Str))=true from decide_eq_true (by rw [uk]; exact List.mem_singleton.mpr rfl)]
  refine ⟨_,rfl,iteF ?_⟩
  have s12:=t1.trans s2
  have B2:=B.keep s12
  generalize upd H w1 (.tup [.str "lot"])=H1 at t1 s2
  refine ⟨_,rfl,p,C,dx,_,_,rfl,s12 _ _ h0,L.cl,L.nT,flds_things,dt,kvs,zs.map Th.x,rfl,s12 _ _ ht,B.th.keys,by omega,fun pn sn pm so hpn => ?_⟩
  have t3:=Same.upd (o:=.lst (sn.map V.str)) hpn
  have sl:=pm.length_eq
  rw [List.length_map] at sl
  refine ⟨pn,rfl,⟨_,SqL.of upd_same⟩,fun D1 hD1 => ?_⟩
  have B3:=B2.keep t3
  have hp3:(upd H2 pn (.lst (sn.map V.str))) pn=some (.lst (sn.map V.str)):=upd_same
  generalize upd H2 pn (.lst (sn.map V.str))=H3 at t3 hD1 B3 hp3 ⊢
  refine comp_pair (Ys.list (xs:=sn.map V.str) (SqL.of hp3)) sn (by rw [List.length_map]) (isDs zs) (fun r y _=>y=V.str r) (fun _ _ _ _ h _=>h) hD1 (by rw [List.length_map]; omega) (fun i x r H' R1 R2 hx hr' sm h1 h2 => ?_) (fun ys H5 sm hD5 pr => ?_)
  ·rw [List.getElem?_map,hr'] at hx
   cases hx
   obtain ⟨z,hz,rfl⟩:=List.mem_map.mp (pm.mem_iff.mp (List.mem_of_getElem? hr'))
   have B4:=B3.keep sm
   obtain ⟨⟨dx4,h4⟩,_⟩:=id B4.bk
   refine ⟨(Keep.refl _).set rfl,_,rfl,p,dx4,_,rfl,h4,(by kernel_rfl),_,rfl,(by show 1<=sizeLine; decide),fun w2 hw2 => ?_⟩
   have t5:=Same.upd (o:=.tup [.str "dose"]) hw2
   refine ⟨l,p,dl,dt,db,bs,kvs,day,bf,M,n,zs,z.x,w2,["dose"],rfl,B4.keep t5,(B.g.ok z hz).wr,SqT.of upd_same,.inl ⟨z,hz,rfl,fun H6 s6 => ?_⟩⟩
   have ed:decide (z.k ∈ (["dose"]:List Str))=isDs zs z.x:=by
    rw [isDs_of nd hz]
    by_cases q:z.k = "dose"
    ·rw [decide_eq_true q,decide_eq_true (by rw [q]; exact List.mem_singleton.mpr rfl)]
    ·rw [decide_eq_false q,decide_eq_false (fun y=>q (List.mem_singleton.mp y))]
   rw [ed]
   cases hd:isDs zs z.x with
   | true=>exact ⟨_,rfl,iteT ⟨_,rfl,h1 hd _ _ (t5.trans s6) rfl⟩⟩
   | false=>exact ⟨_,rfl,iteF (h2 hd _ (t5.trans s6))⟩
  ·have ey:=strs_eq pr
   subst ey
   have s05:=(s12.trans t3).trans sm
   have B5:=B.keep s05
   have fl:(sn.filter (isDs zs)).length<=sn.length:=List.length_filter_le _ _
   refine ⟨_,rfl,D1,rfl,⟨_,SqL.of hD5⟩,fun D hD => ?_⟩
   refine comp_pairL (Ys.list (xs:=(sn.filter (isDs zs)).map V.str) (SqL.of hD5)) (sn.filter (isDs zs)) (by rw [List.length_map]) (hasY zs u.x) (fun r y H'=>∃ c,y=V.ref c/\c ≠ D/\∃ l z,l ≠ D/\z ∈ zs/\z.x=r/\u.x ∈ z.ks/\z.k = "dose" /\ H' c=some (.tup [.str r,.ref l])/\H' l=some (.lst ((z.w u.x).map V.int))/\H l=none/\(z.w u.x).length<=60) (fun r y H H' ⟨c,e1,e2,l,z,e3,e4,e5,e6,e7,e8,e9,e10⟩ kp=>⟨c,e1,e2,l,z,e3,e4,e5,e6,e7,kp _ _ e2 e8,kp _ _ e3 e9,e10⟩) hD (by rw [List.length_map]; omega) (fun i x r H' R1 R2 hx hr' sm2 hDl h1 h2 => ?_) (fun ys H6 sm2 hD6 pr2 => ?_)
   ·rw [List.getElem?_map,hr'] at hx
    cases hx
    have mr:=List.mem_of_getElem? hr'
    obtain ⟨z,hz,rfl⟩:=List.mem_map.mp (pm.mem_iff.mp (List.mem_filter.mp mr).1)
    have zk:z.k = "dose" := by
     have:=(List.mem_filter.mp mr).2
     rw [isDs_of nd hz] at this
     exact of_decide_eq_true this
    have B6:=B5.keep sm2
    obtain ⟨⟨dx6,h6⟩,_,ht6,_⟩:=id B6.bk
    obtain ⟨q,d1,d2,ev,tq,_⟩:=B6.at hz
    have gv:DGet H' dt (.str z.x) (some (.ref q)):=by rw [<- ev]; exact DGet.k (k:=.inr z.x) ht6
    obtain ⟨kv,ks,e1,ha,mem⟩:=tq.hd
    have hm:(valV kv (.inr u.x)).isSome=hasY zs u.x z.x:=by
     rw [hasY_of nd hz]
     by_cases q:u.x ∈ z.ks
     ·rw [decide_eq_true q]
      obtain ⟨t,a',b,v1,_⟩:=ha.am u.x ((mem _).mpr q)
      rw [v1]; rfl
     ·rw [decide_eq_false q]
      have nk:u.x ∉ ks:=fun y=>q ((mem _).mp y)
      rw [dk_non ha.dk nk]; rfl
    refine ⟨(Keep.refl _).set rfl,_,rfl,_,rfl,p,C,dx6,_,_,rfl,h6,L.cl,L.nT,flds_things,_,rfl,dt,_,rfl,gv,q,_,_,_,rfl,rfl,SqT.of tq.hq,rfl,d1,_,rfl,DGet.k (k:=.inr u.x) e1,?_⟩
    rw [hm]
    cases hy:hasY zs u.x z.x with
    | false=>exact ⟨_,rfl,iteF (h2 hy _ (Same.refl _))⟩
    | true =>
     have my:u.x ∈ z.ks:=by rw [hasY_of nd hz] at hy; exact of_decide_eq_true hy
     obtain ⟨wv,f1,_,wat⟩:=tq.hw
     obtain ⟨e,v1,v2,v3⟩:=wat u.x my
     have g2:DGet H' d2 (.str u.x) (some (.ref e)):=by rw [<- v1]; exact DGet.k (k:=.inr u.x) f1
     obtain ⟨ys0,hDl⟩:=hDl
     refine ⟨_,rfl,iteT ⟨_,rfl,_,rfl,p,C,dx6,_,_,rfl,h6,L.cl,L.nT,flds_things,_,rfl,dt,_,rfl,gv,q,_,_,_,rfl,rfl,SqT.of tq.hq,rfl,_,rfl,d2,_,rfl,g2,e,_,rfl,.inr (SqT.of v2),fun l2 hl2 => ?_⟩⟩
     have t7:=Same.upd (o:=.lst ((z.w u.x).map V.int)) hl2
     refine ⟨(by show 2<=sizeLine; decide),fun c hc=>h1 hy _ _ (t7.trans (Same.upd hc)) ⟨c,rfl,?_,l2,z,?_,hz,rfl,my,zk,upd_same,Same.upd hc _ _ upd_same,same_none (s05.trans sm2) hl2,by omega⟩⟩
     ·intro q; rw [q,t7 _ _ hDl] at hc; cases hc
     ·intro q; rw [q,hDl] at hl2; cases hl2
   ·obtain ⟨cs,rfl,np⟩:=refs_ofP (Pr:=CaPr H H6 zs u.x) (paired_mono (fun y r ⟨c,e1,_,l,z,_,e4,e5,e6,e7,e8⟩=>⟨c,e1,l,z,e4,e5,e6,e7,e8⟩) pr2)
    exact k D cs sn _ (s05.trans sm2) (same_none s05 hD) hD6 pm so np
end
abbrev sLtots:Stmt:=top 52
def spLtots:Sp:=fun vs H Q _=>∃ a hd kd ls dd big F today n ds zi,vs=[.ref a]/\LG H a hd kd ls dd big F today n ds zi/\∀ r H',Same H H'->H r=none->H' r=some (.dK (zi.map fun e=>((Sum.inr e.1.x:Key),V.int e.1.T)))->Q (.ref r) H'
def spLtotR:Sp:=fun vs H Q _=>∃ a hd kd ls dd big F today n zi,∃ e:Th × Addr,vs=[.ref a,.str e.1.x]/\LR H a hd kd ls dd big F today n zi/\e ∈ zi/\∀ H',Same H H'->Q (.int e.1.T) H'
theorem LR.but {H H':Hp}{a hd kd ls dd r:Addr}{big:Bool}{F today:Int}{n:Nat}{zi:List (Th × Addr)}(h:LR H a hd kd ls dd big F today n zi)(k:But r H H')(nr:r ∉ La a hd kd ls dd zi):LR H' a hd kd ls dd big F today n zi:=by
 obtain ⟨h1,h2,h3,⟨lk,lks,h4,h5⟩,h6,h7⟩:=h
 have n1 : ∀ {b:Addr},b ∈ La a hd kd ls dd zi->b ≠ r:=fun {b} hb z=>nr (z ▸ hb)
 have m : ∀ b,b ∈ [a,hd,kd,ls,dd]->b ∈ La a hd kd ls dd zi:=fun b hb=>List.mem_append_left _ hb
 exact ⟨k _ _ (n1 (m _ (by simp))) h1,h2.elim (fun e=>.inl (k _ _ (n1 (m _ (by simp))) e)) (fun ⟨o,e⟩=>.inr ⟨o,k _ _ (n1 (m _ (by simp))) e⟩),fun e he=>(h3 e he).keep fun o q=>k _ _ (n1 (List.mem_append_right _ (List.mem_map_of_mem he))) q,⟨lk,lks,k _ _ (n1 (m _ (by simp))) h4,h5⟩,h6,h7⟩
section
variable {P:Program}{w:World}{K:PySem.W.Frag}{mg:Str->Option Value}{base:Heap}
theorem ok_ltotR {f:Addr}{fd:FuncData}(F:Fun K "_law_total" "_law_total" sLtot f fd)(T:Txt mg):FnOk P w K mg base CX0 1 f fd ["_law_here","_law_name"] spLtotR:=by
 refine F.ok scLtot (fun vs H Q E h => ?_) (fun cdv A outer s H vs Q E hr h => ?_)
 ·obtain ⟨_,_,_,_,_,_,_,_,_,_,_,rfl,_⟩:=h
  rfl
 ·obtain ⟨a,hd,kd,ls,dd,big,Fn,today,n,zi,e,rfl,B,he,k⟩:=h
  refine ⟨_,(pss_one (ps_ret (pe_op op_fdivB (pe_callB (call_sum rfl) rfl T.sum' boot_sum (pa_cons (pe_listValsR rfl rfl T.list' (pe_dget (hu_of hr) (pe_dget (hu_of hr) (pv 0) pe_str (fun _ _=>rfl)) (pv 1) (fun _ _=>rfl))) pa_nil)) (pe_dget (hu_of hr) (pv 0) pe_str (fun _ _=>rfl))))),?_⟩
  have nd:=B.g.nd
  have mz:=List.mem_map_of_mem (f:=(·.1)) he
  have to:=B.g.ok e.1 mz
  obtain ⟨kvs,ks,e1,hi,mem⟩:=B.inn e he
  refine ⟨_,rfl,a,_,rfl,dg B.ha hk_held,_,rfl,hd,_,rfl,dgr B.hh (LS.getX nd he),e.2,kvs,rfl,.inl e1,fun p hp => ?_⟩
  have t1:=Same.upd (o:=.lst (kvs.map (·.2))) hp
  refine ⟨p,ks.map e.1.f,rfl,SqL.of (by rw [<- hi.vals]; exact upd_same),_,rfl,a,_,rfl,dg (t1 _ _ B.ha) hk_fine,_,_,rfl,rfl,⟨B.g.M0,B.g.bm.mono (by decide)⟩,?_⟩
  have es:=to.isum hi mem
  show Q (V.int ((ks.map e.1.f).sum / Fn)) _
  have M0:=B.g.M0
  rw [es,Int.mul_ediv_cancel _ (show Fn ≠ 0 by omega)]
  exact k _ t1
theorem scLtots:FnScope ["_law_here","_law_found","_law_name"] ["_law_here"] (defScope sLtots):=⟨rfl,rfl,rfl,by decide +kernel,rfl,by decide +kernel,by decide +kernel⟩
theorem ok_ltots {f:Addr}{fd:FuncData}(F:Fun K "_law_totals" "_law_totals" sLtots f fd)(T:Txt mg)(cT:Cal P w K mg base CX0 1 "_law_total" ["_law_here","_law_name"] spLtotR):FnOk P w K mg base CX0 2 f fd ["_law_here"] spLtots:=by
 refine F.ok scLtots (fun vs H Q E h => ?_) (fun cdv A outer s H vs Q E hr h => ?_)
 ·obtain ⟨_,_,_,_,_,_,_,_,_,_,_,rfl,_⟩:=h
  rfl
 ·obtain ⟨aL,hd,kd,ls,dd,big,Fn,today,n,ds,zi,rfl,B,k⟩:=h
  refine ⟨_,(pss_cons (ps_set (i:=1) scLtots.nd rfl (Or.inl rfl) pe_dnewK)
   (pss_cons (ps_thaw (ps_for PassesOwn.never rfl (pi_dict (pe_dget (hu_of hr) (pv 0) pe_str (fun _ _=>rfl))) (pg_name (i:=2) scLtots.nd rfl (Or.inl rfl))
     (pss_one (ps_dput (hu_of hr) (pv 1) (pv 2) (pe_cal cT hr rfl pass0 (pa_cons (pv 0) (pa_cons (pv 2) pa_nil))) rfl))))
   (pss_one (ps_ret (pv 1))))),?_⟩
  intro r hr9
  have tr:=Same.upd (o:=.dK []) hr9
  have Sr:=B.same tr
  have rr:(upd H r (.dK [])) r=some (.dK []):=upd_same
  have rLa:r ∉ La aL hd kd ls dd zi:=fun z=>B.s.allo r z hr9
  generalize upd H r (.dK [])=Hr at tr Sr rr ⊢
  have nd:=Sr.g.nd
  have zln:=Sr.g.ln
  have n60:=Sr.g.n60
  rw [List.length_map] at zln
  refine ⟨_,rfl,aL,_,rfl,dg Sr.s.ha hk_held,hd,_,rfl,Sr.s.hh,fun ob => ?_⟩
  have LR0:=Sr.held ob
  have rhd:r ≠ hd:=fun z=>rLa (by rw [z]; simp [La])
  have rf:(upd Hr hd (.frz ob (.dK (zi.map keyX)))) r=some (.dK []):=by rw [upd_ne rhd]; exact rr
  have hfz:(upd Hr hd (.frz ob (.dK (zi.map keyX)))) hd=some (.frz ob (.dK (zi.map keyX))):=upd_same
  have oldF : ∀ b o,b ≠ hd->Hr b=some o->(upd Hr hd (.frz ob (.dK (zi.map keyX)))) b=some o:=fun b o nb e=>by rw [upd_ne nb]; exact e
  have nfz:=no_frz B.s.hh
  generalize upd Hr hd (.frz ob (.dK (zi.map keyX)))=Hf at LR0 rf hfz oldF ⊢
  refine for_dict (fun j σ H'=>∃ v2:Option V,σ=[some (.ref aL),some (.ref r),v2]/\But r Hf H'/\H' r=some (.dK ((zi.take j).map fun e=>((Sum.inr e.1.x:Key),V.int e.1.T))))
   ⟨_,rfl,fun _ _ _ e=>e,rf⟩ (fun j σ H' _ hh=>by obtain ⟨_,_,kb,_⟩:=hh; exact kb _ _ (Ne.symm rhd) hfz) ?_ ?_
  ·rintro j x σ Ha hx hh
   obtain ⟨v2,rfl,kb,hra⟩:=hh
   rw [List.getElem?_map] at hx
   obtain ⟨e,hze,rfl⟩:=Option.map_eq_some_iff.mp hx
   have he:=List.mem_of_getElem? hze
   have jl:=(List.getElem?_eq_some_iff.mp hze).1
   refine ⟨_,rfl,_,rfl,aL,hd,kd,ls,dd,big,_,_,_,zi,e,rfl,LR0.but kb rLa,he,fun Hb sb => ?_⟩
   have hrb:=sb _ _ hra
   refine ⟨_,rfl,_,rfl,r,_,rfl,DPut.k (k:=.inr e.1.x) hrb (small1000 (by rw [List.length_map,List.length_take]; omega)),?_⟩
   have nk:valV ((zi.take j).map fun e=>((Sum.inr e.1.x:Key),V.int e.1.T)) (.inr e.1.x)=none:=key_no (φ:=fun e=>.int e.1.T) fun z=>by
    obtain ⟨t,ht,et⟩:=List.mem_map.mp z
    obtain ⟨u,hu,rfl⟩:=List.mem_map.mp ht
    obtain ⟨m,hm⟩:=List.mem_iff_getElem?.mp hu
    rw [List.getElem?_take] at hm
    split at hm
    ·rename_i mlt
     have eu:=nd_pr nd (List.mem_of_getElem? hm) he et
     subst eu
     have nds:=(List.nodup_append.mp Sr.s.nda).2.1
     exact nd_snd nds hm hze (by omega) rfl
    ·cases hm
   rw [putK_new _ nk]
   refine ⟨_,rfl,fun b o nb e'=>by rw [upd_ne nb]; exact sb _ _ (kb b o nb e'),?_⟩
   rw [upd_same,List.take_add_one,hze]
   simp only [Option.toList,List.map_append,List.map_cons,List.map_nil]
  ·rintro σ Ha hh
   obtain ⟨v2,rfl,kb,hra⟩:=hh
   rw [List.length_map,List.take_length] at hra
   refine ⟨hd,ob,_,kb _ _ (Ne.symm rhd) hfz,nfz,?_⟩
   have sT:Same H (upd Ha hd (.dK (zi.map keyX))):=fun b o e=>by
    by_cases z:b=hd
    ·rw [z,B.s.hh] at e
     cases e
     rw [z]
     exact upd_same
    ·rw [upd_ne z]
     exact kb b o (fun q=>by rw [q,hr9] at e; cases e) (oldF b o z (tr _ _ e))
   have hrT:(upd Ha hd (.dK (zi.map keyX))) r=some (.dK (zi.map fun e=>((Sum.inr e.1.x:Key),V.int e.1.T))):=by rw [upd_ne rhd]; exact hra
   exact ⟨_,rfl,k r _ sT hr9 hrT⟩
end
end K76
namespace L2
open PySem PySem.Spec PyProof.Rows
def Itz3 (K:PySem.W.Frag)(a b:Addr):It :=
  ⟨fun i H=>∃ xs ys,SqL K H a xs/\SqL K H b ys/\i < xs.length/\i < ys.length,
   fun i H v H'=>∃ T,H T=none/\v = .ref T/\∀ xs ys,SqL K H a xs->SqL K H b ys->∃ x y,xs[i]?=some x/\ys[i]?=some y/\H'=upd H T (.tup [x,y]),
   fun i H=>∃ xs ys,SqL K H a xs/\SqL K H b ys/\(i=xs.length\/(i < xs.length/\i=ys.length))⟩
def ZipSt3 (n a b:Nat)(i:Nat)(h:Heap):Prop:=IsZip h (n+4) (n+2) (n+3) .none/\IsPair h (n+2) (.ref n) (.ref (n+1))/\(∃ x y,IsPair h (n+3) x y)/\h.IsListIter n a i/\h.IsListIter (n+1) b i
theorem turn_zip3 {P:Program}{w:World}{K:PySem.W.Frag}{es:List Expr}{k1:Nat}{p1:Pos}{n a b:Nat}(ha:a < n)(hb:b < n) :
  Turn P w K (.Tuple es k1 p1) (Itz3 K a b) [n+4,n+2,n+3,n,n+1] (n+4) (ZipSt3 n a b) where
 mem:=by simp
 obj:=fun i h st c hc=>by
  obtain ⟨c1,c2,⟨x,y,c3⟩,⟨o4,d4,_,f4⟩,⟨o5,d5,_,f5⟩⟩:=st
  have hc':c=n+4\/c=n+2\/c=n+3\/c=n\/c=n+1:=by simpa using hc
  rcases hc' with e | e | e | e | e
  ·subst e; exact ⟨_,c1,fun v z=>by cases z⟩
  ·subst e; exact ⟨_,c2,fun v z=>by cases z⟩
  ·subst e; exact ⟨_,c3,fun v z=>by cases z⟩
  ·subst e; exact ⟨_,d4,fun v z=>by rw [f4] at z; cases z⟩
  ·subst e; exact ⟨_,d5,fun v z=>by rw [f5] at z; cases z⟩
 keep:=fun i h h' st k=>by
  obtain ⟨c1,c2,⟨x,y,c3⟩,c4,c5⟩:=st
  exact ⟨k _ (by simp) _ c1,k _ (by simp) _ c2,⟨x,y,k _ (by simp) _ c3⟩,c4.at fun o e=>k _ (by simp) o e,c5.at fun o e=>k _ (by simp) o e⟩
 item:=by
  intro X hP hw hK hc i pins s σ H E I hf st hg
  subst hP hw hK
  obtain ⟨xs,ys,hx,hy,l1,l2⟩:=hg
  obtain ⟨its,r1,tx,_⟩:=I.list hx
  obtain ⟨its',r2,ty,_⟩:=I.list hy
  have e1:=r1.length
  have e2:=r2.length
  obtain ⟨c1,c2,⟨x0,y0,c3⟩,c4,c5⟩:=st
  have hh:X.A.in1.handled=none:=I.ok.hd hc
  refine zipPy (Draws.list hh n a (by show (_:Nat) ≠ _; omega) its.toArray) (Draws.list hh (n+1) b (by show (_:Nat) ≠ _; omega) its'.toArray) (ap_new ha hb) c1 c2 c3 ⟨c4,isList_of tx⟩ ⟨c5,isList_of ty⟩ (by rw [List.size_toArray]; omega) (by rw [List.size_toArray]; omega) fun x y T g t' px py hT cz cO s1 s2 cT kp=>⟨.ref T,rfl,?_⟩
  subst hT
  refine wpAny_letOwnedTupleGo_zip (s:={ s with heap:=g,toks:=t' }) cz fun g' cz' sb => ?_
  obtain ⟨vx,hvx⟩ : ∃ v,xs[i]?=some v:=⟨_,List.getElem?_eq_getElem l1⟩
  obtain ⟨vy,hvy⟩ : ∃ v,ys[i]?=some v:=⟨_,List.getElem?_eq_getElem l2⟩
  obtain ⟨ux,hux,rx⟩:=r1.get hvx
  obtain ⟨uy,huy,ry⟩:=r2.get hvy
  have ex:x=ux:=by
   have:its.toArray[i]?=some x:=px
   rw [<- Array.getElem?_toList,List.toList_toArray,hux] at this
   exact (Option.some.inj this).symm
  have ey:y=uy:=by
   have:its'.toArray[i]?=some y:=py
   rw [<- Array.getElem?_toList,List.toList_toArray,huy] at this
   exact (Option.some.inj this).symm
  subst ex ey
  have hfr:H s.heap.objs.size=none:=I.hok.fresh (Nat.le_refl _)
  have I0:Inv X pins σ (upd H s.heap.objs.size (.tup [vx,vy])) { s with heap:=s.heap.push { cls:=.type "tuple",data:=.seq #[x,y] },toks:=t' } :=
   I.laid (fun c u q=>Heap.get?_push_of_some _ q) (Nat.le_refl _) ⟨⟨by show 2<=sizeLine; decide,_,Heap.get?_push_size s.heap rfl,rfl⟩,[x,y],.cons rx (.cons ry .nil),⟨_,Heap.get?_push_size s.heap rfl,rfl,_,rfl⟩⟩
  have lz:n+4 < s.heap.objs.size:=Heap.lt_size c1
  have fpn : ∀ c ∈ [n+4,n+2,n+3,n,n+1],c ≠ s.heap.objs.size:=fun c hc'=>by
   have hc'':c=n+4\/c=n+2\/c=n+3\/c=n\/c=n+1:=by simpa using hc'
   rcases hc'' with e | e | e | e | e <;> (subst e; exact Nat.ne_of_lt (by omega))
  have hf0 : ∀ c ∈ [n+4,n+2,n+3,n,n+1],FpOk X pins (upd H s.heap.objs.size (.tup [vx,vy])) c:=fun c hc'=>⟨by rw [upd_ne (fpn c hc')]; exact (hf c hc').1,(hf c hc').2⟩
  have I1:Inv X pins σ (upd H s.heap.objs.size (.tup [vx,vy])) { s with heap:=g',toks:=t' }:=by
   refine Inv.turnedL (s:={ s with heap:=s.heap.push { cls:=.type "tuple",data:=.seq #[x,y] },toks:=t' }) (h':=g') (t':=t') (ch:=[n+4,n+2,n+3,n,n+1]) I0 (fun c o hc' e => ?_) hf0
   replace e:(s.heap.push { cls:=.type "tuple",data:=.seq #[x,y] }).get? c=some o:=e
   have hn : ∀ d ∈ [n+4,n+2,n+3,n,n+1],c ≠ d:=fun d hd z=>hc' (by rw [z]; exact hd)
   refine sb.extBut _ _ (hn _ (by simp)) ?_
   by_cases ec:c=s.heap.objs.size
   ·rw [ec] at e ⊢
    rw [Heap.get?_push_size s.heap rfl] at e
    cases e
    exact cT
   ·rw [Heap.get?_push_ne _ _ _ ec] at e
    exact kp c o (hn _ (by simp)) (hn _ (by simp)) (hn _ (by simp)) (hn _ (by simp)) e
  refine ⟨.ref s.heap.objs.size,_,I1,rfl,⟨_,hfr,rfl,fun xs' ys' hx' hy'=>⟨vx,vy,by rw [I.list_inj hx' hx]; exact hvx,by rw [I.list_inj hy' hy]; exact hvy,rfl⟩⟩,?_,fun c hc'=>(hf0 c hc').1⟩
  have nz : ∀ d:Nat,d < n+4->d ≠ n+4:=fun d hd=>Nat.ne_of_lt hd
  exact ⟨cz',sb.extBut _ _ (nz _ (by omega)) (kp _ _ (nz _ (by omega)) (by show (_:Nat) ≠ _; omega) (by show (_:Nat) ≠ _; omega) (by show (_:Nat) ≠ _; omega) c2),⟨x,y,sb.extBut _ _ (nz _ (by omega)) cO⟩,s1.1.extBut sb.extBut (nz _ (by omega)),s2.1.extBut sb.extBut (nz _ (by omega))⟩
 done:=by
  intro X hP hw hK hc i pins s σ H E I hf st hg
  subst hP hw hK
  obtain ⟨xs,ys,hx,hy,l⟩:=hg
  obtain ⟨its,r1,tx,_⟩:=I.list hx
  obtain ⟨its',r2,ty,_⟩:=I.list hy
  have e1:=r1.length
  have e2:=r2.length
  obtain ⟨c1,c2,⟨x0,y0,c3⟩,c4,c5⟩:=st
  have hh:X.A.in1.handled=none:=I.ok.hd hc
  refine zipPyStop (Draws.list hh n a (by show (_:Nat) ≠ _; omega) its.toArray) (Draws.list hh (n+1) b (by show (_:Nat) ≠ _; omega) its'.toArray) (ap_new ha hb) c1 c2 c3 ⟨c4,isList_of tx⟩ ⟨c5,isList_of ty⟩ (by rw [List.size_toArray,List.size_toArray]; omega) fun g t' kp=>⟨rfl,I.turnedL (ch:=[n+4,n+2,n+3,n,n+1]) (fun c o hc' e => ?_) hf⟩
  have hn : ∀ d ∈ [n+4,n+2,n+3,n,n+1],c ≠ d:=fun d hd z=>hc' (by rw [z]; exact hd)
  exact kp c o (hn _ (by simp)) (hn _ (by simp)) (hn _ (by simp)) (hn _ (by simp)) e
 self:=fun _ _ _ _ _ st h=>wpAny_pyIter_zip st.1 h
abbrev xo1 (h:Heap)(a:Addr):Heap:=h.push { cls:=.type "list_iterator",data:=.fields #[.ref a,.int 0 0] }
abbrev xo2 (h:Heap)(a b:Addr):Heap:=(xo1 h a).push { cls:=.type "list_iterator",data:=.fields #[.ref b,.int 0 0] }
abbrev xo3 (h:Heap)(a b:Addr):Heap:=(xo2 h a b).push { cls:=.type "tuple",data:=.seq #[.ref h.objs.size,.ref (xo1 h a).objs.size] }
abbrev xo4 (h:Heap)(a b:Addr):Heap:=(xo3 h a b).push { cls:=.type "tuple",data:=.seq #[.none,.none] }
abbrev xo5 (h:Heap)(a b:Addr):Heap:=(xo4 h a b).push { cls:=.type "zip",data:=.fields #[.none,.bool false,.bool false,.ref (xo2 h a b).objs.size,.ref (xo3 h a b).objs.size] }
theorem zipMade3 (a b:Addr)(xs ys:Array Value):Meets (Builtin.«zip.__new__» ⟨[.type "zip",.ref a,.ref b],[]⟩) (fun _ R s=>s.heap.IsList a xs/\s.heap.IsList b ys/\R (.ok (.ret (.ref (xo4 s.heap a b).objs.size))) { s with heap:=xo5 s.heap a b }):=.of_wp fun prog w A R s h=>by
 obtain ⟨hp,g,d,tk,os⟩:=s
 obtain ⟨q1,q2,q⟩:=h
 have hsub:=sub_zip
 have u1:Heap.IsList (Shared.heap ⟨hp,g,d,tk,os⟩) a xs:=q1
 have u2:Heap.IsList (Shared.heap ⟨hp.push { cls:=.type "list_iterator",data:=.fields #[.ref a,.int 0 0] },g,d,tk,os⟩) b ys:=Heap.IsList.push q2 _
 wp_walk using wpAny_pyIter_list u1,wpAny_pyIter_list u2
 exact ⟨_,rfl,q⟩
theorem call_zipLL {prog:Program}{w:World}{A:Around}{E:Value->Shared->Prop}{s:Shared}{a b:Addr}{xs ys:Array Value}{Q:Value->Shared->Prop}(q1:s.heap.IsList a xs)(q2:s.heap.IsList b ys)
  (q : ∀ g,ZipSt3 s.heap.objs.size a b 0 g->(∀ c o,s.heap.get? c=some o->g.get? c=some o)->Q (.ref (s.heap.objs.size+4)) { s with heap:=g }):wpAny (model prog w) A (call (.type "zip") [.ref a,.ref b]) Q E s:=by
 refine callType_new F.called_zip (by decide) (F.typeCall_zip_2 _ _) (F.newCall_zip_2 _ _) (fun obj=>F.args_object_init_3 obj _ _) F.entry_zip_new (zipMade3 a b xs ys) ⟨q1,q2,?_⟩
 have z1:(xo1 s.heap a).objs.size=s.heap.objs.size+1:=Heap.size_push ..
 have z2:(xo2 s.heap a b).objs.size=s.heap.objs.size+2:=by rw [Heap.size_push,z1]
 have z3:(xo3 s.heap a b).objs.size=s.heap.objs.size+3:=by rw [Heap.size_push,z2]
 have z4:(xo4 s.heap a b).objs.size=s.heap.objs.size+4:=by rw [Heap.size_push,z3]
 have o5:(xo5 s.heap a b).get? (xo4 s.heap a b).objs.size=some _:=Heap.get?_push_size _ rfl
 have o4:(xo5 s.heap a b).get? (xo3 s.heap a b).objs.size=some _:=Heap.get?_push_of_some _ (Heap.get?_push_size _ rfl)
 have o3:(xo5 s.heap a b).get? (xo2 s.heap a b).objs.size=some _:=Heap.get?_push_of_some _ (Heap.get?_push_of_some _ (Heap.get?_push_size _ rfl))
 have o2:(xo5 s.heap a b).get? (xo1 s.heap a).objs.size=some _:=Heap.get?_push_of_some _ (Heap.get?_push_of_some _ (Heap.get?_push_of_some _ (Heap.get?_push_size _ rfl)))
 have o1:(xo5 s.heap a b).get? s.heap.objs.size=some _:=Heap.get?_push_of_some _ (Heap.get?_push_of_some _ (Heap.get?_push_of_some _ (Heap.get?_push_of_some _ (Heap.get?_push_size _ rfl))))
 rw [z2,z3,z4] at o5
 rw [z1,z2] at o3
 rw [z3] at o4
 rw [z1] at o2
 show _/\_
 rw [z4]
 exact ⟨⟨_,o5,rfl⟩,q _ ⟨o5,o3,⟨_,_,o4⟩,⟨_,o1,rfl,rfl⟩,⟨_,o2,rfl,rfl⟩⟩ fun c o x=>Heap.get?_push_of_some _ (Heap.get?_push_of_some _ (Heap.get?_push_of_some _ (Heap.get?_push_of_some _ (Heap.get?_push_of_some _ x))))⟩
def iZip3 (K:PySem.W.Frag)(ta:TA):TI:=fun σ H R=>ta σ H fun vs H1=>∃ a b,vs=[.ref a,.ref b]/\(∃ xs,SqL K H1 a xs)/\(∃ ys,SqL K H1 b ys)/\R (Itz3 K a b) H1
theorem pi_zip3 {X:Cx}{es:List Expr}{k1:Nat}{p1:Pos}{e1 e2:Expr}{ta:TA}{p pos:Pos}(hg:Gl X "zip")(hm:X.mg "zip" = none)(ha:PA X [e1,e2] ta)(hs:starEach [e1,e2] X.env=[(false,eval e1 X.env),(false,eval e2 X.env)]:=by rfl)(hs2:starEach [e2] X.env=[(false,eval e2 X.env)]:=by rfl) :
  PI X (.Tuple es k1 p1) (.Call (.Name "zip" p) [e1,e2] [] pos) (iZip3 X.K ta):=by
 intro pins s σ H R I h
 refine Call_ (ld_blt I hg hm bt_zip (PyProof.Rows.callWith_type1 (thn (ha pos pins s σ H _ I h) fun us s1 ⟨vs,H1,I1,r1,q1⟩ => ?_) (by rw [hs,hs2]) (by rw [hs2]; rfl)))
 obtain ⟨a,b,rfl,⟨xs,hx⟩,⟨ys,hy⟩,q⟩:=q1
 cases r1 with
 | cons r rr =>
  cases rr with
  | cons r' rr =>
   cases rr
   cases r
   cases r'
   obtain ⟨its,_,tx,_⟩:=I1.list hx
   obtain ⟨its',_,ty,_⟩:=I1.list hy
   have la:a < s1.heap.objs.size:=by obtain ⟨o,e,_⟩:=isList_of tx; exact Heap.lt_size e
   have lb:b < s1.heap.objs.size:=by obtain ⟨o,e,_⟩:=isList_of ty; exact Heap.lt_size e
   refine call_zipLL (isList_of tx) (isList_of ty) fun g st kp=>wpAny_pyIter_zip st.1 ?_
   have I2:Inv X pins σ H1 { s1 with heap:=g }:=I1.kept (t':=s1.toks) kp
   refine ⟨s1.heap.objs.size+4,_,_,_,H1,rfl,I2,turn_zip3 la lb,st,fun c hc => ?_,q⟩
   refine I1.fpOk ?_ (I1.hok.fresh ?_)
   all_goals
    have hc':c=s1.heap.objs.size+4\/c=s1.heap.objs.size+2\/c=s1.heap.objs.size+3\/c=s1.heap.objs.size\/c=s1.heap.objs.size+1:=by simpa using hc
    rcases hc' with e | e | e | e | e <;> (subst e; omega)
theorem for_zip3 {K:PySem.W.Frag}{a b:Addr}{xs ys:List V}{g:TG}{tb:TS}{D:Ends}{σ:St}{H:Hp}(Pv:Nat->St->Hp->Prop)(h0:Pv 0 σ H)(hl : ∀ i σ H,i<=xs.length->Pv i σ H->SqL K H a xs/\SqL K H b ys)(hn:xs.length=ys.length)
  (hs : ∀ i x y T σ H,xs[i]?=some x->ys[i]?=some y->H T=none->Pv i σ H->g (.ref T) σ (upd H T (.tup [x,y])) fun σ2 H2=>tb { D with nx:=Pv (i+1),ct:=Pv (i+1),bk:=D.nx } σ2 H2) (hd : ∀ σ H,Pv xs.length σ H->D.nx σ H) :
  ∃ W:Nat->Nat->St->Hp->Prop,(∃ m,W 0 m σ H)/\∀ i m σ H,W i m σ H ->
   ((Itz3 K a b).stop i H/\D.nx σ H)\/((Itz3 K a b).go i H/\∃ N:St->Hp->Prop,(∀ σ' H',N σ' H'->∃ m',m' < m/\W (i+1) m' σ' H')/\∀ v H',(Itz3 K a b).yld i H v H'->g v σ H' fun σ2 H2=>tb { D with nx:=N,ct:=N,bk:=D.nx } σ2 H2):=by
 refine ⟨fun i m σ H=>m=xs.length - i/\i<=xs.length/\Pv i σ H,⟨xs.length,by simp,Nat.zero_le _,h0⟩,?_⟩
 rintro i m σ H ⟨rfl,hi,p⟩
 obtain ⟨q1,q2⟩:=hl i σ H hi p
 by_cases hlt:i < xs.length
 ·refine .inr ⟨⟨xs,ys,q1,q2,hlt,by omega⟩,Pv (i+1),fun σ' H' p'=>⟨xs.length - (i+1),by omega,rfl,hlt,p'⟩,fun v H' y => ?_⟩
  obtain ⟨T,hT,rfl,y⟩:=y
  obtain ⟨x',y',e1,e2,rfl⟩:=y xs ys q1 q2
  exact hs i x' y' T σ H e1 e2 hT p
 ·have e:i=xs.length:=by omega
  subst e
  exact .inl ⟨⟨xs,ys,q1,q2,.inl rfl⟩,hd σ H p⟩
end L2
namespace K76
open PySem PySem.Spec PyProof.Rows L2 GM TM
abbrev sLcalled:Stmt:=top 53
def spLcalled (C:Addr):Sp:=fun vs H Q _=>∃ L p dl dt db bs kvs day bf M n a hd kd ls dd big F today zi X tl ds ts hs,∃ u:Th,vs=[.ref p,.ref a,.ref tl,.str u.x]/\PS C H L p dl dt db bs kvs day bf M n (zi.map (·.1))/\LG H a hd kd ls dd big F today n ds zi/\LT H X a hd kd ls dd tl big F today ds ts hs/\WOk hs (zi.map (·.1))/\u ∈ zi.map (·.1)/\u.k = "lot" /\
 ∀ H',Same H H'->Q (.bl true) H'
theorem ref_int {cs:List Addr}{ns:List Int}{c:Addr}(hc:c ∈ cs)(h:cs.map V.ref=ns.map V.int):False:=by
 cases cs with
 | nil=>cases hc
 | cons d cs =>
  cases ns with
  | nil=>cases h
  | cons n ns=>cases h
section
variable {P:Program}{w:World}{K:PySem.W.Frag}{mg:Str->Option Value}{base:Heap}
abbrev NLcd:List Str:=["_law_books","_law_here","_law_totals_here","_law_lot","_law_doses","_law_due","_law_found","_law_pair","_law_name","_law_again","_law_row_here"]
theorem ndE1:(["_law_name","_law_here"]:List Str).Nodup:=by decide +kernel
theorem ndE2:(["_law_name","_law_lot","_law_here"]:List Str).Nodup:=by decide +kernel
theorem ndE3:(["_law_pair"]:List Str).Nodup:=by decide +kernel
theorem scLcalled:FnScope NLcd ["_law_books","_law_here","_law_totals_here","_law_lot"] (defScope sLcalled):=⟨rfl,rfl,rfl,by decide +kernel,rfl,by decide +kernel,by decide +kernel⟩
theorem ok_lcalled {f C:Addr}{fd:FuncData}(F:Fun K "_law_called" "_law_called" sLcalled f fd)(T:Txt mg)(L:Cl K mg C)(cR:Cal P w K mg base CX0 4 "_law_row" ["_law_here","_law_totals_here","_law_lot","_law_name","_law_row_here"] spLrow)(mC:MCal P w K mg base CX0 4 C "called" ["self","lot"] (spCalled C)):FnOk P w K mg base CX0 5 f fd ["_law_books","_law_here","_law_totals_here","_law_lot"] (spLcalled C):=by
 refine F.ok scLcalled (fun vs H Q E h => ?_) (fun cdv A outer s0 H vs Q E hr h => ?_)
 ·obtain ⟨_,_,_,_,_,_,_,_,_,_,_,_,_,_,_,_,_,_,_,_,_,_,_,_,_,_,rfl,_⟩:=h
  rfl
 ·obtain ⟨ad,p,dl,dt,db,bs,kvs,day,bf,M,n,a,hd,kd,ls,dd,big,Fn,today,zi,X,tl,ds,ts,hs,u,rfl,B,G,LT0,W,hu,uk,k⟩:=h
  refine ⟨_,(pss_cons (ps_compC (iy:=4) (N':=["_law_name","_law_here"]) (fun σ=>[none,some 1].map fun t=>t.bind fun j=>(σ[j]?).join) rfl rfl (by decide +kernel) (by decide +kernel)
     (hk_of (sc:=defScope sLcalled) rfl (by decide +kernel)) (fun _ _ _=>blkN_by (sc:=defScope sLcalled) (N:=NLcd) [none,some 1] rfl rfl rfl rfl (by decide +kernel))
     (pi_list (pe_callB (call_sortDS rfl) rfl T.sorted' boot_sorted (pa_cons (pe_dget (hu_of hr) (pv 1) pe_str (fun _ _=>rfl)) pa_nil))) (fun _ _ _ _ _ _=>pg_name (i:=0) ndE1 rfl (Or.inl rfl))
     (fun _ _ _ _ _ _=>pifs_one (pt_cmpR op_eq (pe_dget (hu_of hr) (pe_dget (hu_of hr) (pv 1) pe_str (fun _ _=>rfl)) (pv 0) (fun _ _=>rfl)) pe_str (nomark _)))
     (fun _ _ _ _ _ _=>pv 0) scLcalled.nd rfl (Or.inl rfl) (Or.inr rfl) rfl)
   (pss_cons (ps_compC (iy:=5) (N':=["_law_name","_law_lot","_law_here"]) (fun σ=>[none,some 3,some 1].map fun t=>t.bind fun j=>(σ[j]?).join) rfl rfl (by decide +kernel) (by decide +kernel)
     (hk_of (sc:=defScope sLcalled) rfl (by decide +kernel)) (fun _ _ _=>blkN_by (sc:=defScope sLcalled) (N:=NLcd) [none,some 3,some 1] rfl rfl rfl rfl (by decide +kernel))
     (pi_list (pv 4)) (fun _ _ _ _ _ _=>pg_name (i:=0) ndE2 rfl (Or.inl rfl))
     (fun _ _ _ _ _ _=>pifs_one (pt_cmp (pc_din (hu_of hr) (pv 1) (pe_dget (hu_of hr) (pe_dget (hu_of hr) (pv 2) pe_str (fun _ _=>rfl)) (pv 0) (fun _ _=>rfl)))))
     (fun _ _ _ _ _ _=>pv 0) scLcalled.nd rfl (Or.inl rfl) (Or.inr rfl) rfl)
   (pss_cons (ps_set (i:=6) scLcalled.nd rfl (Or.inl rfl) (pe_mc L.cl mC hr pass0 (pv 0) (pa_cons (pv 3) pa_nil)))
   (pss_cons (ps_if (PW.pt (pw_or (pt_not (pt_val (pe_callB call_isi rfl T.isi boot_isinstance (pa_cons (pv 6) (pa_cons (pe_bltn (v:=.ty "list") rfl T.list' bt_list rfl) pa_nil))))) (pw_or1 (pt_cmpR op_ne (pe_callB call_len_seq rfl T.len PySem.boot_len (pa_cons (pv 6) pa_nil)) (pe_callB call_len_seq rfl T.len PySem.boot_len (pa_cons (pv 5) pa_nil)) (nomark _)))))
    (pss_one (ps_ret pe_bl))
    pss_nil)
   (pss_cons (ps_for PassesOwn.never rfl (pi_zip3 rfl T.zip' (pa_cons (pv 6) (pa_cons (pv 5) pa_nil))) (pg_tup rfl (pgs_cons (pg_name (i:=7) scLcalled.nd rfl (Or.inl rfl)) (pgs_cons (pg_name (i:=8) scLcalled.nd rfl (Or.inl rfl)) pgs_nil)))
    (pss_cons (ps_if (PW.pt (pw_or (pt_not (pt_val (pe_callB call_isi rfl T.isi boot_isinstance (pa_cons (pv 7) (pa_cons (pe_bltn (v:=.ty "tuple") rfl T.tup' bt_tuple rfl) pa_nil))))) (pw_or (pt_cmpR op_ne (pe_callB call_len_seq rfl T.len PySem.boot_len (pa_cons (pv 7) pa_nil)) pe_int (nomark _)) (pw_or1 (pt_cmpR op_ne (pit 7 0) (pv 8) (nomark _))))))
     (pss_one (ps_ret pe_bl))
     pss_nil)
    (pss_one (ps_if (pt_not (pt_val (pe_cal cR hr rfl pass0 (pa_cons (pv 1) (pa_cons (pv 2) (pa_cons (pv 3) (pa_cons (pv 8) (pa_cons (pit 7 1) pa_nil))))))))
     (pss_one (ps_ret pe_bl))
     pss_nil))))
   (pss_cons (ps_for PassesOwn.never rfl (pi_list (pv 6)) (pg_name (i:=7) scLcalled.nd rfl (Or.inl rfl))
    (pss_one (ps_expr (pe_bm PySem.F.plainAttrs_list PySem.F.slot_list_append PySem.F.type_list_append mt_append (pit 7 1) (pa_cons (pe_un un_neg pe_int) pa_nil)))))
   (pss_cons (ps_expr (pe_bm PySem.F.plainAttrs_list PySem.F.slot_list_append PySem.F.type_list_append mt_append (pv 6) (pa_cons (pe_tup (pa_cons pe_str (pa_cons (pe_lst pa_nil) pa_nil))) pa_nil)))
   (pss_cons (ps_set (i:=9) scLcalled.nd rfl (Or.inl rfl) (pe_mc L.cl mC hr pass0 (pv 0) (pa_cons (pv 3) pa_nil)))
   (pss_cons (ps_if (pt_cmpR (op_neLs hr.units) (pe_comp (N':=["_law_pair"]) (cl:=[]) (fun _=>[none]) rfl rfl (by decide +kernel) (by decide +kernel) (clOk_plain (by decide +kernel)) (fun _ _=>blkN_none) (pi_list (pv 9)) (fun _ _ _ _ _=>pg_name (i:=0) ndE3 rfl (Or.inl rfl)) (fun _ _ _ _ _=>pifs_nil) (fun _ _ _ _ _=>pe_ix (ix_tupK (K:=K) rfl) (pv 0) pe_int (fun _ _=>rfl))) (pv 5) (nomark _))
    (pss_one (ps_ret pe_bl))
    pss_nil)
   (pss_cons (ps_for PassesOwn.never rfl (pi_list (pv 9)) (pg_tup rfl (pgs_cons (pg_name (i:=8) scLcalled.nd rfl (Or.inl rfl)) (pgs_cons (pg_name (i:=10) scLcalled.nd rfl (Or.inl rfl)) pgs_nil)))
    (pss_one (ps_if (pt_not (pt_val (pe_cal cR hr rfl pass0 (pa_cons (pv 1) (pa_cons (pv 2) (pa_cons (pv 3) (pa_cons (pv 8) (pa_cons (pv 10) pa_nil))))))))
     (pss_one (ps_ret pe_bl))
     pss_nil)))
   (pss_one (ps_ret pe_bl)))))))))))),?_⟩
  have nd:=G.g.nd
  have n60:=G.g.n60
  have zln:=G.g.ln
  rw [List.length_map] at zln
  have dkk:=keyK_dk nd
  have rowOf : ∀ {z:Th},z ∈ zi.map (fun e:Th × Addr=>e.1)->z.k = "dose" -> u.x ∈ z.ks->RowW hs u.x z.x (z.w u.x)/\u.x ≠ z.x:=fun {z} hz zk my=>⟨W z hz u.x my,fun q=>by
   rw [nd_eq nd hu hz q,zk] at uk
   exact absurd uk (by decide +kernel)⟩
  refine ⟨_,rfl,a,_,rfl,dg G.s.ha hk_kinds,kd,_,_,rfl,G.s.hk,dkk.keys,by rw [List.length_map]; omega,fun pn sn pm so hpn => ?_⟩
  have t1:=Same.upd (o:=.lst (sn.map V.str)) hpn
  have hp1:(upd H pn (.lst (sn.map V.str))) pn=some (.lst (sn.map V.str)):=upd_same
  have sl:=pm.length_eq
  rw [List.length_map,List.length_map] at sl
  generalize upd H pn (.lst (sn.map V.str))=H1 at t1 hp1 ⊢
  have G1:=G.same t1
  refine ⟨pn,rfl,⟨_,SqL.of hp1⟩,fun D1 hD1 => ?_⟩
  refine comp_pair (Ys.list (xs:=sn.map V.str) (SqL.of hp1)) sn (by rw [List.length_map]) (isDs (zi.map fun e:Th × Addr=>e.1)) (fun r y _=>y=V.str r) (fun _ _ _ _ h _=>h) hD1 (by rw [List.length_map]; omega) (fun i x r H' R1 R2 hx hr' sm h1 h2 => ?_) (fun ys H2 sm hD2 pr => ?_)
  ·rw [List.getElem?_map,hr'] at hx
   cases hx
   obtain ⟨z,hz,rfl⟩:=List.mem_map.mp (pm.mem_iff.mp (List.mem_of_getElem? hr'))
   obtain ⟨e,he,rfl⟩:=List.mem_map.mp hz
   have G2:=G1.same sm
   refine ⟨(Keep.refl _).set rfl,_,rfl,a,_,rfl,dg G2.s.ha hk_kinds,_,rfl,kd,_,rfl,dg G2.s.hk (LS.getK nd he),rfl,_,rfl,?_⟩
   have ed:decide (V.str e.1.k=V.str "dose")=isDs (zi.map fun e:Th × Addr=>e.1) e.1.x:=by
    rw [isDs_of nd hz]
    by_cases q:e.1.k = "dose"
    ·rw [decide_eq_true q,decide_eq_true (by rw [q])]
    ·rw [decide_eq_false q,decide_eq_false (fun y=>q (V.str.inj y))]
   rw [ed]
   cases hd':isDs (zi.map fun e:Th × Addr=>e.1) e.1.x with
   | true=>exact iteT ⟨_,rfl,h1 hd' _ _ (Same.refl _) rfl⟩
   | false=>exact iteF (h2 hd' _ (Same.refl _))
  have ey:=strs_eq pr
  subst ey
  have s02:=t1.trans sm
  have G2:=G.same s02
  have fl:(sn.filter (isDs (zi.map fun e:Th × Addr=>e.1))).length<=sn.length:=List.length_filter_le _ _
  refine ⟨_,rfl,D1,rfl,⟨_,SqL.of hD2⟩,fun D2 hD2n => ?_⟩
  refine comp_pair (Ys.list (xs:=(sn.filter (isDs (zi.map fun e:Th × Addr=>e.1))).map V.str) (SqL.of hD2)) (sn.filter (isDs (zi.map fun e:Th × Addr=>e.1))) (by rw [List.length_map]) (hasY (zi.map fun e:Th × Addr=>e.1) u.x) (fun r y _=>y=V.str r) (fun _ _ _ _ h _=>h) hD2n (by rw [List.length_map]; omega) (fun i x r H' R1 R2 hx hr' sm2 h1 h2 => ?_) (fun ys H3 sm2 hD3 pr2 => ?_)
  ·rw [List.getElem?_map,hr'] at hx
   cases hx
   obtain ⟨z,hz,rfl⟩:=List.mem_map.mp (pm.mem_iff.mp (List.mem_filter.mp (List.mem_of_getElem? hr')).1)
   obtain ⟨e,he,rfl⟩:=List.mem_map.mp hz
   have G3:=G2.same sm2
   obtain ⟨kv,ks,e1,hi,mem⟩:=G3.s.inn e he
   have hm:(valV kv (.inr u.x)).isSome=hasY (zi.map fun e:Th × Addr=>e.1) u.x e.1.x:=by
    rw [hasY_of nd hz]
    by_cases q:u.x ∈ e.1.ks
    ·rw [decide_eq_true q,hi.v u.x ((mem _).mpr q)]
     rfl
    ·rw [decide_eq_false q,dk_non hi.dk (fun y=>q ((mem _).mp y))]
     rfl
   refine ⟨(Keep.refl _).set rfl,_,rfl,_,rfl,a,_,rfl,dg G3.s.ha hk_held,_,rfl,hd,_,rfl,dg G3.s.hh (LS.getX nd he),e.2,_,rfl,DGet.k (k:=.inr u.x) e1,?_⟩
   rw [hm]
   cases hy:hasY (zi.map fun e:Th × Addr=>e.1) u.x e.1.x with
   | true=>exact ⟨_,rfl,iteT ⟨_,rfl,h1 hy _ _ (Same.refl _) rfl⟩⟩
   | false=>exact ⟨_,rfl,iteF (h2 hy _ (Same.refl _))⟩
  have ey:=strs_eq pr2
  subst ey
  have s03:=s02.trans sm2
  have B3:=B.keep s03
  clear pr pr2 hD2n hD1 hpn G1 hp1 hD2
  have duel:((sn.filter (isDs (zi.map fun e:Th × Addr=>e.1))).filter (hasY (zi.map fun e:Th × Addr=>e.1) u.x)).length<=sn.length:=Nat.le_trans (List.length_filter_le _ _) fl
  generalize hdue:(sn.filter (isDs (zi.map fun e:Th × Addr=>e.1))).filter (hasY (zi.map fun e:Th × Addr=>e.1) u.x)=due at hD3 duel
  have dueOf : ∀ {sn':List Str},sn'.Perm ((zi.map fun e:Th × Addr=>e.1).map Th.x)->sortedS sn'=true->(sn'.filter (isDs (zi.map fun e:Th × Addr=>e.1))).filter (hasY (zi.map fun e:Th × Addr=>e.1) u.x)=due:=fun {sn'} pm' so'=>by
   rw [<- hdue,sorted_uniq (pm'.trans pm.symm) so' so]
  obtain ⟨⟨dx3,h03⟩,_⟩:=id B3.bk
  refine ⟨_,rfl,p,dx3,_,rfl,h03,(by kernel_rfl),_,rfl,ad,p,dl,dt,db,bs,kvs,day,bf,M,n,_,u,rfl,B3,hu,uk,fun D cs sn' H4 s4 nD hD pm' so' pr => ?_⟩
  rw [dueOf pm' so'] at pr
  have cl:=paired_len pr
  have s04:=s03.trans s4
  have hdue4:=s4 _ _ hD3
  refine ⟨_,rfl,_,"list",true,rfl,.lst_list (SqL.of hD),_,rfl,iteF ⟨_,rfl,D,_,rfl,.inl (SqL.of hD),_,rfl,D2,_,rfl,.inl (SqL.of hdue4),rfl,_,rfl,?_⟩⟩
  rw [show (!decide (V.int (((cs.map V.ref).length:Nat):Int)=V.int (((due.map V.str).length:Nat):Int)))=false by rw [List.length_map,List.length_map,cl]; simp]
  refine iteF ⟨_,rfl,_,rfl,D,D2,rfl,⟨_,SqL.of hD⟩,⟨_,SqL.of hdue4⟩,?_⟩
  refine for_zip3 (xs:=cs.map V.ref) (ys:=due.map V.str) (fun i σ H'=>∃ v7 v8:Option V,σ=[some (.ref p),some (.ref a),some (.ref tl),some (.str u.x),some (.ref D1),some (.ref D2),some (.ref D),v7,v8,none,none]/\Same H4 H') ⟨none,none,rfl,Same.refl _⟩ (fun i σ H' _ hh=>by obtain ⟨_,_,_,sm⟩:=hh; exact ⟨SqL.of (sm _ _ hD),SqL.of (sm _ _ hdue4)⟩) (by rw [List.length_map,List.length_map]; exact cl) ?_ ?_
  ·rintro i x y T' σ H5 hx hy nT hh
   obtain ⟨v7,v8,rfl,sm5⟩:=hh
   rw [List.getElem?_map] at hx hy
   obtain ⟨c,hc,rfl⟩:=Option.map_eq_some_iff.mp hx
   obtain ⟨s,hs',rfl⟩:=Option.map_eq_some_iff.mp hy
   obtain ⟨s',hs'',l,z,r1,r2,r3,r4,r5,r6,r7,r8⟩:=paired_get pr hc
   rw [hs'] at hs''
   cases hs''
   subst r2
   have sT:=Same.upd (o:=.tup [.ref c,.str z.x]) nT
   have s5:=sm5.trans sT
   refine ⟨T',_,rfl,SqT.of upd_same,rfl,_,_,rfl,_,_,rfl,rfl,?_⟩
   generalize upd H5 T' (.tup [.ref c,.str z.x])=H6 at s5 sT ⊢
   have S1:=SqT.of (K:=K) (s5 _ _ r5)
   obtain ⟨rw1,rw2⟩:=rowOf r1 r4 r3
   refine ⟨_,rfl,.ref c,"tuple",true,rfl,.tup_tuple S1,_,rfl,iteF ⟨_,rfl,c,_,rfl,.inr S1,rfl,_,rfl,iteF ⟨c,_,_,rfl,S1,rfl,_,rfl,rfl,_,rfl,?_⟩⟩⟩
   rw [show (!decide (V.str z.x=V.str z.x))=false by simp]
   refine iteF ⟨_,rfl,_,rfl,_,rfl,_,rfl,c,_,_,rfl,S1,rfl,X,a,hd,kd,ls,dd,tl,big,Fn,today,ds,ts,hs,l,u.x,z.x,z.w u.x,rfl,LT0.same (s04.trans s5),s5 _ _ r6,r8,rw1,rw2,fun H7 s7=>⟨_,rfl,iteF ⟨_,_,rfl,s5.trans s7⟩⟩⟩
  ·rintro σ H5 hh
   obtain ⟨v7,v8,rfl,sm5⟩:=hh
   have s05:=s04.trans sm5
   have s35:=s4.trans sm5
   have hD5:=sm5 _ _ hD
   refine ⟨_,rfl,D,rfl,⟨_,SqL.of hD5⟩,?_⟩
   refine for_list (xs:=cs.map V.ref) (fun i σ H'=>∃ v7:Option V,σ=[some (.ref p),some (.ref a),some (.ref tl),some (.str u.x),some (.ref D1),some (.ref D2),some (.ref D),v7,v8,none,none]/\Same H3 H'/\H' D=some (.lst (cs.map V.ref))/\∀ c ∈ cs,∃ (s:Str) (l:Addr) (xs:List V),H' c=some (.tup [.str s,.ref l])/\H' l=some (.lst xs)/\H3 l=none/\l ≠ D/\xs.length<=60+i)
    ⟨_,rfl,s35,hD5,fun c hc => ?_⟩ (fun i σ H' _ hh=>by obtain ⟨_,_,_,q,_⟩:=hh; exact SqL.of q) ?_ ?_
   ·obtain ⟨j,hj⟩:=List.mem_iff_getElem?.mp hc
    obtain ⟨s,_,l,z,r1,r2,r3,r4,r5,r6,r7,r8⟩:=paired_get pr hj
    exact ⟨s,l,_,sm5 _ _ r5,sm5 _ _ r6,r7,fun q=>by rw [q,hD] at r6; exact ref_int hc (HO.lst.inj (Option.some.inj r6)),by rw [List.length_map]; omega⟩
   ·rintro i v σ H6 hv hh
    obtain ⟨v7',rfl,s6,hD6,al⟩:=hh
    rw [List.getElem?_map] at hv
    obtain ⟨c,hc,rfl⟩:=Option.map_eq_some_iff.mp hv
    have hi:=(List.getElem?_eq_some_iff.mp hc).1
    obtain ⟨s,l,xs,r1,r2,r3,r4,r5⟩:=al c (List.mem_of_getElem? hc)
    refine ⟨c,_,_,rfl,SqT.of r1,rfl,.inl ⟨rfl,_,SqL.of r2⟩,_,rfl,l,_,_,rfl,rfl,r2,small1000 (by omega),?_⟩
    refine ⟨_,rfl,same_own s6 r3,by rw [upd_ne (Ne.symm r4)]; exact hD6,fun c' hc' => ?_⟩
    obtain ⟨s',l',xs',q1,q2,q3,q4,q5⟩:=al c' hc'
    have tk:Tk H6 (upd H6 l (.lst (xs ++ [V.int (-1)]))):=Tk.lst r2
    by_cases z:l'=l
    ·subst z
     exact ⟨s',l',_,tk _ _ q1,upd_same,q3,q4,by rw [List.length_append]; show xs.length+1<=60+(i+1); omega⟩
    ·exact ⟨s',l',xs',tk _ _ q1,by rw [upd_ne z]; exact q2,q3,q4,by omega⟩
   ·rintro σ H6 hh
    obtain ⟨v7',rfl,s6,hD6,_⟩:=hh
    refine ⟨_,rfl,.inl ⟨rfl,_,SqL.of hD6⟩,(by show 0<=sizeLine; decide),fun z1 hz1=>⟨(by show 2<=sizeLine; decide),fun z2 hz2 => ?_⟩⟩
    have t7:=Same.upd (o:=.lst []) hz1
    have t8:=Same.upd (o:=.tup [.str "zz",.ref z1]) hz2
    have hD8:=t8 _ _ (t7 _ _ hD6)
    refine ⟨D,_,_,rfl,rfl,hD8,small1000 (by rw [List.length_map]; omega),?_⟩
    have s9:Same H3 (upd (upd (upd H6 z1 (.lst [])) z2 (.tup [.str "zz",.ref z1])) D (.lst (cs.map V.ref ++ [.ref z2]))):=same_own (s6.trans (t7.trans t8)) nD
    generalize upd (upd (upd H6 z1 (.lst [])) z2 (.tup [.str "zz",.ref z1])) D (.lst (cs.map V.ref ++ [.ref z2]))=H9 at s9 ⊢
    have s09:=s03.trans s9
    have B9:=B.keep s09
    have hdue9:=s9 _ _ hD3
    obtain ⟨⟨dx9,h09⟩,_⟩:=id B9.bk
    refine ⟨_,rfl,p,dx9,_,rfl,h09,(by kernel_rfl),_,rfl,ad,p,dl,dt,db,bs,kvs,day,bf,M,n,_,u,rfl,B9,hu,uk,fun E cs2 sn2 Ha sa nE hE pm2 so2 pr2 => ?_⟩
    rw [dueOf pm2 so2] at pr2
    have cl2:=paired_len pr2
    refine ⟨_,rfl,E,rfl,⟨_,SqL.of hE⟩,fun D4 hD4 => ?_⟩
    refine comp_rel (Ys.list (xs:=cs2.map V.ref) (SqL.of hE)) (fun j _ y _=>∃ s,due[j]?=some s/\y = .str s) (fun _ _ _ _ _ h _=>h) hD4 (by rw [List.length_map]; omega) (fun i y H' R' hy smb hR => ?_) (fun ys Hb smb hDb yl hy => ?_)
    ·rw [List.getElem?_map] at hy
     obtain ⟨c,hc,rfl⟩:=Option.map_eq_some_iff.mp hy
     obtain ⟨s,hs',l,z,_,_,_,_,r5,_⟩:=paired_get pr2 hc
     exact ⟨(Keep.refl _).set rfl,_,rfl,c,_,_,_,rfl,rfl,SqT.of (smb _ _ r5),rfl,hR _ _ (Same.refl _) ⟨s,hs',rfl⟩⟩
    ·have ey:ys=due.map V.str:=List.ext_getElem? fun j=>by
      rw [List.length_map] at yl
      rw [List.getElem?_map]
      cases hj:ys[j]? with
      | none =>
       have:due[j]?=none:=List.getElem?_eq_none (by have:=List.getElem?_eq_none_iff.mp hj; omega)
       rw [this]; rfl
      | some y =>
       have jl:=(List.getElem?_eq_some_iff.mp hj).1
       obtain ⟨s,hs',rfl⟩:=hy j (.ref cs2[j]) y (by rw [List.getElem?_map,List.getElem?_eq_getElem (by omega)]; rfl) hj
       rw [hs']; rfl
     subst ey
     have s9b:=sa.trans smb
     have hdueb:=s9b _ _ hdue9
     refine ⟨_,rfl,D4,D2,_,rfl,rfl,SqL.of hDb,SqL.of hdueb,(fun v hv=>by obtain ⟨s,_,rfl⟩:=List.mem_map.mp hv; exact .inl rfl),_,rfl,iteF ?_⟩
     have hEb:=smb _ _ hE
     refine ⟨_,rfl,E,rfl,⟨_,SqL.of hEb⟩,?_⟩
     refine for_list (xs:=cs2.map V.ref) (fun i σ H'=>∃ v8 v10:Option V,σ=[some (.ref p),some (.ref a),some (.ref tl),some (.str u.x),some (.ref D1),some (.ref D2),some (.ref D),v7',v8,some (.ref E),v10]/\Same Hb H') ⟨_,_,rfl,Same.refl _⟩ (fun i σ H' _ hh=>by obtain ⟨_,_,_,q⟩:=hh; exact SqL.of (q _ _ hEb)) ?_ ?_
     ·rintro i v σ Hc hv hh
      obtain ⟨v8',v10,rfl,smc⟩:=hh
      rw [List.getElem?_map] at hv
      obtain ⟨c,hc,rfl⟩:=Option.map_eq_some_iff.mp hv
      obtain ⟨s,hs',l,z,r1,r2,r3,r4,r5,r6,r7,r8⟩:=paired_get pr2 hc
      subst r2
      obtain ⟨rw1,rw2⟩:=rowOf r1 r4 r3
      have sac:=smb.trans smc
      refine ⟨c,_,rfl,SqT.of (sac _ _ r5),rfl,_,_,rfl,_,_,rfl,rfl,?_⟩
      exact ⟨_,rfl,_,rfl,_,rfl,_,rfl,_,rfl,X,a,hd,kd,ls,dd,tl,big,Fn,today,ds,ts,hs,l,u.x,z.x,z.w u.x,rfl,LT0.same ((s09.trans sa).trans sac),sac _ _ r6,r8,rw1,rw2,fun Hd sd=>⟨_,rfl,iteF ⟨_,_,rfl,smc.trans sd⟩⟩⟩
     ·rintro σ Hc hh
      obtain ⟨v8',v10,rfl,smc⟩:=hh
      exact k _ ((s09.trans s9b).trans smc)
end
end K76
namespace L2
open PySem PySem.Spec PyProof.Rows
def Itr3 (lo c:Int)(n:Nat):It:=⟨fun i _=>i < n,fun i H x H'=>H'=H/\x = .int (lo+(i:Nat)*c),fun i _=>n<=i⟩
def iRng3 (ta:TA):TI:=fun σ H R=>ta σ H fun vs H1=>∃ i j c:Int,vs=[.int i,.int j,.int c]/\(-(2 ^ 20)<=i/\i<=2 ^ 20 /\ -(2 ^ 20)<=j/\j<=2 ^ 20/\0 < c/\c<=2 ^ 20)/\R (Itr3 i c (if i < j then (j - i - 1) / c+1 else 0).toNat) H1
end L2
namespace SX
open PySem PySem.Spec PyProof.Rows
def byT (w:World):Bool:=w.params.followText "set-order"
def kv:Value->Str
 | .str x _=>x
 | _=>⟨#[]⟩
def setO (es:Array (Int × Value))(ep:Nat)(t:SetTable):Obj:={ cls:=.type "set",dict:=none,data:=.set es ep t,slots := #[] }
structure SetS (P:Program)(w:World)(h:Heap)(a:Addr)(ks:List Str):Prop where
 ex : ∃ es ep t,h.get? a=some (setO es ep t)/\ElemsOf (strKind P w) es.toList/\t.fits es.size=true/\t.led=(!byT w)/\(t.plain=false\/es.size=0)/\(es.toList.map fun e=>kv e.2).Perm ks
 nd:ks.Nodup
 lt:ks.length < scanBound
def dd (ks:List Str)(x:Str):List Str:=if x ∈ ks then ks else ks ++ [x]
def ddl (ss:List Str):List Str:=ss.foldl dd []
section
variable {P:Program}{w:World}{A:Around}{E:Value->Shared->Prop}{s:Shared}
end
end SX
namespace SX
open PySem PySem.Spec PyProof.Rows
section
variable {P:Program}{w:World}{A:Around}{R:Result->Shared->Prop}{I:Addr}{fp wr:List Addr}{G:Array GenState->Array GenState->Prop}{n:Nat}{Pr:Nat->Value->Prop}{St:Nat->Shared->Prop}
end
section
variable {P:Program}{w:World}{A:Around}{E:Value->Shared->Prop}{s:Shared}
abbrev nuSet (w:World):Obj:=setO #[] 0 (.fresh 0 0 (!byT w))
end
end SX
namespace SX
open PySem PySem.Spec PyProof.Rows
def itO (f:Value)(i:Int)(n ep:Nat)(a:Addr):Obj:={ cls:=.type "set_iterator",dict:=none,data:=.fields #[f,.int i 0,.ref a,.int n 0,.int ep 0],slots := #[] }
section
variable {P:Program}{w:World}{A:Around}{E:Value->Shared->Prop}{s:Shared}
end
end SX
namespace SX
open PySem PySem.Spec PyProof.Rows
abbrev IP (ord:List Value)(i:Nat)(v:Value):Prop:=ord[i]?=some v
section
variable {P:Program}{w:World}{A:Around}{E:Value->Shared->Prop}{s:Shared}{a I:Addr}{es:Array (Int × Value)}{ep:Nat}{t:SetTable}
end
end SX
namespace SX
open PySem PySem.Spec PyProof.Rows
section
variable {P:Program}{w:World}{A:Around}{E:Value->Shared->Prop}{s:Shared}{a I:Addr}{es:Array (Int × Value)}{ep:Nat}{t:SetTable}
end
end SX
namespace SX
open PySem PySem.Spec PyProof.Rows
section
variable {P:Program}{w:World}{A:Around}{E:Value->Shared->Prop}{s:Shared}{a:Addr}{ks:List Str}
end
end SX
namespace L2
open PySem PySem.Spec PyProof.Rows
abbrev SetT (X:Cx)(a:Addr)(ks:List Str):HO:=.ext fun h=>SX.SetS X.prog X.w h a ks
section
variable {X:Cx}
def rSetS (X:Cx):List V->Hp->VK->Prop:=fun xs H Q=>∃ a,∃ ss:List Str,xs=[.ref a]/\SqL X.K H a (ss.map V.str)/\ss.length < 1000/\∀ p,H p=none->Q (.ref p) (upd H p (SetT X p (SX.ddl ss)))
def rSortSet (X:Cx):List V->Hp->VK->Prop:=fun xs H Q=>∃ a,∃ ks:List Str,xs=[.ref a]/\H a=some (SetT X a ks)/\ks.length < 64/\∀ (p:Addr) (ss':List Str),ss'.Perm ks->sortedS ss'=true->H p=none->Q (.ref p) (upd H p (.lst (ss'.map V.str)))
end
end L2
namespace L2
open PySem PySem.Spec PyProof.Rows
structure PSX (X:Cx)(st:Stmt)(t:TS):Prop where
 h:PS X st t
structure PSB (X:Cx)(l:List Stmt)(t:TS):Prop where
 h:PSs X l t
theorem psb_of {X:Cx}{l:List Stmt}{t:TS}(h:PSs X l t):PSB X l t:=⟨h⟩
theorem psb_cons {X:Cx}{st:Stmt}{t u:TS}{rest:List Stmt}(h1:PSX X st t)(h2:PSB X rest u):PSB X (st :: rest) (tSeq t u):=⟨pss_cons h1.h h2.h⟩
end L2
namespace L2
open PySem PySem.Spec PyProof.Rows
structure PEX (X:Cx)(e:Expr)(t:TE):Prop where
 h:PE X e t
structure PAX (X:Cx)(es:List Expr)(t:TA):Prop where
 h:PA X es t
section
variable {X:Cx}
theorem x_int {i j pos}:PEX X (.Constant (.int i) j pos) (tC (.int i)):=⟨pe_int⟩
theorem x_str {x j pos}:PEX X (.Constant (.str x) j pos) (tC (.str x)):=⟨pe_str⟩
theorem x_nil:PAX X [] tNil:=⟨pa_nil⟩
theorem psx_setX {i:Nat}{x:Str}{e:Expr}{te:TE}{pos pos':Pos}(hN:X.N.Nodup)(hi:X.N[i]?=some x)(hx:Loc X.env.scope x)(he:PEX X e te)(hs:swapsWith e (some (.Name x pos')) pos.line X.env=pure false:=by rfl)(hf:X.fn x=true\/X.env.scope.names.lookup x=some .local:=by first | exact .inl rfl | exact .inr rfl | assumption) :
  PSX X (.Assign [.Name x pos'] e pos) (tAsg te (gName i)):=⟨ps_set hN hi hx he.h hs hf⟩
end
end L2
namespace L2
open PySem PySem.Spec PyProof.Rows
section
variable {X:Cx}
theorem x_of {e:Expr}{t:TE}(h:PE X e t):PEX X e t:=⟨h⟩
theorem x_c {e:Expr}{es:List Expr}{te:TE}{t:TA}(ha:PEX X e te)(hr:PAX X es t)(hf:starFree e=true:=by rfl):PAX X (e :: es) (tCons te t):=⟨pa_c ha.h hr.h hf⟩
theorem x_lst {es:List Expr}{t:TA}{pos:Pos}(h:PAX X es t):PEX X (.List es pos) (tLst t):=⟨pe_lst h.h⟩
theorem x_bl {b j pos}:PEX X (.Constant (.bool b) j pos) (tC (.bl b)):=⟨pe_bl⟩
theorem x_non {j pos}:PEX X (.Constant .none j pos) (tC .non):=⟨pe_non⟩
end
end L2
namespace L2
open PySem PySem.Spec PyProof.Rows
section
variable {X:Cx}
theorem ex_psb {l:List Stmt}{R:TS->Prop}(h : ∃ t,PSB X l t/\R t) : ∃ t,PSs X l t/\R t:=by
 obtain ⟨t,a,b⟩:=h
 exact ⟨t,a.h,b⟩
end
end L2
namespace K76
open PySem PySem.Spec PyProof.Rows L2 GM TM
structure ErT (K:PySem.W.Frag)(mg:Str->Option Value)(cP cN:Addr):Prop where
 ex:PySem.W.excIn K cN bmV "ValueError.__new__" = true
 k:ExK K cN
 ct:CtK K cN
 s:PySem.W.subIn K (.ref cN) (.ref cN)=some true
 iP:PySem.W.kitOne K (.ref cN) (.ref cP)=some true
 iV:PySem.W.kitOne K (.ref cN) (.type "ValueError")=some true
 mP:mg "PhialError" = some (.ref cP)
 mN:mg "NoThing" = some (.ref cN)
theorem fn_or {P:Program}{w:World}{K:PySem.W.Frag}{mg:Str->Option Value}{base:Heap}{CX:CXT}{k:Nat}{f:Addr}{fd:FuncData}{ps:List Str}{s1 s2:Sp}(a:FnOk P w K mg base CX k f fd ps s1)(b:FnOk P w K mg base CX k f fd ps s2):FnOk P w K mg base CX k f fd ps (fun vs H Q E=>s1 vs H Q E\/s2 vs H Q E) :=
 ⟨fun vs H Q E h=>h.elim (a.len vs H Q E) (b.len vs H Q E),fun A outer s H args us vs Q E h1 h2 h3 h4 h=>h.elim (a.run A outer s H args us vs Q E h1 h2 h3 h4) (b.run A outer s H args us vs Q E h1 h2 h3 h4)⟩
def spOneOfN (K:PySem.W.Frag):Sp:=fun vs H Q _=>∃ (p u:Addr) (v:V),vs=[.ref p,v,.ref u]/\(IsiD K H v "str" false\/∃ x:Str,v = .str x/\x.length<=1000/\¬ Wr x)/\∀ H',Same H H'->Q (.bl false) H'
def spOneOfA (C:Addr)(K:PySem.W.Frag):Sp:=fun vs H Q E=>spOneOf C K vs H Q E\/spOneOfN K vs H Q E
def spCalledN (C cN:Addr)(K:PySem.W.Frag):Sp:=fun vs H _ E=>∃ L p dl dt db bs kvs day bf M n zs,∃ v:V,vs=[.ref p,v]/\PS C H L p dl dt db bs kvs day bf M n zs/\(IsiD K H v "str" false\/∃ x:Str,v = .str x/\x.length<=1000/\∀ z ∈ zs,z.x=x->z.k ≠ "lot")/\∀ H',Same H H'->E (.ref cN) none H'
abbrev sNoLot:Stmt:=top 54
def spNoLot (C:Addr)(K:PySem.W.Frag):Sp:=fun vs H Q _=>∃ L p dl dt db bs kvs day bf M n a hd kd ls dd big F today zi ds nm,∃ (ws:List Str) (c:Int),vs=[.ref p,.ref a,.ref nm,.int c]/\PS C H L p dl dt db bs kvs day bf M n (zi.map (·.1))/\LG H a hd kd ls dd big F today n ds zi/\SqL K H nm (ws.map V.str)/\ws.length=8/\(∀ x ∈ ws,Wr x)/\0<=c/\∀ H',Same H H'->Q (.bl true) H'
theorem IsiD.keep {K:PySem.W.Frag}{H H':Hp}{v:V}{T:String}{b:Bool}(h:IsiD K H v T b)(s:Same H H'):IsiD K H' v T b:=by
 rcases h with h | ⟨a,h1,h2,h3⟩
 ·refine .inl ?_
  cases h with
  | int_int=>exact .int_int
  | int_bool=>exact .int_bool
  | int_tuple=>exact .int_tuple
  | int_str=>exact .int_str
  | int_list=>exact .int_list
  | bl_int=>exact .bl_int
  | bl_bool=>exact .bl_bool
  | bl_tuple=>exact .bl_tuple
  | bl_str=>exact .bl_str
  | str_int=>exact .str_int
  | str_bool=>exact .str_bool
  | str_tuple=>exact .str_tuple
  | str_str=>exact .str_str
  | non_int=>exact .non_int
  | non_str=>exact .non_str
  | non_tuple=>exact .non_tuple
  | tup_tuple q=>exact .tup_tuple (s.tup q)
  | tup_int q=>exact .tup_int (s.tup q)
  | tup_str q=>exact .tup_str (s.tup q)
  | tup_list q=>exact .tup_list (s.tup q)
  | lst_tuple q=>exact .lst_tuple (s.seq q)
  | lst_int q=>exact .lst_int (s.seq q)
  | lst_str q=>exact .lst_str (s.seq q)
  | lst_list q=>exact .lst_list (s.seq q)
 ·exact .inr ⟨a,h1,s _ _ h2,h3⟩
theorem x_ix {X:Cx}{r:R2}{a b:Expr}{ta tb:TE}{pos:Pos}(hr:IxR X r)(ha:PEX X a ta)(hb:PE X b tb)(hs:PlainIx b):PEX X (.Subscript a b pos) (tOp r ta tb):=⟨pe_ix hr ha.h hb hs⟩
theorem opN {r:R2}{ta tb:TE}{g:TG}{rest:TS}{D:Ends}{σ:L2.St}{H:Hp}(S:V->Hp->Prop)(h : ∀ x H',S x H'->tb σ H' fun y H2=>r x y H2 fun v H3=>g v σ H3 (rest D))(c : ∀ C:VK,(∀ x H',S x H'->C x H')->ta σ H C):tSeq (tAsg (tOp r ta tb) g) rest D σ H:=c _ h
section
variable {P:Program}{w:World}{K:PySem.W.Frag}{mg:Str->Option Value}{base:Heap}
theorem ok_oneofN {f C:Addr}{fd:FuncData}(F:Fun K "is_one_of" "Books.is_one_of" sOneOf f fd)(L:Cl K mg C)(cI:Cal P w K mg base CX0 1 "is_ware" ["thing"] (spIsWare K)):FnOk P w K mg base CX0 2 f fd ["self","name","words"] (spOneOfN K):=by
 refine F.ok scOneOf (fun vs H Q E h => ?_) (fun cdv A outer s H vs Q E hr h => ?_)
 ·obtain ⟨_,_,_,rfl,_⟩:=h
  rfl
 ·obtain ⟨p,u,v,rfl,hv,k⟩:=h
  refine ⟨_,(pss_one (ps_ret (pe_and (pe_cal cI hr rfl pass0 (pa_cons (pv 1) pa_nil)) (pe_and (pe_cmp (pc_din (hu_of hr) (pv 1) (pe_fld (pv 0) rfl))) (pe_one (pe_cmpR op_in_seq (pe_ix ix_tup (pe_dget (hu_of hr) (pe_fld (pv 0) rfl) (pv 1) (fun _ _=>rfl)) pe_int (fun _ _=>rfl)) (pv 2) (by with_unfolding_all rfl))))))),?_⟩
  refine ⟨_,rfl,_,rfl,?_⟩
  rcases hv with hi | ⟨x,rfl,xl,nx⟩
  ·exact .inl ⟨hi,_,rfl,iteF (k _ (Same.refl _))⟩
  ·exact .inr ⟨x,rfl,xl,fun wx=>absurd wx nx,fun _ H1 s1=>⟨_,rfl,iteF (k _ s1)⟩⟩
theorem ok_oneofA {f C:Addr}{fd:FuncData}(F:Fun K "is_one_of" "Books.is_one_of" sOneOf f fd)(L:Cl K mg C)(cI:Cal P w K mg base CX0 1 "is_ware" ["thing"] (spIsWare K)):FnOk P w K mg base CX0 2 f fd ["self","name","words"] (spOneOfA C K):=fn_or (ok_oneof F L cI) (ok_oneofN F L cI)
theorem ok_calledN {f C cP cN:Addr}{fd:FuncData}(F:Fun K "called" "Books.called" sCalled f fd)(L:Cl K mg C)(R:ErT K mg cP cN)(mO:MCal P w K mg base CX0 3 C "is_one_of" ["self","name","words"] (spOneOfA C K)):FnOk P w K mg base (CXg P w) 4 f fd ["self","lot"] (spCalledN C cN K):=by
 refine F.okF scCalled (fun vs H Q E h => ?_) (fun cdv A outer s H vs Q E hr h => ?_)
 ·obtain ⟨_,_,_,_,_,_,_,_,_,_,_,_,_,rfl,_⟩:=h
  rfl
 ·obtain ⟨l,p,dl,dt,db,bs,kvs,day,bf,M,n,zs,v,rfl,B,hv,k⟩:=h
  refine ⟨_,(pss_cons (ps_if (pt_not (pt_val (pe_mc L.cl mO hr pass0 (pv 0) (pa_cons (pv 1) (pa_cons (pe_tup (pa_cons pe_str pa_nil)) pa_nil))))) (pss_one (ps_raise rfl xe_f rfl rfl R.mN R.ex (pa_cons pe_str pa_nil))) pss_nil) pss_never),?_⟩
  obtain ⟨⟨dx,h0⟩,hl,ht,hb,n6⟩:=id B.bk
  refine ⟨_,rfl,p,dx,_,rfl,h0,(by kernel_rfl),_,rfl,(by show 1<=sizeLine; decide),fun w1 hw1 => ?_⟩
  have t1:=Same.upd (o:=.tup [.str "lot"]) hw1
  have fin : ∀ H',Same (upd H w1 (.tup [.str "lot"])) H'->(1<=sizeLine/\E (.ref cN) none H'):=fun H' s'=>⟨(by show 1<=sizeLine; decide),k _ (t1.trans s')⟩
  rcases hv with hi | ⟨x,rfl,xl,hx⟩
  ·exact .inr ⟨p,w1,v,rfl,.inl (IsiD.keep hi t1),fun H' s'=>⟨_,rfl,iteT (fin H' s')⟩⟩
  ·by_cases wx:Wr x
   ·refine .inl ⟨l,p,dl,dt,db,bs,kvs,day,bf,M,n,zs,x,w1,["lot"],rfl,B.keep t1,wx,SqT.of upd_same,?_⟩
    by_cases hm:x ∈ zs.map Th.x
    ·obtain ⟨z,hz,e⟩:=List.mem_map.mp hm
     refine .inl ⟨z,hz,e,fun H' s' => ?_⟩
     rw [decide_eq_false (fun y=>hx z hz e (List.mem_singleton.mp y))]
     exact ⟨_,rfl,iteT (fin H' s')⟩
    ·exact .inr ⟨hm,fun H' s'=>⟨_,rfl,iteT (fin H' s')⟩⟩
   ·exact .inr ⟨p,w1,_,rfl,.inr ⟨x,rfl,xl,wx⟩,fun H' s'=>⟨_,rfl,iteT (fin H' s')⟩⟩
abbrev NNl:List Str:=["_law_books","_law_here","_law_names_here","_law_cell","_law_odd","_law_refused","e"]
theorem scNoLot:FnScope NNl ["_law_books","_law_here","_law_names_here","_law_cell"] (defScope sNoLot):=⟨rfl,rfl,rfl,by decide +kernel,rfl,by decide +kernel,by decide +kernel⟩
theorem ok_nolot {f C cP cN:Addr}{fd:FuncData}(F:Fun K "_law_no_lot" "_law_no_lot" sNoLot f fd)(T:Txt mg)(L:Cl K mg C)(R:ErT K mg cP cN)(mC:MCal P w K mg base (CXg P w) 4 C "called" ["self","lot"] (spCalledN C cN K)):FnOk P w K mg base CX0 5 f fd ["_law_books","_law_here","_law_names_here","_law_cell"] (spNoLot C K):=by
 refine F.ok scNoLot (fun vs H Q E h => ?_) (fun cdv A outer s0 H vs Q E hr h => ?_)
 ·obtain ⟨_,_,_,_,_,_,_,_,_,_,_,_,_,_,_,_,_,_,_,_,_,_,_,_,rfl,_⟩:=h
  rfl
 ·obtain ⟨ad,p,dl,dt,db,bs,kvs,day,bf,M,n,a,hd,kd,ls,dd,big,Fn,today,zi,ds,nm,ws,c,rfl,B,G,hn,wl,ww,c0,k⟩:=h
  refine ex_psb ⟨_,(psb_cons (psx_setX (i:=4) scNoLot.nd rfl (Or.inl rfl) (x_ix ix_list (x_lst (x_c x_non (x_c x_str (x_c x_str (x_c x_int (x_c (x_lst (x_c x_str x_nil)) (x_c x_str (x_c x_bl (x_c (x_of (pe_ix ix_list (pv 2) (pe_op op_mod (pe_op op_fdivB (pv 3) pe_int) pe_int) (fun _ _=>rfl))) x_nil))))))))) (pe_op op_mod (pv 3) pe_int) (fun _ _=>rfl)))
   (psb_of (pss_cons (ps_if (PW.pt (pw_and (pt_val (pe_callB call_isiZ rfl T.isi boot_isinstance (pa_cons (pv 4) (pa_cons (pe_bltn (v:=.ty "str") rfl T.str' bt_str rfl) pa_nil)))) (pw_and1 (pt_cmpR op_eq (pe_dget2 (hu_of hr) (pe_dget (hu_of hr) (pv 1) pe_str (fun _ _=>rfl)) (pv 4) pe_str ⟨rfl,rfl,rfl,rfl⟩) pe_str (nomark _)))))
    (pss_one (ps_ret pe_bl))
    pss_nil)
   (pss_cons (ps_set (i:=5) scNoLot.nd rfl (Or.inl rfl) pe_non)
   (pss_cons (ps_try (i:=6) (j:=5) ⟨rfl,rfl,rfl⟩ rfl R.mN R.ct scNoLot.nd rfl rfl rfl rfl (by decide) (fun pins E' Ec hp=>pss_one (ps_expr (pe_mc L.cl mC hr hp (pv 0) (pa_cons (pv 4) pa_nil)))))
   (pss_one (ps_ret (pe_and (pe_callB call_isiY rfl T.isi boot_isinstance (pa_cons (pv 5) (pa_cons (pe_glob (v:=.ref cP) rfl R.mP rfl) pa_nil))) (pe_one (pe_callB call_isiY rfl T.isi boot_isinstance (pa_cons (pv 5) (pa_cons (pe_bltn (v:=.ty "ValueError") rfl T.val bt_val rfl) pa_nil)))))))))))),?_⟩
  have m8:=emod_in (c / 8) (m:=8) (by decide)
  have c8:=emod_in c (m:=8) (by decide)
  obtain ⟨vn,hvn,mvn⟩:=at_int (xs:=ws.map V.str) (e:=c / 8 % 8) m8.1 (by rw [List.length_map,wl]; exact m8.2)
  obtain ⟨xn,hxn,rfl⟩:=List.mem_map.mp mvn
  refine opN (fun x H'=>∃ z1 z2,x = .ref z2/\Same H H'/\H' z1=some (.lst [.str "a"])/\H' z2=some (.lst [.non,.str "",.str "Ab",.int 7,.ref z1,.str "abcdefghi",.bl true,.str xn])) (fun x H2 hx => ?_) (fun C' hC => ?_)
  rotate_left
  ·refine ⟨(by show 1<=sizeLine; decide),fun z1 hz1 => ?_⟩
   have t1:=Same.upd (o:=.lst [.str "a"]) hz1
   refine ⟨_,rfl,_,rfl,_,_,rfl,rfl,⟨by decide,b9⟩,_,_,rfl,rfl,(by show (0:Int) < 8; decide),nm,_,_,_,rfl,rfl,t1.seq hn,hvn,(by show 8<=sizeLine; decide),fun z2 hz2 => ?_⟩
   have t2:=Same.upd (o:=.lst [.non,.str "",.str "Ab",.int 7,.ref z1,.str "abcdefghi",.bl true,.str xn]) hz2
   exact hC _ _ ⟨z1,z2,rfl,t1.trans t2,t2 _ _ upd_same,upd_same⟩
  obtain ⟨z1,z2,rfl,s12,hz1',hz2'⟩:=hx
  obtain ⟨v,hv,mv⟩:=at_int (xs:=[V.non,.str "",.str "Ab",.int 7,.ref z1,.str "abcdefghi",.bl true,.str xn]) (e:=c % 8) c8.1 c8.2
  refine ⟨_,rfl,_,_,rfl,rfl,(by show (0:Int) < 8; decide),z2,_,_,_,rfl,rfl,SqL.of hz2',hv,?_⟩
  have G2:=G.same s12
  have B2:=B.keep s12
  have nd:=G.g.nd
  have cases':IsiD K H2 v "str" false\/∃ x:Str,v = .str x/\x.length<=1000:=by
   simp only [List.mem_cons,List.not_mem_nil,or_false] at mv
   rcases mv with rfl | rfl | rfl | rfl | rfl | rfl | rfl | rfl
   ·exact .inl (.inl .non_str)
   ·exact .inr ⟨_,rfl,by decide⟩
   ·exact .inr ⟨_,rfl,by decide⟩
   ·exact .inl (.inl .int_str)
   ·exact .inl (.inl (.lst_str (SqL.of hz1')))
   ·exact .inr ⟨_,rfl,by decide⟩
   ·exact .inl (.inl .bl_str)
   ·exact .inr ⟨_,rfl,by have:=(ww xn hxn).l8; omega⟩
  clear mv hv
  dsimp only [gName]
  refine ifN (fun b H'=>H2=H'/\(b=false->(IsiD K H2 v "str" false\/∃ x:Str,v = .str x/\x.length<=1000/\∀ z ∈ zi.map (fun e:Th × Addr=>e.1),z.x=x->z.k ≠ "lot"))) (fun b _ ⟨eh,hb⟩ => ?_) (fun C' hC => ?_)
  rotate_left
  ·rcases cases' with hi | ⟨x,rfl,xl⟩
   ·exact ⟨_,rfl,v,"str",false,rfl,hi,_,rfl,iteF (hC _ _ ⟨rfl,fun _=>.inl hi⟩)⟩
   ·refine ⟨_,rfl,_,"str",true,rfl,.inl .str_str,_,rfl,iteT ⟨_,rfl,a,_,rfl,dg G2.s.ha hk_kinds,kd,rfl,.inl ⟨_,.inl G2.s.hk⟩,_,rfl,_,DGet.k (k:=.inr x) G2.s.hk,?_⟩⟩
    by_cases hx:x ∈ (zi.map fun e:Th × Addr=>e.1).map Th.x
    ·obtain ⟨t,ht,ex⟩:=List.mem_map.mp hx
     obtain ⟨e,he,rfl⟩:=List.mem_map.mp ht
     subst ex
     rw [LS.getK nd he]
     refine ⟨rfl,_,rfl,hC _ _ ⟨rfl,fun hf=>.inr ⟨_,rfl,xl,fun z hz ez q => ?_⟩⟩⟩
     have : ¬ V.str e.1.k=V.str "lot" := of_decide_eq_false hf
     rw [nd_eq nd hz ht ez] at q
     exact this (by rw [q])
    ·rw [show valV (zi.map keyK) (Sum.inr x)=none from key_no (φ:=fun e=>.str e.1.k) hx]
     exact ⟨rfl,_,rfl,hC _ _ ⟨rfl,fun _=>.inr ⟨_,rfl,xl,fun z hz ez=>absurd (ez ▸ List.mem_map_of_mem hz) hx⟩⟩⟩
  subst eh
  cases b with
  | true=>exact iteT (k _ s12)
  | false =>
   refine iteF ?_
   obtain ⟨⟨dx2,h02⟩,_⟩:=id B2.bk
   refine ⟨_,rfl,p,dx2,_,rfl,h02,(by kernel_rfl),_,rfl,ad,p,dl,dt,db,bs,kvs,day,bf,M,n,_,v,rfl,B2,hb rfl,fun H3 s3=>⟨cN,rfl,R.k,R.s,fun ea hea => ?_⟩⟩
   have t4:=Same.upd (o:=excD ea cN none) hea
   exact ⟨_,rfl,ea,cN,none,.ref cP,.ref cP,true,rfl,upd_same,R.k,rfl,R.iP,_,rfl,iteT ⟨_,rfl,ea,cN,none,.type "ValueError",.ty "ValueError",true,rfl,upd_same,R.k,rfl,R.iV,k _ ((s12.trans s3).trans t4)⟩⟩
end
end K76
namespace K76
open PySem PySem.Spec PyProof.Rows L2 GM TM
structure KT (C:Addr)(K:PySem.W.Frag)(H1 H:Hp)(p dl dt db a hd kd ls dd tl:Addr)(big:Bool)(bs:List V)(kvs:List (Key × V))(bf ds:List V)(M today:Int)(n:Nat)(dts:List Dt)(zi:List (Th × Addr))(hs:Hst)(ts:List V):Prop where
 S:BS C K H1 H p dl dt db a hd kd ls dd big bs kvs bf ds M today n dts zi
 ht:H tl=some (.lst ts)
 nt:tl ∉ [p,dl,dt,db] ++ La a hd kd ls dd zi
 f1:H1 tl=none
 hn:hs.length=n
 pd:Paired (DAt H) ds hs
 pt:Paired (Beh ([tl] ++ ([p,dl,dt,db] ++ La a hd kd ls dd zi)) H) ts hs
 w:WOk hs (zi.map (·.1))
section
variable {C:Addr}{K:PySem.W.Frag}{H1 H H' H2 H3:Hp}{p dl dt db a hd kd ls dd tl:Addr}{big:Bool}{bs:List V}{kvs:List (Key × V)}{bf ds:List V}{M today:Int}{n:Nat}{dts:List Dt}{zi:List (Th × Addr)}{hs:Hst}{ts:List V}
theorem KT.keep (S:KT C K H1 H p dl dt db a hd kd ls dd tl big bs kvs bf ds M today n dts zi hs ts)(s:Same H H'):KT C K H1 H' p dl dt db a hd kd ls dd tl big bs kvs bf ds M today n dts zi hs ts :=
 ⟨S.S.keep s,s _ _ S.ht,S.nt,S.f1,S.hn,paired_mono (fun _ _ r=>r.keep s.tk) S.pd,paired_mono (fun _ _ r=>r.keep (Fm.of s)) S.pt,S.w⟩
theorem KT.lt (S:KT C K H1 H p dl dt db a hd kd ls dd tl big bs kvs bf ds M today n dts zi hs ts):LT H ([tl] ++ ([p,dl,dt,db] ++ La a hd kd ls dd zi)) a hd kd ls dd tl big M today ds ts hs:=⟨S.S.L.s.ha,S.S.L.s.hdd,S.pd,S.ht,S.pt,by have:=S.S.L.g.n60; have:=S.hn; omega⟩
theorem KT.next (S:KT C K H1 H p dl dt db a hd kd ls dd tl big bs kvs bf ds M today n dts zi hs ts){bs':List V}{kvs':List (Key × V)}{bf':List V}{M' today':Int}{d:Dd}{q r:Addr}{zi':List (Th × Addr)}{dts':List Dt}
  (st:Stp n M (zi.map (·.1)) today d M' (zi'.map (·.1)) today') (k2:Kp p dl dt db H H2) (k3:KpL (La a hd kd ls dd zi) H2 H3) (t3:Tk H2 H3) (ad:Adr H2 zi zi') (S3:BS C K H1 H3 p dl dt db a hd kd ls dd big bs' kvs' bf' (ds ++ [.ref q]) M' today' (n+1) dts' zi') (hq:H3 q=some (.tup d.row)) (s:Same H3 H')
  (hr:H' r=some (.dK (zi'.map fun e=>((Sum.inr e.1.x:Key),V.int e.1.T)))) (nr:H3 r=none):KT C K H1 (upd H' tl (.lst (ts ++ [.ref r]))) p dl dt db a hd kd ls dd tl big bs' kvs' bf' (ds ++ [.ref q]) M' today' (n+1) dts' zi' (hs ++ [(d,zi'.map (·.1))]) (ts ++ [.ref r]):=by
 have fm0:Fm ([tl] ++ ([p,dl,dt,db] ++ La a hd kd ls dd zi)) ([tl] ++ ([p,dl,dt,db] ++ La a hd kd ls dd zi')) H H3:=S.S.fm k2 k3 ad
 have fmL:Fm ([] ++ ([p,dl,dt,db] ++ La a hd kd ls dd zi)) ([] ++ ([p,dl,dt,db] ++ La a hd kd ls dd zi')) H H3:=S.S.fm k2 k3 ad
 obtain ⟨t1,t2⟩:=fmL tl _ S.nt S.ht
 have fm:Fm ([tl] ++ ([p,dl,dt,db] ++ La a hd kd ls dd zi)) ([tl] ++ ([p,dl,dt,db] ++ La a hd kd ls dd zi')) H (upd H' tl (.lst (ts ++ [.ref r]))):=(fm0.trans (Fm.of s)).trans (Fm.put (by simp))
 have t1':=s _ _ t1
 have bt:But tl H' (upd H' tl (.lst (ts ++ [.ref r]))):=fun b o nb e=>by rw [upd_ne nb]; exact e
 have tk2:=S.S.P.bk.tk k2
 have tkA:Tk H (upd H' tl (.lst (ts ++ [.ref r]))):=fun b xs e=>bt.tk t1' _ _ (s.tk _ _ (t3 _ _ (tk2 _ _ e)))
 have rt:r ≠ tl:=fun z=>by rw [z,t1] at nr; cases nr
 have nd':=S3.P.g.nd
 refine ⟨(S3.keep s).kpx t1' t2 S.f1 bt ⟨_,upd_same⟩,upd_same,t2,S.f1,by rw [List.length_append,S.hn]; rfl,paired_snoc (paired_mono (fun _ _ r=>r.keep tkA) S.pd) ⟨q,rfl,bt.tk t1' _ _ (s _ _ hq)⟩,paired_snoc (paired_mono (fun _ _ r=>r.keep fm) S.pt) ⟨r,_,rfl,by rw [upd_ne rt]; exact hr,fun z => ?_,tot_kvs nd'⟩,S.w.step S.S.P.g S3.P.g S.hn st⟩
 rcases List.mem_append.mp z with h | h
 ·exact rt (List.mem_singleton.mp h)
 ·exact S3.P.al r h nr
end
end K76
namespace K76
open PySem PySem.Spec PyProof.Rows L2 GM TM
def spLaw (K:PySem.W.Frag):Sp:=fun vs H Q _=>∃ (a:Addr) (ns:List Int),vs=[.ref a]/\SqL K H a (ns.map V.int)/\ns.length<=63/\∀ H',Q (.bl true) H'
section
variable {P:Program}{w:World}{K:PySem.W.Frag}{mg:Str->Option Value}{base:Heap}
abbrev NLaw:List Str:=["_law_script","_law_by_digits","_law_names_here","_law_books","_law_here","_law_totals_here","_law_k","_law_cell","_law_deed","_law_lots","_law_lot"]
theorem scLaw:FnScope NLaw ["_law_script"] (defScope sLaw):=⟨rfl,rfl,rfl,by decide +kernel,rfl,by decide +kernel,by decide +kernel⟩
theorem ok_law {f C fI:Addr}{fd fdI:FuncData}(F:Fun K "law" "law" sLaw f fd)(T:Txt mg)(L:Cl K mg C)(mgC:mg "Books" = some (.ref C))(M:Mk K C fI)(GI:FnOk P w K mg base CX0 7 fI fdI ["self"] (spInit C))(bI:Binds K fdI ["self"] [])
  (cC:Cal P w K mg base CX0 8 "_law_cell_at" ["_law_script","_law_k"] (spCell K)) (cM:Cal P w K mg base CX0 8 "_law_mixed" ["_law_cell","_law_k"] spMixed) (cN:Cal P w K mg base CX0 8 "_law_names" ["_law_seed"] spNames) (cE:Cal P w K mg base CX0 8 "_law_new" ["_law_big"] spNew)
  (cX:Cal P w K mg base CX0 8 "_law_next" ["_law_here","_law_names_here","_law_own","_law_cell","_law_by_digits"] (spNext K)) (cD:Cal P w K mg base CX0 8 "_law_do" ["_law_books","_law_deed"] (spDo C K)) (cA:Cal P w K mg base CX0 8 "_law_apply" ["_law_here","_law_deed"] spApply) (cT:Cal P w K mg base CX0 8 "_law_totals" ["_law_here"] spLtots) (cR:Cal P w K mg base CX0 8 "_law_called" ["_law_books","_law_here","_law_totals_here","_law_lot"] (spLcalled C)) (cO:Cal P w K mg base CX0 8 "_law_no_lot" ["_law_books","_law_here","_law_names_here","_law_cell"] (spNoLot C K)):FnOk P w K mg base CX0 9 f fd ["_law_script"] (spLaw K):=by
 refine F.ok scLaw (fun vs H Q E h => ?_) (fun cdv A outer s0 H vs Q E hr h => ?_)
 ·obtain ⟨_,_,rfl,_⟩:=h
  rfl
 ·obtain ⟨a,ns,rfl,hS,nl,k⟩:=h
  refine ⟨_,(pss_cons (ps_set (i:=1) scLaw.nd rfl (Or.inl rfl) (pe_cmpR op_eq (pe_op op_mod (pe_cal cC hr rfl pass0 (pa_cons (pv 0) (pa_cons pe_int pa_nil))) pe_int) pe_int (nomark _)))
   (pss_cons (ps_set (i:=2) scLaw.nd rfl (Or.inl rfl) (pe_cal cN hr rfl pass0 (pa_cons (pe_cal cM hr rfl pass0 (pa_cons (pe_cal cC hr rfl pass0 (pa_cons (pv 0) (pa_cons pe_int pa_nil))) (pa_cons pe_int pa_nil))) pa_nil)))
   (pss_cons (ps_set (i:=3) scLaw.nd rfl (Or.inl rfl) (pe_make0 M GI hr rfl mgC bI .nil pass0))
   (pss_cons (ps_set (i:=4) scLaw.nd rfl (Or.inl rfl) (pe_cal cE hr rfl pass0 (pa_cons (pe_cmpR op_lt (pe_callB call_len_seq rfl T.len PySem.boot_len (pa_cons (pv 0) pa_nil)) pe_int (nomark _)) pa_nil)))
   (pss_cons (ps_set (i:=5) scLaw.nd rfl (Or.inl rfl) (pe_lst pa_nil))
   (pss_cons (ps_for PassesOwn.never rfl (pi_range2 rfl T.range (pa_cons pe_int (pa_cons (pe_callB (call_min2 rfl) rfl T.min' boot_min (pa_cons (pe_callB call_len_seq rfl T.len PySem.boot_len (pa_cons (pv 0) pa_nil)) (pa_cons (pe_ix ix_list (pe_lst (pa_cons pe_int (pa_cons pe_int pa_nil))) (pe_callTy call_int1 rfl T.int' bt_int (pa_cons (pv 1) pa_nil)) (fun _ _=>rfl)) pa_nil))) pa_nil))) (pg_name (i:=6) scLaw.nd rfl (Or.inl rfl))
    (pss_cons (ps_set (i:=7) scLaw.nd rfl (Or.inl rfl) (pe_cal cM hr rfl pass0 (pa_cons (pe_ix ix_list (pv 0) (pv 6) (fun _ _=>rfl)) (pa_cons (pv 6) pa_nil))))
    (pss_cons (ps_set (i:=8) scLaw.nd rfl (Or.inl rfl) (pe_cal cX hr rfl pass0 (pa_cons (pv 4) (pa_cons (pv 2) (pa_cons (pe_ix ix_list (pv 0) (pv 6) (fun _ _=>rfl)) (pa_cons (pv 7) (pa_cons (pv 1) pa_nil)))))))
    (pss_cons (ps_expr (pe_cal cD hr rfl pass0 (pa_cons (pv 3) (pa_cons (pv 8) pa_nil))))
    (pss_cons (ps_expr (pe_cal cA hr rfl pass0 (pa_cons (pv 4) (pa_cons (pv 8) pa_nil))))
    (pss_cons (ps_expr (pe_bm PySem.F.plainAttrs_list PySem.F.slot_list_append PySem.F.type_list_append mt_append (pv 5) (pa_cons (pe_cal cT hr rfl pass0 (pa_cons (pv 4) pa_nil)) pa_nil)))
    (pss_cons (ps_set (i:=9) scLaw.nd rfl (Or.inl rfl) (pe_callB (call_sortDS rfl) rfl T.sorted' boot_sorted (pa_cons (pe_dget (hu_of hr) (pv 4) pe_str (fun _ _=>rfl)) pa_nil)))
    (pss_cons (ps_if (pt_cmpR (op_neE hr.units) (pv 9) (pe_lst pa_nil) (nomark _))
     (pss_cons (ps_set (i:=10) scLaw.nd rfl (Or.inl rfl) (pe_ix ix_list (pv 9) (pe_op op_mod (pe_op op_fdivB (pv 7) pe_int) (pe_callB call_len_seq rfl T.len PySem.boot_len (pa_cons (pv 9) pa_nil))) (fun _ _=>rfl)))
     (pss_one (ps_if (pt_not (pt_val (pe_cal cR hr rfl pass0 (pa_cons (pv 3) (pa_cons (pv 4) (pa_cons (pv 5) (pa_cons (pv 10) pa_nil)))))))
      (pss_one (ps_ret pe_bl))
      pss_nil)))
     pss_nil)
    (pss_one (ps_if (pt_not (pt_val (pe_cal cO hr rfl pass0 (pa_cons (pv 3) (pa_cons (pv 4) (pa_cons (pv 2) (pa_cons (pe_op op_fdivB (pv 7) pe_int) pa_nil)))))))
     (pss_one (ps_ret pe_bl))
     pss_nil))))))))))
   (pss_cons (ps_for PassesOwn.never rfl (pi_list (pe_callB (call_sortDS rfl) rfl T.sorted' boot_sorted (pa_cons (pe_dget (hu_of hr) (pv 4) pe_str (fun _ _=>rfl)) pa_nil))) (pg_name (i:=10) scLaw.nd rfl (Or.inl rfl))
    (pss_one (ps_if (pt_not (pt_val (pe_cal cR hr rfl pass0 (pa_cons (pv 3) (pa_cons (pv 4) (pa_cons (pv 5) (pa_cons (pv 10) pa_nil)))))))
     (pss_one (ps_ret pe_bl))
     pss_nil)))
   (pss_one (ps_ret pe_bl))))))))),?_⟩
  refine ⟨_,rfl,a,ns,0,rfl,hS,by decide,fun c0=>⟨_,_,rfl,rfl,(by show (0:Int) < 2; decide),rfl,?_⟩⟩
  generalize decide (V.int (c0 % 2)=V.int 0)=b1
  refine ⟨_,rfl,a,ns,0,rfl,hS,by decide,fun c1=>⟨c1,0,rfl,by decide,by decide,fun n n0 nl'=>⟨n,rfl,n0,nl',fun ws nm H1 wl wn ww s1 hnm => ?_⟩⟩⟩
  intro p dx np ndx nex
  refine ⟨p,dx,rfl,upd_same,fun dl dt db H2 f1 f2 f3 B2 kp=>⟨rfl,?_⟩⟩
  have s12:Same H1 H2:=fun b o e=>kp b o (by rw [upd_ne (ne_of_none e np),upd_ne (ne_of_none e ndx)]; exact e) (ne_of_none e np)
  have fr : ∀ {b:Addr},upd (upd H1 dx (.own p)) p (.ins C dx []) b=none->H1 b=none:=fun {b} h=>by
   by_cases z:b=p
   ·rw [z,upd_same] at h; cases h
   ·rw [upd_ne z] at h
    by_cases z':b=dx
    ·rw [z',upd_same] at h; cases h
    ·rw [upd_ne z'] at h; exact h
  have fl:=fr f1
  have ft:=fr f2
  have fb:=fr f3
  refine ⟨_,rfl,a,_,rfl,.inl ((s1.trans s12).seq hS),_,_,rfl,rfl,_,rfl,fun aL hd kd ls dd H3 s3 f5 l3 => ?_⟩
  generalize decide (((ns.map V.int).length:Int) < 20)=big at l3
  have S3:BS C K H1 H3 p dl dt db aL hd kd ls dd big [] [] [] [] 1 0 0 [] []:=BS.start B2 s12 ⟨np,fl,ft,fb⟩ s3 f5 l3
  refine ⟨(by show 0<=sizeLine; decide),fun tl htl => ?_⟩
  have t4:=Same.upd (o:=.lst []) htl
  have S5:KT C K H1 (upd H3 tl (.lst [])) p dl dt db aL hd kd ls dd tl big [] [] [] [] 1 0 0 [] [] [] []:=⟨S3.keep t4,upd_same,fun z=>S3.P.al tl z htl,same_none S3.sm htl,rfl,.nil,.nil,WOk.nil⟩
  generalize upd H3 tl (.lst [])=H5 at S5 ⊢
  refine ⟨_,rfl,a,_,rfl,.inl ((s1.trans S5.S.sm).seq hS),(by show 2<=sizeLine; decide),fun z hz => ?_⟩
  have t6:=Same.upd (o:=.lst [.int 51,.int 25]) hz
  refine ⟨_,rfl,.inr ⟨b1,rfl,?_⟩⟩
  obtain ⟨lim,hlim,hlim'⟩ : ∃ m:Int,atI [V.int 51,V.int 25] (if b1=true then (1:Int) else 0)=some (.int m)/\m=if b1=true then 25 else 51:=by
   cases b1
   ·exact ⟨51,rfl,rfl⟩
   ·exact ⟨25,rfl,rfl⟩
  refine ⟨z,_,_,_,rfl,rfl,SqL.of upd_same,hlim,_,_,rfl,1,_,rfl,?_,?_⟩
  ·rw [List.length_map,hlim']
   refine ⟨by decide,by decide,?_,?_⟩ <;> split <;> split <;> omega
  have S6:=S5.keep t6
  generalize upd H5 z (.lst [.int 51,.int 25])=H6 at S6 ⊢
  refine for_range (fun i σ H'=>∃ bs kvs bf ds F today dts zi hs ts,∃ (v6 v7 v8 v9 v10:Option V),σ=[some (.ref a),some (.bl b1),some (.ref nm),some (.ref p),some (.ref aL),some (.ref tl),v6,v7,v8,v9,v10]/\KT C K H1 H' p dl dt db aL hd kd ls dd tl big bs kvs bf ds F today i dts zi hs ts/\(b1=false->today<=2*(i:Int)))
   ⟨[],[],[],[],1,0,[],[],[],[],none,none,none,none,none,rfl,S6,fun _=>by decide⟩ ?_ ?_
  ·rintro i σ H6 hi hh
   obtain ⟨bs,kvs,bf,ds,Fn,today,dts,zi,hs,ts,v6,v7,v8,v9,v10,rfl,S,tb⟩:=hh
   have hi62:i+1 < ns.length/\i+1<=50:=by
    rw [List.length_map,hlim'] at hi
    revert hi
    split <;> split <;> omega
   obtain ⟨c,hc⟩ : ∃ c,ns[1+i]?=some c:=⟨_,List.getElem?_eq_getElem (by omega)⟩
   have ac:atI (ns.map V.int) ((1:Int)+i)=some (.int c):=by rw [show ((1:Int)+i)=((1+i:Nat):Int) by omega]; exact atI_nat (by rw [List.getElem?_map,hc]; rfl)
   refine ⟨_,rfl,_,rfl,a,_,_,_,rfl,rfl,(s1.trans S.S.sm).seq hS,ac,_,rfl,c,_,rfl,by omega,by omega,fun cell ce0 cel => ?_⟩
   refine ⟨_,rfl,_,rfl,_,rfl,_,rfl,a,_,_,_,rfl,rfl,(s1.trans S.S.sm).seq hS,ac,_,rfl,_,rfl,aL,hd,kd,ls,dd,big,Fn,today,i,ds,zi,nm,ws,c,cell,b1,rfl,S.S.L,SqL.of (S.S.sm _ _ hnm),wl,ww,ce0,cel,S.S.d0,S.S.d1,tb,by omega,fun d q H7 M' zs' today' s7 hq st tb' => ?_⟩
   have S7:=S.keep s7
   have dd':=st.day S.S.d0 S.S.d1
   refine ⟨_,rfl,_,rfl,_,p,dl,dt,db,bs,kvs,today,bf,Fn,i,_,d,M',zs',today',q,rfl,S7.S.P,SqT.of hq,st,by omega,fun q2 kvs' bf' H8 P8 hq2 k8 => ?_⟩
   have L8:=S7.S.lg k8
   have tk8:=S7.S.P.bk.tk k8
   have hq8:=tk8 _ _ hq
   refine ⟨_,rfl,_,rfl,aL,hd,kd,ls,dd,big,Fn,today,i,ds,zi,d,M',zs',today',q,rfl,L8,hq8,st,by omega,fun zi' H9 k9 tk9 ez ad l9 => ?_⟩
   subst ez
   have S9:=S7.S.next P8 k8 k9 tk9 ad l9 (dts':=dts ++ [d.dt]) ((((S7.S.D1.keep tk8).snoc (d.dv hq2)).keep tk9)) ((((S7.S.D2.keep tk8).snoc (d.dv hq8)).keep tk9)) dd'.1 dd'.2
   have hq9:=tk9 _ _ hq8
   have tsl:=paired_len S7.pt
   have hn7:=S7.hn
   have ht9:=(S7.S.fm (Y:=[]) k8 k9 ad tl _ S7.nt S7.ht).1
   refine ⟨_,rfl,.inl ⟨rfl,_,SqL.of ht9⟩,_,rfl,aL,hd,kd,ls,dd,big,_,_,_,_,zi',rfl,S9.L,fun r HT sT nr hrT => ?_⟩
   have htT:=sT _ _ ht9
   refine ⟨tl,_,_,rfl,rfl,htT,small1000 (by omega),?_⟩
   have SN:=S7.next st k8 k9 tk9 ad S9 hq9 sT hrT nr
   generalize upd HT tl (.lst (ts ++ [.ref r]))=HU at SN ⊢
   obtain ⟨lk,lks,hls,ldk,lll,lval⟩:=SN.S.L.s.hl
   refine ⟨_,rfl,aL,_,rfl,dg SN.S.L.s.ha hk_lasts,ls,lk,lks,rfl,hls,ldk.keys,by rw [ldk.len]; omega,fun pn ss pm so hpn => ?_⟩
   have tp:=Same.upd (o:=.lst (ss.map V.str)) hpn
   have hpn1:(upd HU pn (.lst (ss.map V.str))) pn=some (.lst (ss.map V.str)):=upd_same
   have Sp:=SN.keep tp
   generalize upd HU pn (.lst (ss.map V.str))=HV at hpn1 Sp ⊢
   dsimp only [gName]
   refine seqN (fun σ' H'=>Same HV H'/\∃ v10':Option V,σ'=[some (.ref a),some (.bl b1),some (.ref nm),some (.ref p),some (.ref aL),some (.ref tl),some (.int ((1:Int)+i)),some (.int cell),some (.ref q),some (.ref pn),v10']) ?_ (fun N hN => ?_)
   rotate_left
   ·refine ⟨_,rfl,(by show 0<=sizeLine; decide),fun z hz => ?_⟩
    have tz:=Same.upd (o:=.lst []) hz
    have Sz:=Sp.keep tz
    have hpz:=tz _ _ hpn1
    refine ⟨pn,z,_,rfl,rfl,SqL.of hpz,SqL.of upd_same,_,rfl,ite2 (fun hne => ?_) (fun _=>hN _ _ ⟨tz,_,rfl⟩)⟩
    generalize upd HV z (.lst [])=HW at Sz hpz tz ⊢
    have spos:0 < ss.length:=by
     cases ss with
     | nil=>cases hne
     | cons _ _=>simp
    have em:=emod_in (cell / 11) (m:=(ss.length:Int)) (by omega)
    obtain ⟨v,hv,mv⟩:=at_int (xs:=ss.map V.str) (e:=cell / 11 % (ss.length:Int)) em.1 (by rw [List.length_map]; exact em.2)
    obtain ⟨x,mx,rfl⟩:=List.mem_map.mp mv
    obtain ⟨u,hu,rfl,uk⟩:=lval.m x (pm.mem_iff.mp mx)
    refine ⟨_,rfl,_,rfl,_,_,rfl,rfl,⟨by decide,b9⟩,_,rfl,pn,_,rfl,.inl (SqL.of hpz),_,_,rfl,rfl,by rw [List.length_map]; show (0:Int) < (ss.length:Int); omega,pn,_,_,_,rfl,rfl,SqL.of hpz,by rw [List.length_map]; exact hv,?_⟩
    exact ⟨_,rfl,_,rfl,_,rfl,_,rfl,_,p,dl,dt,db,_,_,_,_,_,_,aL,hd,kd,ls,dd,big,_,_,zi',_,tl,_,_,_,u,rfl,Sz.S.P,Sz.S.L,Sz.lt,Sz.w,hu,uk,fun HX sx=>⟨_,rfl,iteF (hN _ _ ⟨tz.trans sx,_,rfl⟩)⟩⟩
   rintro _ HY ⟨sY,v10',rfl⟩
   have SY:=Sp.keep sY
   exact ⟨_,rfl,_,rfl,_,rfl,_,rfl,_,_,rfl,rfl,⟨by decide,b9⟩,_,p,dl,dt,db,_,_,_,_,_,_,aL,hd,kd,ls,dd,big,_,_,zi',_,nm,ws,cell / 13,rfl,SY.S.P,SY.S.L,SqL.of (SY.S.sm _ _ hnm),wl,ww,Int.ediv_nonneg ce0 (by decide),fun HZ sz=>⟨_,rfl,iteF ⟨_,_,_,_,_,_,_,_,_,_,_,_,_,_,_,rfl,SY.keep sz,tb'⟩⟩⟩
  ·rintro σ H6 hh
   obtain ⟨bs,kvs,bf,ds,Fn,today,dts,zi,hs,ts,v6,v7,v8,v9,v10,rfl,S,tb⟩:=hh
   obtain ⟨lk,lks,hls,ldk,lll,lval⟩:=S.S.L.s.hl
   have n60:=S.S.L.g.n60
   refine ⟨_,rfl,aL,_,rfl,dg S.S.L.s.ha hk_lasts,ls,lk,lks,rfl,hls,ldk.keys,by rw [ldk.len]; omega,fun pn ss pm so hpn => ?_⟩
   have tp:=Same.upd (o:=.lst (ss.map V.str)) hpn
   have hpn1:(upd H6 pn (.lst (ss.map V.str))) pn=some (.lst (ss.map V.str)):=upd_same
   generalize upd H6 pn (.lst (ss.map V.str))=H7 at tp hpn1 ⊢
   refine ⟨pn,rfl,⟨_,SqL.of hpn1⟩,?_⟩
   refine for_list (xs:=ss.map V.str) (fun j σ H'=>∃ (v10':Option V),σ=[some (.ref a),some (.bl b1),some (.ref nm),some (.ref p),some (.ref aL),some (.ref tl),v6,v7,v8,v9,v10']/\Same H7 H') ⟨_,rfl,Same.refl _⟩ (fun j σ H' _ hh=>by obtain ⟨_,_,q⟩:=hh; exact SqL.of (q _ _ hpn1)) ?_ ?_
   ·rintro j v σ H8 hv hh
    obtain ⟨v10',rfl,s8⟩:=hh
    rw [List.getElem?_map] at hv
    obtain ⟨x,hx,rfl⟩:=Option.map_eq_some_iff.mp hv
    obtain ⟨u,hu,rfl,uk⟩:=lval.m x (pm.mem_iff.mp (List.mem_of_getElem? hx))
    have S8:=(S.keep tp).keep s8
    exact ⟨_,rfl,_,rfl,_,rfl,_,rfl,_,p,dl,dt,db,_,_,_,_,_,_,aL,hd,kd,ls,dd,big,_,_,zi,_,tl,_,_,_,u,rfl,S8.S.P,S8.S.L,S8.lt,S8.w,hu,uk,fun HX sx=>⟨_,rfl,iteF ⟨_,rfl,s8.trans sx⟩⟩⟩
   ·rintro σ H8 hh
    exact k _
end
end K76
namespace K76
open PySem PySem.Spec PyProof.Rows L2 GM TM
structure Dn (K:PySem.W.Frag)(x:Str)(st:Stmt)(ps:List Str):Prop where
 ex : ∃ (f:Addr) (fd:FuncData),PySem.W.nsIn K mainGlobals x=some (some (.ref f))/\Fun K x x st f fd/\Binds K fd ps []
theorem Dn.mk' {K:PySem.W.Frag}{x:Str}{st:Stmt}{ps:List Str}{f:Addr}{oc:Value}{od an:Option Addr}{osl:Array (Option Value)}{kV doc pm cdv ct:Value}(a:PySem.W.nsIn K mainGlobals x=some (some (.ref f)))
  (l:K.lookup f=some ⟨oc,od,.func (PySem.W.fnOf x x (defArgs st) (defBody st) (defScope st) .none kV doc pm an cdv ct),osl⟩) (c:PySem.W.codeIn K cdv x=true) (k:PySem.W.keepIn K (.ref f)=true)
  (hb : ∀ (kV doc pm:Value) (an:Option Addr) (cdv ct:Value) (us:List Value),us.length=ps.length->bindArgs (PySem.W.fnOf x x (defArgs st) (defBody st) (defScope st) .none kV doc pm an cdv ct) ⟨us,[]⟩=pure (ps.zip us)):Dn K x st ps :=
 ⟨f,_,a,fun_mk (st:=st) l c k,(fun_mk (st:=st) l c k).binds hb⟩
theorem Dn.cal {P:Program}{w:World}{K:PySem.W.Frag}{mg:Str->Option Value}{base h:Heap}{CX:CXT}{k:Nat}{x:Str}{st:Stmt}{ps:List Str}{sp:Sp}(D:Dn K x st ps)(X:K.In h)(G:h.Ns mainGlobals mg)
  (ok : ∀ {f:Addr} {fd:FuncData},Fun K x x st f fd->FnOk P w K mg base CX k f fd ps sp):Cal P w K mg base CX k x ps sp:=by
 obtain ⟨f,fd,a,F,b⟩:=D.ex
 exact ⟨f,fd,PySem.W.mg_of X G a,F.kp,b,ok F⟩
structure NouK (K:PySem.W.Frag)(aN:Addr):Prop where
 m:PySem.W.nsIn K mainGlobals "NOUGHT" = some (some (.ref aN))
 s : ∀ H:Hp,SqT K H aN [.int 0,.int 1]
theorem NouK.mk' {K:PySem.W.Frag}{aN:Addr}{od:Option Addr}{t0 t1:Tok}{n:Nat}{sl:Array (Option Value)}(a:PySem.W.nsIn K mainGlobals "NOUGHT" = some (some (.ref aN)))
  (l:K.lookup aN=some ⟨.type "tuple",od,.seq #[.int 0 t0,.int 1 t1] n,sl⟩) : ∃ aN:Addr,NouK K aN :=
 ⟨aN,a,fun _=>.inr ⟨_,_,_,l,rfl,rfl,(by show 2<=sizeLine; decide),.cons ⟨_,rfl⟩ (.cons ⟨_,rfl⟩ .nil)⟩⟩
structure MDn (K:PySem.W.Frag)(C:Addr)(m qual:Str)(st:Stmt)(ps:List Str):Prop where
 ex : ∃ (f:Addr) (fd:FuncData),Meth K C m f/\Fun K m qual st f fd/\Binds K fd ps []
theorem MDn.mk' {K:PySem.W.Frag}{C:Addr}{m qual:Str}{st:Stmt}{ps:List Str}{f:Addr}{oc:Value}{od an:Option Addr}{osl:Array (Option Value)}{kV doc pm cdv ct:Value}(a:PySem.W.findIn K (.ref C) m=some (some (.ref f)))(i:PySem.W.isFn K (.ref f)=true)
  (l:K.lookup f=some ⟨oc,od,.func (PySem.W.fnOf m qual (defArgs st) (defBody st) (defScope st) .none kV doc pm an cdv ct),osl⟩) (c:PySem.W.codeIn K cdv qual=true) (k:PySem.W.keepIn K (.ref f)=true)
  (hb : ∀ (kV doc pm:Value) (an:Option Addr) (cdv ct:Value) (us:List Value),us.length=ps.length->bindArgs (PySem.W.fnOf m qual (defArgs st) (defBody st) (defScope st) .none kV doc pm an cdv ct) ⟨us,[]⟩=pure (ps.zip us)):MDn K C m qual st ps :=
 ⟨f,_,⟨a,i,k⟩,fun_mk (st:=st) l c k,(fun_mk (st:=st) l c k).binds hb⟩
theorem MDn.cal {P:Program}{w:World}{K:PySem.W.Frag}{mg:Str->Option Value}{base:Heap}{CX:CXT}{k:Nat}{C:Addr}{m qual:Str}{st:Stmt}{ps:List Str}{sp:Sp}(D:MDn K C m qual st ps)(ok : ∀ {f:Addr} {fd:FuncData},Fun K m qual st f fd->FnOk P w K mg base CX k f fd ps sp):MCal P w K mg base CX k C m ps sp:=by
 obtain ⟨f,fd,hm,F,b⟩:=D.ex
 exact ⟨f,fd,hm,b,ok F⟩
structure ClsK (K:PySem.W.Frag)(C:Addr):Prop where
 mgC:PySem.W.nsIn K mainGlobals "Books" = some (some (.ref C))
 cl:Cls K C
 nE:NoAttr K C "deeds"
 nT:NoAttr K C "things"
 nD:NoAttr K C "day"
 nB:NoAttr K C "before"
 mks:PySem.W.makesIn K C=true
 kc:PySem.W.keepIn K (.ref C)=true
 m_sInit:MDn K C "__init__" "Books.__init__" sInit ["self"]
 m_sHad:MDn K C "refuse_had" "Books.refuse_had" sHad ["self","name"]
 m_sNote:MDn K C "note" "Books.note" sNote ["self","deed","changed"]
 m_sTake:MDn K C "take" "Books.take" sTake ["self","name","ware","many","last"]
 m_sOneOf:MDn K C "is_one_of" "Books.is_one_of" sOneOf ["self","name","words"]
 m_sNoSrc:MDn K C "refuse_no_source" "Books.refuse_no_source" sNoSrc ["self","source"]
 m_sNoGoal:MDn K C "refuse_no_goal" "Books.refuse_no_goal" sNoGoal ["self","source","goal"]
 m_sThing:MDn K C "thing_of" "Books.thing_of" sThing ["self","name"]
 m_sTot:MDn K C "total" "Books.total" sTot ["self","name"]
 m_sToPour:MDn K C "refuse_to_pour" "Books.refuse_to_pour" sToPour ["self","source","many"]
 m_sPour:MDn K C "pour" "Books.pour" sPour ["self","source","goal","many"]
 m_sGive:MDn K C "give" "Books.give" sGive ["self","source","name","many"]
 m_sGo:MDn K C "go" "Books.go" sGo ["self","day"]
 m_sCalled:MDn K C "called" "Books.called" sCalled ["self","lot"]
theorem cls_mk {K:PySem.W.Frag}{C:Addr}(mgC:PySem.W.nsIn K mainGlobals "Books" = some (some (.ref C)))(cl:Cls K C)(nE:NoAttr K C "deeds")(nT:NoAttr K C "things")(nD:NoAttr K C "day")(nB:NoAttr K C "before")(mk:PySem.W.makesIn K C=true)(kc:PySem.W.keepIn K (.ref C)=true)
  (m_sInit:MDn K C "__init__" "Books.__init__" sInit ["self"]) (m_sHad:MDn K C "refuse_had" "Books.refuse_had" sHad ["self","name"]) (m_sNote:MDn K C "note" "Books.note" sNote ["self","deed","changed"]) (m_sTake:MDn K C "take" "Books.take" sTake ["self","name","ware","many","last"]) (m_sOneOf:MDn K C "is_one_of" "Books.is_one_of" sOneOf ["self","name","words"]) (m_sNoSrc:MDn K C "refuse_no_source" "Books.refuse_no_source" sNoSrc ["self","source"]) (m_sNoGoal:MDn K C "refuse_no_goal" "Books.refuse_no_goal" sNoGoal ["self","source","goal"]) (m_sThing:MDn K C "thing_of" "Books.thing_of" sThing ["self","name"]) (m_sTot:MDn K C "total" "Books.total" sTot ["self","name"]) (m_sToPour:MDn K C "refuse_to_pour" "Books.refuse_to_pour" sToPour ["self","source","many"]) (m_sPour:MDn K C "pour" "Books.pour" sPour ["self","source","goal","many"]) (m_sGive:MDn K C "give" "Books.give" sGive ["self","source","name","many"]) (m_sGo:MDn K C "go" "Books.go" sGo ["self","day"]) (m_sCalled:MDn K C "called" "Books.called" sCalled ["self","lot"]) : ∃ C:Addr,ClsK K C :=
 ⟨C,mgC,cl,nE,nT,nD,nB,mk,kc,m_sInit,m_sHad,m_sNote,m_sTake,m_sOneOf,m_sNoSrc,m_sNoGoal,m_sThing,m_sTot,m_sToPour,m_sPour,m_sGive,m_sGo,m_sCalled⟩
theorem mst_mk {K:PySem.W.Frag}{tk:Tok}{x:Str}{n:Int}(h:PySem.W.nsIn K mainGlobals x=some (some (.int n tk))) : ∃ tk:Tok,PySem.W.nsIn K mainGlobals x=some (some (.int n tk)):=⟨_,h⟩
theorem fgs_mk {K:PySem.W.Frag}{tk:Tok}{x y z:Str}(h:PySem.W.nsIn K mainGlobals z=some (some (.str x tk)))(e:x=y) : ∃ tk:Tok,PySem.W.nsIn K mainGlobals z=some (some (.str y tk)):=⟨_,e ▸ h⟩
structure ErTK (K:PySem.W.Frag)(cP cN:Addr):Prop where
 ex:PySem.W.excIn K cN bmV "ValueError.__new__" = true
 k:ExK K cN
 ct:CtK K cN
 s:PySem.W.subIn K (.ref cN) (.ref cN)=some true
 iP:PySem.W.kitOne K (.ref cN) (.ref cP)=some true
 iV:PySem.W.kitOne K (.ref cN) (.type "ValueError")=some true
 mP:PySem.W.nsIn K mainGlobals "PhialError" = some (some (.ref cP))
 mN:PySem.W.nsIn K mainGlobals "NoThing" = some (some (.ref cN))
theorem ErTK.er {K:PySem.W.Frag}{mg:Str->Option Value}{h:Heap}{cP cN:Addr}(E:ErTK K cP cN)(X:K.In h)(G:h.Ns mainGlobals mg):ErT K mg cP cN:=⟨E.ex,E.k,E.ct,E.s,E.iP,E.iV,PySem.W.mg_of X G E.mP,PySem.W.mg_of X G E.mN⟩
theorem err_mk {K:PySem.W.Frag}{cP cN:Addr}(mP:PySem.W.nsIn K mainGlobals "PhialError" = some (some (.ref cP)))(mN:PySem.W.nsIn K mainGlobals "NoThing" = some (some (.ref cN)))(ex:PySem.W.excIn K cN bmV "ValueError.__new__" = true)(k:ExK K cN)(ct:CtK K cN)(s:PySem.W.subIn K (.ref cN) (.ref cN)=some true)
  (iP:PySem.W.kitOne K (.ref cN) (.ref cP)=some true) (iV:PySem.W.kitOne K (.ref cN) (.type "ValueError")=some true) : ∃ cP cN:Addr,ErTK K cP cN:=⟨_,_,ex,k,ct,s,iP,iV,mP,mN⟩
structure AllD (K:PySem.W.Frag):Prop where
 dCell:Dn K "_law_cell_at" sCell ["_law_script","_law_k"]
 dMixed:Dn K "_law_mixed" sMixed ["_law_cell","_law_k"]
 dNames:Dn K "_law_names" sNames ["_law_seed"]
 dNew:Dn K "_law_new" sNew ["_law_big"]
 dFresh:Dn K "_law_fresh" sFresh ["_law_here","_law_name"]
 dLtot:Dn K "_law_total" sLtot ["_law_here","_law_name"]
 dGood:Dn K "_law_good" sGood ["_law_here","_law_names_here","_law_cell"]
 dWord:Dn K "_law_word_by" sWord ["_law_left"]
 dNameBy:Dn K "_law_name_by" sNameBy ["_law_known","_law_left"]
 dTold:Dn K "_law_told_deed" sTold ["_law_here","_law_cell"]
 dCan:Dn K "_law_can" sCan ["_law_here","_law_deed"]
 dNext:Dn K "_law_next" sNext ["_law_here","_law_names_here","_law_own","_law_cell","_law_by_digits"]
 dIsWare:Dn K "is_ware" sIsWare ["thing"]
 dRNoName:Dn K "refuse_no_name" sRNoName ["thing"]
 dIsWh:Dn K "is_whole_number" sIsWh ["thing"]
 dRNoSp:Dn K "refuse_no_spoons" sRNoSp ["many"]
 dRNoDay:Dn K "refuse_no_day" sRNoDay ["day"]
 dNewLot:Dn K "new_lot" sNewLot ["name","many","last_day"]
 dNewV:Dn K "new_vessel" sNewV ["word"]
 dGcd:Dn K "common_divisor" sGcd ["one","other"]
 dLow:Dn K "lowest_terms" sLow ["top","bottom"]
 dPlus:Dn K "plus" sPlus ["one","other"]
 dTotal:Dn K "total_of" sTotal ["holding"]
 dOver:Dn K "over" sOver ["one","other"]
 dTimes:Dn K "times" sTimes ["one","other"]
 dLess:Dn K "less" sLess ["one","other"]
 dMinus:Dn K "minus" sMinus ["one","other"]
 dShared:Dn K "shared" sShared ["holding","many"]
 dPut:Dn K "put_together" sPut ["one","other"]
 dWith:Dn K "with_holding" sWith ["thing","holding","ways"]
 dPoured:Dn K "poured" sPoured ["source","goal","many","number"]
 dDo:Dn K "_law_do" sDo ["_law_books","_law_deed"]
 dLpour:Dn K "_law_pour" sLpour ["_law_here","_law_source","_law_goal","_law_many"]
 dApply:Dn K "_law_apply" sApply ["_law_here","_law_deed"]
 dLtots:Dn K "_law_totals" sLtots ["_law_here"]
 dWhole:Dn K "_law_whole" sWhole ["_law_found"]
 dLrow:Dn K "_law_row" sLrow ["_law_here","_law_totals_here","_law_lot","_law_name","_law_row_here"]
 dLcalled:Dn K "_law_called" sLcalled ["_law_books","_law_here","_law_totals_here","_law_lot"]
 dNoLot:Dn K "_law_no_lot" sNoLot ["_law_books","_law_here","_law_names_here","_law_cell"]
 z0:PySem.W.nsIn K mainGlobals "isinstance" = some none
 z1:PySem.W.nsIn K mainGlobals "int" = some none
 z2:PySem.W.nsIn K mainGlobals "bool" = some none
 z3:PySem.W.nsIn K mainGlobals "tuple" = some none
 z4:PySem.W.nsIn K mainGlobals "str" = some none
 z5:PySem.W.nsIn K mainGlobals "len" = some none
 z6:PySem.W.nsIn K mainGlobals "range" = some none
 z7:PySem.W.nsIn K mainGlobals "min" = some none
 z8:PySem.W.nsIn K mainGlobals "max" = some none
 z9:PySem.W.nsIn K mainGlobals "abs" = some none
 z10:PySem.W.nsIn K mainGlobals "list" = some none
 z11:PySem.W.nsIn K mainGlobals "all" = some none
 z12:PySem.W.nsIn K mainGlobals "sorted" = some none
 z13:PySem.W.nsIn K mainGlobals "sum" = some none
 z14:PySem.W.nsIn K mainGlobals "dict" = some none
 z15:PySem.W.nsIn K mainGlobals "zip" = some none
 z16:PySem.W.nsIn K mainGlobals "ValueError" = some none
 nou : ∃ aN:Addr,NouK K aN
 cls : ∃ C:Addr,ClsK K C
 mM : ∃ t:Tok,PySem.W.nsIn K mainGlobals "MOST_LETTERS" = some (some (.int 8 t))
 mS : ∃ t:Tok,PySem.W.nsIn K mainGlobals "MOST_SPOONS" = some (some (.int 1000000 t))
 mY : ∃ t:Tok,PySem.W.nsIn K mainGlobals "LATEST_DAY" = some (some (.int 1000000 t))
 mL : ∃ t:Tok,PySem.W.nsIn K mainGlobals "LETTERS" = some (some (.str LET t))
 err : ∃ cP cN:Addr,ErTK K cP cN
theorem AllD.txt {K:PySem.W.Frag}{mg:Str->Option Value}{h:Heap}(A:AllD K)(X:K.In h)(G:h.Ns mainGlobals mg):Txt mg:=⟨PySem.W.mg_none_of X G A.z0,PySem.W.mg_none_of X G A.z1,PySem.W.mg_none_of X G A.z2,PySem.W.mg_none_of X G A.z3,PySem.W.mg_none_of X G A.z4,PySem.W.mg_none_of X G A.z5,PySem.W.mg_none_of X G A.z6,PySem.W.mg_none_of X G A.z7,PySem.W.mg_none_of X G A.z8,PySem.W.mg_none_of X G A.z9,PySem.W.mg_none_of X G A.z10,PySem.W.mg_none_of X G A.z11,PySem.W.mg_none_of X G A.z12,PySem.W.mg_none_of X G A.z13,PySem.W.mg_none_of X G A.z14,PySem.W.mg_none_of X G A.z15,PySem.W.mg_none_of X G A.z16⟩
theorem law_ok {P:Program}{w:World}{K:PySem.W.Frag}{mg:Str->Option Value}{base h:Heap}{f:Addr}{fd:FuncData}(X:K.In h)(G:h.Ns mainGlobals mg)(A:AllD K)(F:Fun K "law" "law" sLaw f fd):FnOk P w K mg base CX0 9 f fd ["_law_script"] (spLaw K):=by
 have T:Txt mg:=A.txt X G
 obtain ⟨aN,NK⟩:=A.nou
 have mN:=PySem.W.mg_of X G NK.m
 obtain ⟨C,CK⟩:=A.cls
 have L:Cl K mg C:=⟨CK.cl,CK.nE,CK.nT,CK.nD,CK.nB⟩
 obtain ⟨fI,fdI,hI,FI,bI⟩:=CK.m_sInit.ex
 have GI:FnOk P w K mg base CX0 1 fI fdI ["self"] (spInit C):=ok_init FI L
 obtain ⟨t0,h0⟩:=A.mM
 have mM:=PySem.W.mg_of X G h0
 obtain ⟨t1,h1⟩:=A.mS
 have mS:=PySem.W.mg_of X G h1
 obtain ⟨t2,h2⟩:=A.mY
 have mY:=PySem.W.mg_of X G h2
 obtain ⟨tl,hl⟩:=A.mL
 have mL:=PySem.W.mg_of X G hl
 obtain ⟨cP,cN,EK⟩:=A.err
 have R:ErT K mg cP cN:=EK.er X G
 have p_cell:Cal P w K mg base CX0 1 "_law_cell_at" ["_law_script","_law_k"] (spCell K):=A.dCell.cal X G fun F=>ok_cell F T
 have p_mixed:Cal P w K mg base CX0 1 "_law_mixed" ["_law_cell","_law_k"] (spMixed):=A.dMixed.cal X G fun F=>ok_mixed F
 have p_names:Cal P w K mg base CX0 1 "_law_names" ["_law_seed"] (spNames):=A.dNames.cal X G fun F=>ok_names F T
 have p_new:Cal P w K mg base CX0 1 "_law_new" ["_law_big"] (spNew):=A.dNew.cal X G fun F=>ok_new F
 have p_fresh:Cal P w K mg base CX0 1 "_law_fresh" ["_law_here","_law_name"] (spFresh):=A.dFresh.cal X G fun F=>ok_fresh F T
 have p_ltot:Cal P w K mg base CX0 1 "_law_total" ["_law_here","_law_name"] (spLtot):=A.dLtot.cal X G fun F=>ok_ltot F T
 have p_good:Cal P w K mg base CX0 3 "_law_good" ["_law_here","_law_names_here","_law_cell"] (spGood K):=A.dGood.cal X G fun F=>ok_good F T (p_fresh.mono (by decide)) (p_ltot.mono (by decide))
 have p_word:Cal P w K mg base CX0 1 "_law_word_by" ["_law_left"] (spWord):=A.dWord.cal X G fun F=>ok_word F T
 have p_nameby:Cal P w K mg base CX0 2 "_law_name_by" ["_law_known","_law_left"] (spNameBy K):=A.dNameBy.cal X G fun F=>ok_nameby F T (p_word.mono (by decide))
 have p_told:Cal P w K mg base CX0 3 "_law_told_deed" ["_law_here","_law_cell"] (spTold):=A.dTold.cal X G fun F=>ok_told F T (p_word.mono (by decide)) (p_nameby.mono (by decide))
 have p_can:Cal P w K mg base CX0 2 "_law_can" ["_law_here","_law_deed"] (spCan):=A.dCan.cal X G fun F=>ok_can F (p_fresh.mono (by decide)) (p_ltot.mono (by decide))
 have p_next:Cal P w K mg base CX0 4 "_law_next" ["_law_here","_law_names_here","_law_own","_law_cell","_law_by_digits"] (spNext K):=A.dNext.cal X G fun F=>ok_next F (p_good.mono (by decide)) (p_told.mono (by decide)) (p_can.mono (by decide))
 have p_isware:Cal P w K mg base CX0 1 "is_ware" ["thing"] (spIsWare K):=A.dIsWare.cal X G fun F=>ok_isware F T mM mL
 have p_noname:Cal P w K mg base CX0 2 "refuse_no_name" ["thing"] (spNoName):=A.dRNoName.cal X G fun F=>ok_noname F (p_isware.mono (by decide))
 have p_iswh:Cal P w K mg base CX0 1 "is_whole_number" ["thing"] (spWh):=A.dIsWh.cal X G fun F=>ok_iswh F T
 have p_nosp:Cal P w K mg base CX0 2 "refuse_no_spoons" ["many"] (spNoSp):=A.dRNoSp.cal X G fun F=>ok_nosp F mS (p_iswh.mono (by decide))
 have p_noday:Cal P w K mg base CX0 2 "refuse_no_day" ["day"] (spNoDay):=A.dRNoDay.cal X G fun F=>ok_noday F mY (p_iswh.mono (by decide))
 have p_newlot:Cal P w K mg base CX0 1 "new_lot" ["name","many","last_day"] (spNewLot):=A.dNewLot.cal X G fun F=>ok_newlot F
 have q_had:MCal P w K mg base CX0 1 C "refuse_had" ["self","name"] (spHad C):=CK.m_sHad.cal fun F=>ok_had F L
 have q_note:MCal P w K mg base CX0 1 C "note" ["self","deed","changed"] (spNote C):=CK.m_sNote.cal fun F=>ok_note F T L
 have q_take:MCal P w K mg base CX0 4 C "take" ["self","name","ware","many","last"] (spTake C):=CK.m_sTake.cal fun F=>ok_take F L (p_noname.mono (by decide)) (p_nosp.mono (by decide)) (p_noday.mono (by decide)) (p_newlot.mono (by decide)) (q_had.mono (by decide)) (q_note.mono (by decide))
 have p_newv:Cal P w K mg base CX0 1 "new_vessel" ["word"] (spNewV):=A.dNewV.cal X G fun F=>ok_newv F
 have p_gcd:Cal P w K mg base CX0 1 "common_divisor" ["one","other"] (spGcd):=A.dGcd.cal X G fun F=>ok_gcd F
 have p_low:Cal P w K mg base CX0 2 "lowest_terms" ["top","bottom"] (spLow):=A.dLow.cal X G fun F=>ok_low F (p_gcd.mono (by decide))
 have p_plus:Cal P w K mg base CX0 3 "plus" ["one","other"] (spPlus K):=A.dPlus.cal X G fun F=>ok_plus F mN NK.s (p_low.mono (by decide))
 have p_total:Cal P w K mg base CX0 4 "total_of" ["holding"] (spTotal K):=A.dTotal.cal X G fun F=>ok_total F mN NK.s (p_plus.mono (by decide))
 have p_over:Cal P w K mg base CX0 3 "over" ["one","other"] (spOver K):=A.dOver.cal X G fun F=>ok_over F mN NK.s (p_low.mono (by decide))
 have p_times:Cal P w K mg base CX0 3 "times" ["one","other"] (spTimes K):=A.dTimes.cal X G fun F=>ok_times F (p_low.mono (by decide))
 have p_less:Cal P w K mg base CX0 1 "less" ["one","other"] (spLess K):=A.dLess.cal X G fun F=>ok_less F
 have p_minus:Cal P w K mg base CX0 3 "minus" ["one","other"] (spMinus K):=A.dMinus.cal X G fun F=>ok_minus F (p_less.mono (by decide)) (p_low.mono (by decide))
 have p_shared:Cal P w K mg base CX0 5 "shared" ["holding","many"] (spShared K):=A.dShared.cal X G fun F=>ok_shared F mN NK.s (p_total.mono (by decide)) (p_over.mono (by decide)) (p_times.mono (by decide)) (p_minus.mono (by decide))
 have p_put:Cal P w K mg base CX0 4 "put_together" ["one","other"] (spPut):=A.dPut.cal X G fun F=>ok_put F T mN NK.s (p_plus.mono (by decide))
 have p_with:Cal P w K mg base CX0 1 "with_holding" ["thing","holding","ways"] (spWith):=A.dWith.cal X G fun F=>ok_with F
 have p_poured:Cal P w K mg base CX0 6 "poured" ["source","goal","many","number"] (spPoured):=A.dPoured.cal X G fun F=>ok_poured F T (p_shared.mono (by decide)) (p_put.mono (by decide)) (p_with.mono (by decide))
 have q_oneof:MCal P w K mg base CX0 2 C "is_one_of" ["self","name","words"] (spOneOf C K):=CK.m_sOneOf.cal fun F=>ok_oneof F L (p_isware.mono (by decide))
 have q_nosrc:MCal P w K mg base CX0 3 C "refuse_no_source" ["self","source"] (spNoSrc C):=CK.m_sNoSrc.cal fun F=>ok_nosrc F L (q_oneof.mono (by decide))
 have q_nogoal:MCal P w K mg base CX0 3 C "refuse_no_goal" ["self","source","goal"] (spNoGoal C):=CK.m_sNoGoal.cal fun F=>ok_nogoal F L (p_noname.mono (by decide)) (q_oneof.mono (by decide))
 have q_thing:MCal P w K mg base CX0 3 C "thing_of" ["self","name"] (spThing C):=CK.m_sThing.cal fun F=>ok_thing F L (q_oneof.mono (by decide))
 have q_tot:MCal P w K mg base CX0 5 C "total" ["self","name"] (spTot C):=CK.m_sTot.cal fun F=>ok_tot F L (q_thing.mono (by decide)) (p_total.mono (by decide))
 have q_topour:MCal P w K mg base CX0 6 C "refuse_to_pour" ["self","source","many"] (spToPour C):=CK.m_sToPour.cal fun F=>ok_topour F T L (q_tot.mono (by decide))
 have q_pour:MCal P w K mg base CX0 7 C "pour" ["self","source","goal","many"] (spPour C):=CK.m_sPour.cal fun F=>ok_pour F T L (p_nosp.mono (by decide)) (p_newv.mono (by decide)) (p_poured.mono (by decide)) (q_nosrc.mono (by decide)) (q_nogoal.mono (by decide)) (q_topour.mono (by decide)) (q_note.mono (by decide))
 have q_give:MCal P w K mg base CX0 7 C "give" ["self","source","name","many"] (spGive C):=CK.m_sGive.cal fun F=>ok_give F T L (p_nosp.mono (by decide)) (p_newv.mono (by decide)) (p_poured.mono (by decide)) (q_nosrc.mono (by decide)) (p_noname.mono (by decide)) (q_had.mono (by decide)) (q_topour.mono (by decide)) (q_note.mono (by decide))
 have q_go:MCal P w K mg base CX0 4 C "go" ["self","day"] (spGo C):=CK.m_sGo.cal fun F=>ok_go F L (p_noday.mono (by decide)) (q_note.mono (by decide))
 have p_do:Cal P w K mg base CX0 8 "_law_do" ["_law_books","_law_deed"] (spDo C K):=A.dDo.cal X G fun F=>ok_do F L (q_take.mono (by decide)) (q_pour.mono (by decide)) (q_give.mono (by decide)) (q_go.mono (by decide))
 have p_lpour:Cal P w K mg base CX0 2 "_law_pour" ["_law_here","_law_source","_law_goal","_law_many"] (spLpour):=A.dLpour.cal X G fun F=>ok_lpour F T (p_ltot.mono (by decide))
 have p_apply:Cal P w K mg base CX0 3 "_law_apply" ["_law_here","_law_deed"] (spApply):=A.dApply.cal X G fun F=>ok_apply F T (p_lpour.mono (by decide))
 have p_ltotR:Cal P w K mg base CX0 1 "_law_total" ["_law_here","_law_name"] (spLtotR):=A.dLtot.cal X G fun F=>ok_ltotR F T
 have p_ltots:Cal P w K mg base CX0 2 "_law_totals" ["_law_here"] (spLtots):=A.dLtots.cal X G fun F=>ok_ltots F T (p_ltotR.mono (by decide))
 have p_whole:Cal P w K mg base CX0 1 "_law_whole" ["_law_found"] (spWh):=A.dWhole.cal X G fun F=>ok_whole F T
 have p_lrow:Cal P w K mg base CX0 2 "_law_row" ["_law_here","_law_totals_here","_law_lot","_law_name","_law_row_here"] (spLrow):=A.dLrow.cal X G fun F=>ok_lrow F T (p_whole.mono (by decide))
 have q_called:MCal P w K mg base CX0 4 C "called" ["self","lot"] (spCalled C):=CK.m_sCalled.cal fun F=>ok_called F T L (q_oneof.mono (by decide))
 have p_lcalled:Cal P w K mg base CX0 5 "_law_called" ["_law_books","_law_here","_law_totals_here","_law_lot"] (spLcalled C):=A.dLcalled.cal X G fun F=>ok_lcalled F T L (p_lrow.mono (by decide)) (q_called.mono (by decide))
 have q_oneofA:MCal P w K mg base CX0 2 C "is_one_of" ["self","name","words"] (spOneOfA C K):=CK.m_sOneOf.cal fun F=>ok_oneofA F L (p_isware.mono (by decide))
 have q_calledN:MCal P w K mg base (CXg P w) 4 C "called" ["self","lot"] (spCalledN C cN K):=CK.m_sCalled.cal fun F=>ok_calledN F L R (q_oneofA.mono (by decide))
 have p_nolot:Cal P w K mg base CX0 5 "_law_no_lot" ["_law_books","_law_here","_law_names_here","_law_cell"] (spNoLot C K):=A.dNoLot.cal X G fun F=>ok_nolot F T L R (q_calledN.mono (by decide))
 exact ok_law F T L (PySem.W.mg_of X G CK.mgC) ⟨CK.mks,hI.at_,hI.fn,CK.kc⟩ (GI.mono (by decide)) bI (p_cell.mono (by decide)) (p_mixed.mono (by decide)) (p_names.mono (by decide)) (p_new.mono (by decide)) (p_next.mono (by decide)) (p_do.mono (by decide)) (p_apply.mono (by decide)) (p_ltots.mono (by decide)) (p_lcalled.mono (by decide)) (p_nolot.mono (by decide))
theorem all_mk {l:PySem.W.OpenLaw}{w:World}{K:PySem.W.Frag}{h:Heap}{mg:Str->Option Value}{fa f4:Addr}(X:K.In h)(G:h.Ns mainGlobals mg)(hfa:mg "law" = some (.ref fa))(A:AllD K)
  {od4 an4:Option Addr} {sl4:Array (Option Value)} {oc4 kV4 dc4 pm4 cd4 ct4:Value}
  (a4:PySem.W.nsIn K mainGlobals "law" = some (some (.ref f4))) (l4:K.lookup f4=some ⟨oc4,od4,.func (PySem.W.fnOf "law" "law" (defArgs sLaw) (defBody sLaw) (defScope sLaw) .none kV4 dc4 pm4 an4 cd4 ct4),sl4⟩) (c4:PySem.W.codeIn K cd4 "law" = true) (k4:PySem.W.keepIn K (.ref f4)=true) :
  ∃ fd:FuncData,(∀ (s:Shared) (v:Value),BindsTo s fd ⟨[v],[]⟩ [("_law_script",v)])/\∀ base:Heap,K.In base->base.Ns mainGlobals mg->FnOk l.prog w K mg base CX0 9 fa fd ["_law_script"] (spLaw K):=by
 have e:=hfa.symm.trans (PySem.W.mg_of X G a4)
 cases e
 exact ⟨PySem.W.fnOf "law" "law" (defArgs sLaw) (defBody sLaw) (defScope sLaw) .none kV4 dc4 pm4 an4 cd4 ct4,fun s v=>.of_eq rfl,fun base _ _=>law_ok X G A (fun_mk (st:=sLaw) l4 c4 k4)⟩
theorem walk {l:PySem.W.OpenLaw}{q:Program}{loose:List Str}{XP:(Str->Option Value)->Heap->Prop}{YP:World->Heap->Prop}{d:DefRec}{K:Params->PySem.W.Frag}(hn:l.most=some 63)(hdf:d.params.defaults=[])
  (hY : ∀ (w:World) (h:Heap),YP w h->(K w.params).In h)
  (F : ∀ (w:World) (mg:Str->Option Value) (fa:Addr) (h:Heap),(K w.params).In h->h.Ns mainGlobals mg->mg d.name=some (.ref fa) ->
   ∃ fd:FuncData,(∀ (s:Shared) (u:Value),BindsTo s fd ⟨[u],[]⟩ [("_law_script",u)])/\∀ base:Heap,(K w.params).In base->base.Ns mainGlobals mg->FnOk l.prog w (K w.params) mg base CX0 9 fa fd ["_law_script"] (spLaw (K w.params))) :
  PySem.W.WalkO q loose XP YP l.row.toRowW d [] (fun f vs=>PySem.call f vs) :=
 L2.walk_of (n:=63) (k:=9) (x := "_law_script") (CX:=fun _=>CX0) (sp:=fun w=>spLaw (K w.params)) hn (by decide) hdf ⟨rfl,by decide,by decide,rfl⟩ hY F (fun _ _ a ns hl _ hS=>⟨a,ns,rfl,hS,hl,fun _=>rfl⟩) fun _ _ _ _ _ z=>z
end K76
def PySem.W.Fast.tw4668183520863287278:Unit:=()
def PySem.W.Fast.tw5095576113072784532:Unit:=()
def PySem.W.Fast.tw15038790146532243533:Unit:=()
def PySem.W.Fast.tw15787025284510870516:Unit:=()
def PySem.W.Fast.tw11165961160666077977:Unit:=()
def PySem.W.Fast.tw8999465410061950345:Unit:=()
def PySem.W.Fast.tw13153882485508740047:Unit:=()
def PySem.W.Fast.tw5178949533634669433:Unit:=()
def PySem.W.Fast.tw14436180614823073965:Unit:=()
def PySem.W.Fast.tw2521459656918176415:Unit:=()
def PySem.W.Fast.tw13522028870934894180:Unit:=()
def PySem.W.Fast.tw15814856511834317794:Unit:=()
def PySem.W.Fast.tw13573888820510280479:Unit:=()
def PySem.W.Fast.tw407307442265645262:Unit:=()
def PySem.W.Fast.tw11736137765550564939:Unit:=()
def PySem.W.Fast.tw14832297808127203799:Unit:=()
def PySem.W.Fast.tw6134572257612970696:Unit:=()
def PySem.W.Fast.tw567399371572011746:Unit:=()
def PySem.W.Fast.tw14843462998682588997:Unit:=()
def PySem.W.Fast.tw3018188217240624708:Unit:=()
def PySem.W.Fast.tw8514430174220848838:Unit:=()
def PySem.W.Fast.tw14201190327345589762:Unit:=()
def PySem.W.Fast.tw7353294260398977463:Unit:=()
def PySem.W.Fast.tw6754299098207998983:Unit:=()
def PySem.W.Fast.tw10548448643952121140:Unit:=()
def PySem.W.Fast.tw3568516233599802619:Unit:=()
def PySem.W.Fast.tw7262804925005669471:Unit:=()
def PySem.W.Fast.tw371654322078949702:Unit:=()
def PySem.W.Fast.tw6936960609714846462:Unit:=()
def PySem.W.Fast.tw3843962470377354877:Unit:=()
def PySem.W.Fast.tw1370889575234334308:Unit:=()
def PySem.W.Fast.tw5017078713568737386:Unit:=()
def PySem.W.Fast.tw15244111120435113543:Unit:=()
def PySem.W.Fast.tw8868828368164845752:Unit:=()
def PySem.W.Fast.tw1774412365131296707:Unit:=()
def PySem.W.Fast.tw8781565729894109700:Unit:=()
def PySem.W.Fast.tw170652617235979322:Unit:=()
def PySem.W.Fast.tw12424670331109348224:Unit:=()
def PySem.W.Fast.tw4322359706283902525:Unit:=()
def PySem.W.Fast.tw3927525746686053224:Unit:=()
def PySem.W.Fast.tw1600250091889835432:Unit:=()
def PySem.W.Fast.tw7484488010617839592:Unit:=()
def PySem.W.Fast.tw371734298833304016:Unit:=()
def PySem.W.Fast.tw12730033604609554755:Unit:=()
def PySem.W.Fast.tw7570907916590993626:Unit:=()
def PySem.W.Fast.tw6612738823255255858:Unit:=()
def PySem.W.Fast.tw9050938869994513018:Unit:=()
def PySem.W.Fast.tw1876743876373641942:Unit:=()
def PySem.W.Fast.tw9236381566129501404:Unit:=()
def PySem.W.Fast.tw2744889388390492176:Unit:=()
def PySem.W.Fast.tw14159669550598367048:Unit:=()
def PySem.W.Fast.tw5514062380162422969:Unit:=()
def PySem.W.Fast.tw13863745910239082902:Unit:=()
def PySem.W.Fast.tw15824608126291452341:Unit:=()
def PySem.W.Fast.tw637251924639953629:Unit:=()
def PySem.W.Fast.tw10195211090917456992:Unit:=()
def PySem.W.Fast.tw14534355515781632430:Unit:=()
def PySem.W.Fast.tw15165441088641808777:Unit:=()
def PySem.W.Fast.tw18168044580435013281:Unit:=()
def PySem.W.Fast.tw11846440287427721242:Unit:=()
def PySem.W.Fast.tw15047531358501962813:Unit:=()
def PySem.W.Fast.tw12213875484636448646:Unit:=()
def PySem.W.Fast.tw14022650528823049244:Unit:=()
def PySem.W.Fast.tw1014750666913980031:Unit:=()
def PySem.W.Fast.tw18269513653421955959:Unit:=()
def PySem.W.Fast.tw17720762354245095266:Unit:=()
def PySem.W.Fast.tw10265263217938071675:Unit:=()
def PySem.W.Fast.tw334875943611030612:Unit:=()
def PySem.W.Fast.tw11637705344201410696:Unit:=()
def PySem.W.Fast.tw4633782097263337504:Unit:=()
def PySem.W.Fast.tw13940676530950771639:Unit:=()
def PySem.W.Fast.tw12282488677276531970:Unit:=()
def PySem.W.Fast.tw14263625658584106971:Unit:=()
def PySem.W.Fast.tw8032519350616899448:Unit:=()
def PySem.W.Fast.tw10744786672129285548:Unit:=()
def PySem.W.Fast.tw5408114953679898325:Unit:=()
def PySem.W.Fast.tw1105703488931232387:Unit:=()
def PySem.W.Fast.tw2595992595678876900:Unit:=()
def PySem.W.Fast.tw9634903539901152321:Unit:=()
def PySem.W.Fast.tw13158608201058435534:Unit:=()
def PySem.W.Fast.tw12715707563660495561:Unit:=()
def PySem.W.Fast.tw8644485345091462210:Unit:=()
def PySem.W.Fast.tw11516811737864253280:Unit:=()
def PySem.W.Fast.tw14627855519483371888:Unit:=()
def PySem.W.Fast.tw2910704288501522276:Unit:=()
def PySem.W.Fast.tw17914538554017240924:Unit:=()
def PySem.W.Fast.tw2463842078512184770:Unit:=()
def PySem.W.Fast.tw4474877186262002100:Unit:=()
def PySem.W.Fast.tw16581169657362575814:Unit:=()
def PySem.W.Fast.tw7583590370034823146:Unit:=()
def PySem.W.Fast.tw17469914408935019558:Unit:=()
def PySem.W.Fast.tw16273284511660628170:Unit:=()
def PySem.W.Fast.tw2937218027887734377:Unit:=()
def PySem.W.Fast.tw130004319498183208:Unit:=()
def PySem.W.Fast.tw15476515309233014513:Unit:=()
def PySem.W.Fast.tw9247150334925525839:Unit:=()
def PySem.W.Fast.tw4586732564760688418:Unit:=()
def PySem.W.Fast.tw13772579236808538234:Unit:=()
def PySem.W.Fast.tw12027078875187995462:Unit:=()
def PySem.W.Fast.tw9783276775088062786:Unit:=()
def PySem.W.Fast.tw2074486032531830463:Unit:=()
def PySem.W.Fast.tw2430210565670314048:Unit:=()
def PySem.W.Fast.tw2274600360402142518:Unit:=()
def PySem.W.Fast.tw12549438712640975397:Unit:=()
def PySem.W.Fast.tw12850700810722753129:Unit:=()
def PySem.W.Fast.tw14961658395927287067:Unit:=()
def PySem.W.Fast.tw14048287156312941857:Unit:=()
def PySem.W.Fast.tw7915336615120082088:Unit:=()
def PySem.W.Fast.tw10149675483943360032:Unit:=()
def PySem.W.Fast.tw18342592011274313230:Unit:=()
open PySem PySem.W PyProof.Rows
set_option maxRecDepth 100000 in
set_option maxHeartbeats 0 in
theorem PySem.Challenge.cw_phialhouse_k76_called_back_holds : PySem.Challenge.rw_phialhouse_k76_called_back.Holds := by
 w_on; o_law; k_head; (case hw=>w_witness2)
 k_fill
 refine K76.walk (l:=PySem.Challenge.rw_phialhouse_k76_called_back) rfl rfl (fun w h Y=>PySem.W.kIn_of Y) ?F
 case F =>
  intro w mg fa h KX G hmg
  have dCell:K76.Dn (L2.KOf KX) "_law_cell_at" K76.sCell ["_law_script","_law_k"]:=by
   dsimp only [L2.KOf]
   refine' K76.Dn.mk' ?a ?l ?c ?k ?b
   (case a=>k_is); (case l=>k_is); (case c=>k_is); (case k=>k_is)
   (case b=>exact fun _ _ _ _ _ _ us hl=>match us,hl with | [_,_],_=>rfl)
  have dMixed:K76.Dn (L2.KOf KX) "_law_mixed" K76.sMixed ["_law_cell","_law_k"]:=by
   dsimp only [L2.KOf]
   refine' K76.Dn.mk' ?a ?l ?c ?k ?b
   (case a=>k_is); (case l=>k_is); (case c=>k_is); (case k=>k_is)
   (case b=>exact fun _ _ _ _ _ _ us hl=>match us,hl with | [_,_],_=>rfl)
  have dNames:K76.Dn (L2.KOf KX) "_law_names" K76.sNames ["_law_seed"]:=by
   dsimp only [L2.KOf]
   refine' K76.Dn.mk' ?a ?l ?c ?k ?b
   (case a=>k_is); (case l=>k_is); (case c=>k_is); (case k=>k_is)
   (case b=>exact fun _ _ _ _ _ _ us hl=>match us,hl with | [_],_=>rfl)
  have dNew:K76.Dn (L2.KOf KX) "_law_new" K76.sNew ["_law_big"]:=by
   dsimp only [L2.KOf]
   refine' K76.Dn.mk' ?a ?l ?c ?k ?b
   (case a=>k_is); (case l=>k_is); (case c=>k_is); (case k=>k_is)
   (case b=>exact fun _ _ _ _ _ _ us hl=>match us,hl with | [_],_=>rfl)
  have dFresh:K76.Dn (L2.KOf KX) "_law_fresh" K76.sFresh ["_law_here","_law_name"]:=by
   dsimp only [L2.KOf]
   refine' K76.Dn.mk' ?a ?l ?c ?k ?b
   (case a=>k_is); (case l=>k_is); (case c=>k_is); (case k=>k_is)
   (case b=>exact fun _ _ _ _ _ _ us hl=>match us,hl with | [_,_],_=>rfl)
  have dLtot:K76.Dn (L2.KOf KX) "_law_total" K76.sLtot ["_law_here","_law_name"]:=by
   dsimp only [L2.KOf]
   refine' K76.Dn.mk' ?a ?l ?c ?k ?b
   (case a=>k_is); (case l=>k_is); (case c=>k_is); (case k=>k_is)
   (case b=>exact fun _ _ _ _ _ _ us hl=>match us,hl with | [_,_],_=>rfl)
  have dGood:K76.Dn (L2.KOf KX) "_law_good" K76.sGood ["_law_here","_law_names_here","_law_cell"]:=by
   dsimp only [L2.KOf]
   refine' K76.Dn.mk' ?a ?l ?c ?k ?b
   (case a=>k_is); (case l=>k_is); (case c=>k_is); (case k=>k_is)
   (case b=>exact fun _ _ _ _ _ _ us hl=>match us,hl with | [_,_,_],_=>rfl)
  have dWord:K76.Dn (L2.KOf KX) "_law_word_by" K76.sWord ["_law_left"]:=by
   dsimp only [L2.KOf]
   refine' K76.Dn.mk' ?a ?l ?c ?k ?b
   (case a=>k_is); (case l=>k_is); (case c=>k_is); (case k=>k_is)
   (case b=>exact fun _ _ _ _ _ _ us hl=>match us,hl with | [_],_=>rfl)
  have dNameBy:K76.Dn (L2.KOf KX) "_law_name_by" K76.sNameBy ["_law_known","_law_left"]:=by
   dsimp only [L2.KOf]
   refine' K76.Dn.mk' ?a ?l ?c ?k ?b
   (case a=>k_is); (case l=>k_is); (case c=>k_is); (case k=>k_is)
   (case b=>exact fun _ _ _ _ _ _ us hl=>match us,hl with | [_,_],_=>rfl)
  have dTold:K76.Dn (L2.KOf KX) "_law_told_deed" K76.sTold ["_law_here","_law_cell"]:=by
   dsimp only [L2.KOf]
   refine' K76.Dn.mk' ?a ?l ?c ?k ?b
   (case a=>k_is); (case l=>k_is); (case c=>k_is); (case k=>k_is)
   (case b=>exact fun _ _ _ _ _ _ us hl=>match us,hl with | [_,_],_=>rfl)
  have dCan:K76.Dn (L2.KOf KX) "_law_can" K76.sCan ["_law_here","_law_deed"]:=by
   dsimp only [L2.KOf]
   refine' K76.Dn.mk' ?a ?l ?c ?k ?b
   (case a=>k_is); (case l=>k_is); (case c=>k_is); (case k=>k_is)
   (case b=>exact fun _ _ _ _ _ _ us hl=>match us,hl with | [_,_],_=>rfl)
  have dNext:K76.Dn (L2.KOf KX) "_law_next" K76.sNext ["_law_here","_law_names_here","_law_own","_law_cell","_law_by_digits"]:=by
   dsimp only [L2.KOf]
   refine' K76.Dn.mk' ?a ?l ?c ?k ?b
   (case a=>k_is); (case l=>k_is); (case c=>k_is); (case k=>k_is)
   (case b=>exact fun _ _ _ _ _ _ us hl=>match us,hl with | [_,_,_,_,_],_=>rfl)
  have dIsWare:K76.Dn (L2.KOf KX) "is_ware" K76.sIsWare ["thing"]:=by
   dsimp only [L2.KOf]
   refine' K76.Dn.mk' ?a ?l ?c ?k ?b
   (case a=>k_is); (case l=>k_is); (case c=>k_is); (case k=>k_is)
   (case b=>exact fun _ _ _ _ _ _ us hl=>match us,hl with | [_],_=>rfl)
  have dRNoName:K76.Dn (L2.KOf KX) "refuse_no_name" K76.sRNoName ["thing"]:=by
   dsimp only [L2.KOf]
   refine' K76.Dn.mk' ?a ?l ?c ?k ?b
   (case a=>k_is); (case l=>k_is); (case c=>k_is); (case k=>k_is)
   (case b=>exact fun _ _ _ _ _ _ us hl=>match us,hl with | [_],_=>rfl)
  have dIsWh:K76.Dn (L2.KOf KX) "is_whole_number" K76.sIsWh ["thing"]:=by
   dsimp only [L2.KOf]
   refine' K76.Dn.mk' ?a ?l ?c ?k ?b
   (case a=>k_is); (case l=>k_is); (case c=>k_is); (case k=>k_is)
   (case b=>exact fun _ _ _ _ _ _ us hl=>match us,hl with | [_],_=>rfl)
  have dRNoSp:K76.Dn (L2.KOf KX) "refuse_no_spoons" K76.sRNoSp ["many"]:=by
   dsimp only [L2.KOf]
   refine' K76.Dn.mk' ?a ?l ?c ?k ?b
   (case a=>k_is); (case l=>k_is); (case c=>k_is); (case k=>k_is)
   (case b=>exact fun _ _ _ _ _ _ us hl=>match us,hl with | [_],_=>rfl)
  have dRNoDay:K76.Dn (L2.KOf KX) "refuse_no_day" K76.sRNoDay ["day"]:=by
   dsimp only [L2.KOf]
   refine' K76.Dn.mk' ?a ?l ?c ?k ?b
   (case a=>k_is); (case l=>k_is); (case c=>k_is); (case k=>k_is)
   (case b=>exact fun _ _ _ _ _ _ us hl=>match us,hl with | [_],_=>rfl)
  have dNewLot:K76.Dn (L2.KOf KX) "new_lot" K76.sNewLot ["name","many","last_day"]:=by
   dsimp only [L2.KOf]
   refine' K76.Dn.mk' ?a ?l ?c ?k ?b
   (case a=>k_is); (case l=>k_is); (case c=>k_is); (case k=>k_is)
   (case b=>exact fun _ _ _ _ _ _ us hl=>match us,hl with | [_,_,_],_=>rfl)
  have dNewV:K76.Dn (L2.KOf KX) "new_vessel" K76.sNewV ["word"]:=by
   dsimp only [L2.KOf]
   refine' K76.Dn.mk' ?a ?l ?c ?k ?b
   (case a=>k_is); (case l=>k_is); (case c=>k_is); (case k=>k_is)
   (case b=>exact fun _ _ _ _ _ _ us hl=>match us,hl with | [_],_=>rfl)
  have dGcd:K76.Dn (L2.KOf KX) "common_divisor" K76.sGcd ["one","other"]:=by
   dsimp only [L2.KOf]
   refine' K76.Dn.mk' ?a ?l ?c ?k ?b
   (case a=>k_is); (case l=>k_is); (case c=>k_is); (case k=>k_is)
   (case b=>exact fun _ _ _ _ _ _ us hl=>match us,hl with | [_,_],_=>rfl)
  have dLow:K76.Dn (L2.KOf KX) "lowest_terms" K76.sLow ["top","bottom"]:=by
   dsimp only [L2.KOf]
   refine' K76.Dn.mk' ?a ?l ?c ?k ?b
   (case a=>k_is); (case l=>k_is); (case c=>k_is); (case k=>k_is)
   (case b=>exact fun _ _ _ _ _ _ us hl=>match us,hl with | [_,_],_=>rfl)
  have dPlus:K76.Dn (L2.KOf KX) "plus" K76.sPlus ["one","other"]:=by
   dsimp only [L2.KOf]
   refine' K76.Dn.mk' ?a ?l ?c ?k ?b
   (case a=>k_is); (case l=>k_is); (case c=>k_is); (case k=>k_is)
   (case b=>exact fun _ _ _ _ _ _ us hl=>match us,hl with | [_,_],_=>rfl)
  have dTotal:K76.Dn (L2.KOf KX) "total_of" K76.sTotal ["holding"]:=by
   dsimp only [L2.KOf]
   refine' K76.Dn.mk' ?a ?l ?c ?k ?b
   (case a=>k_is); (case l=>k_is); (case c=>k_is); (case k=>k_is)
   (case b=>exact fun _ _ _ _ _ _ us hl=>match us,hl with | [_],_=>rfl)
  have dOver:K76.Dn (L2.KOf KX) "over" K76.sOver ["one","other"]:=by
   dsimp only [L2.KOf]
   refine' K76.Dn.mk' ?a ?l ?c ?k ?b
   (case a=>k_is); (case l=>k_is); (case c=>k_is); (case k=>k_is)
   (case b=>exact fun _ _ _ _ _ _ us hl=>match us,hl with | [_,_],_=>rfl)
  have dTimes:K76.Dn (L2.KOf KX) "times" K76.sTimes ["one","other"]:=by
   dsimp only [L2.KOf]
   refine' K76.Dn.mk' ?a ?l ?c ?k ?b
   (case a=>k_is); (case l=>k_is); (case c=>k_is); (case k=>k_is)
   (case b=>exact fun _ _ _ _ _ _ us hl=>match us,hl with | [_,_],_=>rfl)
  have dLess:K76.Dn (L2.KOf KX) "less" K76.sLess ["one","other"]:=by
   dsimp only [L2.KOf]
   refine' K76.Dn.mk' ?a ?l ?c ?k ?b
   (case a=>k_is); (case l=>k_is); (case c=>k_is); (case k=>k_is)
   (case b=>exact fun _ _ _ _ _ _ us hl=>match us,hl with | [_,_],_=>rfl)
  have dMinus:K76.Dn (L2.KOf KX) "minus" K76.sMinus ["one","other"]:=by
   dsimp only [L2.KOf]
   refine' K76.Dn.mk' ?a ?l ?c ?k ?b
   (case a=>k_is); (case l=>k_is); (case c=>k_is); (case k=>k_is)
   (case b=>exact fun _ _ _ _ _ _ us hl=>match us,hl with | [_,_],_=>rfl)
  have dShared:K76.Dn (L2.KOf KX) "shared" K76.sShared ["holding","many"]:=by
   dsimp only [L2.KOf]
   refine' K76.Dn.mk' ?a ?l ?c ?k ?b
   (case a=>k_is); (case l=>k_is); (case c=>k_is); (case k=>k_is)
   (case b=>exact fun _ _ _ _ _ _ us hl=>match us,hl with | [_,_],_=>rfl)
  have dPut:K76.Dn (L2.KOf KX) "put_together" K76.sPut ["one","other"]:=by
   dsimp only [L2.KOf]
   refine' K76.Dn.mk' ?a ?l ?c ?k ?b
   (case a=>k_is); (case l=>k_is); (case c=>k_is); (case k=>k_is)
   (case b=>exact fun _ _ _ _ _ _ us hl=>match us,hl with | [_,_],_=>rfl)
  have dWith:K76.Dn (L2.KOf KX) "with_holding" K76.sWith ["thing","holding","ways"]:=by
   dsimp only [L2.KOf]
   refine' K76.Dn.mk' ?a ?l ?c ?k ?b
   (case a=>k_is); (case l=>k_is); (case c=>k_is); (case k=>k_is)
   (case b=>exact fun _ _ _ _ _ _ us hl=>match us,hl with | [_,_,_],_=>rfl)
  have dPoured:K76.Dn (L2.KOf KX) "poured" K76.sPoured ["source","goal","many","number"]:=by
   dsimp only [L2.KOf]
   refine' K76.Dn.mk' ?a ?l ?c ?k ?b
   (case a=>k_is); (case l=>k_is); (case c=>k_is); (case k=>k_is)
   (case b=>exact fun _ _ _ _ _ _ us hl=>match us,hl with | [_,_,_,_],_=>rfl)
  have dDo:K76.Dn (L2.KOf KX) "_law_do" K76.sDo ["_law_books","_law_deed"]:=by
   dsimp only [L2.KOf]
   refine' K76.Dn.mk' ?a ?l ?c ?k ?b
   (case a=>k_is); (case l=>k_is); (case c=>k_is); (case k=>k_is)
   (case b=>exact fun _ _ _ _ _ _ us hl=>match us,hl with | [_,_],_=>rfl)
  have dLpour:K76.Dn (L2.KOf KX) "_law_pour" K76.sLpour ["_law_here","_law_source","_law_goal","_law_many"]:=by
   dsimp only [L2.KOf]
   refine' K76.Dn.mk' ?a ?l ?c ?k ?b
   (case a=>k_is); (case l=>k_is); (case c=>k_is); (case k=>k_is)
   (case b=>exact fun _ _ _ _ _ _ us hl=>match us,hl with | [_,_,_,_],_=>rfl)
  have dApply:K76.Dn (L2.KOf KX) "_law_apply" K76.sApply ["_law_here","_law_deed"]:=by
   dsimp only [L2.KOf]
   refine' K76.Dn.mk' ?a ?l ?c ?k ?b
   (case a=>k_is); (case l=>k_is); (case c=>k_is); (case k=>k_is)
   (case b=>exact fun _ _ _ _ _ _ us hl=>match us,hl with | [_,_],_=>rfl)
  have dLtots:K76.Dn (L2.KOf KX) "_law_totals" K76.sLtots ["_law_here"]:=by
   dsimp only [L2.KOf]
   refine' K76.Dn.mk' ?a ?l ?c ?k ?b
   (case a=>k_is); (case l=>k_is); (case c=>k_is); (case k=>k_is)
   (case b=>exact fun _ _ _ _ _ _ us hl=>match us,hl with | [_],_=>rfl)
  have dWhole:K76.Dn (L2.KOf KX) "_law_whole" K76.sWhole ["_law_found"]:=by
   dsimp only [L2.KOf]
   refine' K76.Dn.mk' ?a ?l ?c ?k ?b
   (case a=>k_is); (case l=>k_is); (case c=>k_is); (case k=>k_is)
   (case b=>exact fun _ _ _ _ _ _ us hl=>match us,hl with | [_],_=>rfl)
  have dLrow:K76.Dn (L2.KOf KX) "_law_row" K76.sLrow ["_law_here","_law_totals_here","_law_lot","_law_name","_law_row_here"]:=by
   dsimp only [L2.KOf]
   refine' K76.Dn.mk' ?a ?l ?c ?k ?b
   (case a=>k_is); (case l=>k_is); (case c=>k_is); (case k=>k_is)
   (case b=>exact fun _ _ _ _ _ _ us hl=>match us,hl with | [_,_,_,_,_],_=>rfl)
  have dLcalled:K76.Dn (L2.KOf KX) "_law_called" K76.sLcalled ["_law_books","_law_here","_law_totals_here","_law_lot"]:=by
   dsimp only [L2.KOf]
   refine' K76.Dn.mk' ?a ?l ?c ?k ?b
   (case a=>k_is); (case l=>k_is); (case c=>k_is); (case k=>k_is)
   (case b=>exact fun _ _ _ _ _ _ us hl=>match us,hl with | [_,_,_,_],_=>rfl)
  have dNoLot:K76.Dn (L2.KOf KX) "_law_no_lot" K76.sNoLot ["_law_books","_law_here","_law_names_here","_law_cell"]:=by
   dsimp only [L2.KOf]
   refine' K76.Dn.mk' ?a ?l ?c ?k ?b
   (case a=>k_is); (case l=>k_is); (case c=>k_is); (case k=>k_is)
   (case b=>exact fun _ _ _ _ _ _ us hl=>match us,hl with | [_,_,_,_],_=>rfl)
  have z0:PySem.W.nsIn (L2.KOf KX) mainGlobals "isinstance" = some none:=by
   dsimp only [L2.KOf]
   k_is
  have z1:PySem.W.nsIn (L2.KOf KX) mainGlobals "int" = some none:=by
   dsimp only [L2.KOf]
   k_is
  have z2:PySem.W.nsIn (L2.KOf KX) mainGlobals "bool" = some none:=by
   dsimp only [L2.KOf]
   k_is
  have z3:PySem.W.nsIn (L2.KOf KX) mainGlobals "tuple" = some none:=by
   dsimp only [L2.KOf]
   k_is
  have z4:PySem.W.nsIn (L2.KOf KX) mainGlobals "str" = some none:=by
   dsimp only [L2.KOf]
   k_is
  have z5:PySem.W.nsIn (L2.KOf KX) mainGlobals "len" = some none:=by
   dsimp only [L2.KOf]
   k_is
  have z6:PySem.W.nsIn (L2.KOf KX) mainGlobals "range" = some none:=by
   dsimp only [L2.KOf]
   k_is
  have z7:PySem.W.nsIn (L2.KOf KX) mainGlobals "min" = some none:=by
   dsimp only [L2.KOf]
   k_is
  have z8:PySem.W.nsIn (L2.KOf KX) mainGlobals "max" = some none:=by
   dsimp only [L2.KOf]
   k_is
  have z9:PySem.W.nsIn (L2.KOf KX) mainGlobals "abs" = some none:=by
   dsimp only [L2.KOf]
   k_is
  have z10:PySem.W.nsIn (L2.KOf KX) mainGlobals "list" = some none:=by
   dsimp only [L2.KOf]
   k_is
  have z11:PySem.W.nsIn (L2.KOf KX) mainGlobals "all" = some none:=by
   dsimp only [L2.KOf]
   k_is
  have z12:PySem.W.nsIn (L2.KOf KX) mainGlobals "sorted" = some none:=by
   dsimp only [L2.KOf]
   k_is
  have z13:PySem.W.nsIn (L2.KOf KX) mainGlobals "sum" = some none:=by
   dsimp only [L2.KOf]
   k_is
  have z14:PySem.W.nsIn (L2.KOf KX) mainGlobals "dict" = some none:=by
   dsimp only [L2.KOf]
   k_is
  have z15:PySem.W.nsIn (L2.KOf KX) mainGlobals "zip" = some none:=by
   dsimp only [L2.KOf]
   k_is
  have z16:PySem.W.nsIn (L2.KOf KX) mainGlobals "ValueError" = some none:=by
   dsimp only [L2.KOf]
   k_is
  have nou : ∃ aN:Addr,K76.NouK (L2.KOf KX) aN:=by
   dsimp only [L2.KOf]
   refine' K76.NouK.mk' ?a ?l
   (case a=>k_is); (case l=>k_is)
  have cls : ∃ C:Addr,K76.ClsK (L2.KOf KX) C:=by
   dsimp only [L2.KOf]
   refine' K76.cls_mk ?mgC ⟨?pg,?hd,?po,?sa⟩ ?nE ?nT ?nD ?nB ?mk ?kc (K76.MDn.mk' ?a0 ?i0 ?l0 ?c0 ?k0 ?b0) (K76.MDn.mk' ?a1 ?i1 ?l1 ?c1 ?k1 ?b1) (K76.MDn.mk' ?a2 ?i2 ?l2 ?c2 ?k2 ?b2) (K76.MDn.mk' ?a3 ?i3 ?l3 ?c3 ?k3 ?b3) (K76.MDn.mk' ?a4 ?i4 ?l4 ?c4 ?k4 ?b4) (K76.MDn.mk' ?a5 ?i5 ?l5 ?c5 ?k5 ?b5) (K76.MDn.mk' ?a6 ?i6 ?l6 ?c6 ?k6 ?b6) (K76.MDn.mk' ?a7 ?i7 ?l7 ?c7 ?k7 ?b7) (K76.MDn.mk' ?a8 ?i8 ?l8 ?c8 ?k8 ?b8) (K76.MDn.mk' ?a9 ?i9 ?l9 ?c9 ?k9 ?b9) (K76.MDn.mk' ?a10 ?i10 ?l10 ?c10 ?k10 ?b10) (K76.MDn.mk' ?a11 ?i11 ?l11 ?c11 ?k11 ?b11) (K76.MDn.mk' ?a12 ?i12 ?l12 ?c12 ?k12 ?b12) (K76.MDn.mk' ?a13 ?i13 ?l13 ?c13 ?k13 ?b13)
   (case mgC=>k_is)
   (case pg=>k_is); (case hd=>k_is); (case po=>k_is); (case sa=>k_is)
   (case nE=>(show PySem.W.findIn _ _ _=some none; k_is)); (case nT=>(show PySem.W.findIn _ _ _=some none; k_is)); (case nD=>(show PySem.W.findIn _ _ _=some none; k_is)); (case nB=>(show PySem.W.findIn _ _ _=some none; k_is)); (case mk=>k_is); (case kc=>k_is)
   (case a0=>k_is); (case i0=>k_is); (case l0=>k_is); (case c0=>k_is); (case k0=>k_is)
   (case b0=>exact fun _ _ _ _ _ _ us hl=>match us,hl with | [_],_=>rfl)
   (case a1=>k_is); (case i1=>k_is); (case l1=>k_is); (case c1=>k_is); (case k1=>k_is)
   (case b1=>exact fun _ _ _ _ _ _ us hl=>match us,hl with | [_,_],_=>rfl)
   (case a2=>k_is); (case i2=>k_is); (case l2=>k_is); (case c2=>k_is); (case k2=>k_is)
   (case b2=>exact fun _ _ _ _ _ _ us hl=>match us,hl with | [_,_,_],_=>rfl)
   (case a3=>k_is); (case i3=>k_is); (case l3=>k_is); (case c3=>k_is); (case k3=>k_is)
   (case b3=>exact fun _ _ _ _ _ _ us hl=>match us,hl with | [_,_,_,_,_],_=>rfl)
   (case a4=>k_is); (case i4=>k_is); (case l4=>k_is); (case c4=>k_is); (case k4=>k_is)
   (case b4=>exact fun _ _ _ _ _ _ us hl=>match us,hl with | [_,_,_],_=>rfl)
   (case a5=>k_is); (case i5=>k_is); (case l5=>k_is); (case c5=>k_is); (case k5=>k_is)
   (case b5=>exact fun _ _ _ _ _ _ us hl=>match us,hl with | [_,_],_=>rfl)
   (case a6=>k_is); (case i6=>k_is); (case l6=>k_is); (case c6=>k_is); (case k6=>k_is)
   (case b6=>exact fun _ _ _ _ _ _ us hl=>match us,hl with | [_,_,_],_=>rfl)
   (case a7=>k_is); (case i7=>k_is); (case l7=>k_is); (case c7=>k_is); (case k7=>k_is)
   (case b7=>exact fun _ _ _ _ _ _ us hl=>match us,hl with | [_,_],_=>rfl)
   (case a8=>k_is); (case i8=>k_is); (case l8=>k_is); (case c8=>k_is); (case k8=>k_is)
   (case b8=>exact fun _ _ _ _ _ _ us hl=>match us,hl with | [_,_],_=>rfl)
   (case a9=>k_is); (case i9=>k_is); (case l9=>k_is); (case c9=>k_is); (case k9=>k_is)
   (case b9=>exact fun _ _ _ _ _ _ us hl=>match us,hl with | [_,_,_],_=>rfl)
   (case a10=>k_is); (case i10=>k_is); (case l10=>k_is); (case c10=>k_is); (case k10=>k_is)
   (case b10=>exact fun _ _ _ _ _ _ us hl=>match us,hl with | [_,_,_,_],_=>rfl)
   (case a11=>k_is); (case i11=>k_is); (case l11=>k_is); (case c11=>k_is); (case k11=>k_is)
   (case b11=>exact fun _ _ _ _ _ _ us hl=>match us,hl with | [_,_,_,_],_=>rfl)
   (case a12=>k_is); (case i12=>k_is); (case l12=>k_is); (case c12=>k_is); (case k12=>k_is)
   (case b12=>exact fun _ _ _ _ _ _ us hl=>match us,hl with | [_,_],_=>rfl)
   (case a13=>k_is); (case i13=>k_is); (case l13=>k_is); (case c13=>k_is); (case k13=>k_is)
   (case b13=>exact fun _ _ _ _ _ _ us hl=>match us,hl with | [_,_],_=>rfl)
  have mM : ∃ tk:Tok,PySem.W.nsIn (L2.KOf KX) mainGlobals "MOST_LETTERS" = some (some (.int 8 tk)):=by
   dsimp only [L2.KOf]
   refine' K76.mst_mk ?a
   (case a=>k_is)
  have mS : ∃ tk:Tok,PySem.W.nsIn (L2.KOf KX) mainGlobals "MOST_SPOONS" = some (some (.int 1000000 tk)):=by
   dsimp only [L2.KOf]
   refine' K76.mst_mk ?a
   (case a=>k_is)
  have mY : ∃ tk:Tok,PySem.W.nsIn (L2.KOf KX) mainGlobals "LATEST_DAY" = some (some (.int 1000000 tk)):=by
   dsimp only [L2.KOf]
   refine' K76.mst_mk ?a
   (case a=>k_is)
  have mL : ∃ tk:Tok,PySem.W.nsIn (L2.KOf KX) mainGlobals "LETTERS" = some (some (.str TM.LET tk)):=by
   dsimp only [L2.KOf]
   refine' K76.fgs_mk ?a ?e
   (case a=>k_is); (case e=>decide +kernel)
  have err : ∃ cP cN:Addr,K76.ErTK (L2.KOf KX) cP cN:=by
   dsimp only [L2.KOf]
   refine' K76.err_mk ?mP ?mN ?ex ⟨?x1,?x2,?x3,?x4,?x5,?x6⟩ ⟨?y1,?y2,?y3⟩ ?s ?iP ?iV
   (case mP=>k_is); (case mN=>k_is)
   (case ex=>k_exc); (case x1=>k_is); (case x2=>k_is); (case x3=>k_is); (case x4=>k_is); (case x5=>k_is); (case x6=>(show PySem.W.isClsIn _ _=true; k_is))
   (case y1=>k_is); (case y2=>(show PySem.W.isClsIn _ _=true; k_is)); (case y3=>k_is); (case s=>k_is); (case iP=>kit_is); (case iV=>kit_is)
  refine' K76.all_mk KX G hmg ⟨dCell,dMixed,dNames,dNew,dFresh,dLtot,dGood,dWord,dNameBy,dTold,dCan,dNext,dIsWare,dRNoName,dIsWh,dRNoSp,dRNoDay,dNewLot,dNewV,dGcd,dLow,dPlus,dTotal,dOver,dTimes,dLess,dMinus,dShared,dPut,dWith,dPoured,dDo,dLpour,dApply,dLtots,dWhole,dLrow,dLcalled,dNoLot,z0,z1,z2,z3,z4,z5,z6,z7,z8,z9,z10,z11,z12,z13,z14,z15,z16,nou,cls,mM,mS,mY,mL,err⟩ ?a4 ?l4 ?c4 ?k4
  (case a4=>k_is); (case l4=>k_is); (case c4=>k_is); (case k4=>k_is)
