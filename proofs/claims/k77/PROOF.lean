import PyProof.Rows.All
import Wide.All
import OpenK.AllK
import Wide.FinOn
import Lean
import PyProof.EqAt
import PyProof.EqKinds
import PyProof.TupleCall
import PySem.Challenge.RW_phialhouse_k77_taken_back
set_option Elab.async false
set_option linter.all false
set_option maxRecDepth 100000
set_option maxHeartbeats 4000000
open PySem.W renaming Frag→Aa, nsIn→Ax, mg_none_of→AS, findIn→Bo, kitOne→BK, mg_of→BL, emptyDict→BQ, keepIn→BR, fnOf→Ce, instObj→Cz, codeIn→Dy
open List renaming length_map→Ab, mem_append_right→Ac, getElem?_eq_some_iff→Ad, mem_cons→Ae, mem_append_left→Af, not_mem_nil→Ag, getElem?_map→Ah, mem_map_of_mem→Ai, mem_append→Aj, getElem?_eq_getElem→Al, mem_singleton→Am, mem_map→An, map_cons→Ao, mem_of_getElem?→Ar, size_toArray→Ay, length_append→Az, map_append→AC, length_reverse→AI, mem_cons_of_mem→AL, nodup_append→AN, mem_cons_self→AO, perm_ext_iff_of_nodup→AR, nodup_cons→AU, mem_iff_getElem?→Bf, map_map→Bh, range→Bl, length_take→Bn, take_length→Bq, length_cons→Br, getElem?_append_left→Bs, getElem?_append_right→BE, reverse_cons→BJ, sum_cons→BN, map_congr_left→BV, Pairwise→BW, length_filter_le→BY, all_eq_true→Cd, getElem?_cons_succ→Cg, take_add_one→Ci, append_nil→Ck, getElem?_set_self→Cn, getElem?_eq_none→Cs, filter_append→Ct, replicate→Cy, getElem?_set_ne→CA, pairwise_map→CC, mem_filter→CD, filter_cons_of_pos→CH, filter_cons_of_neg→CI, getElem_mem→CN, pairwise_iff_getElem→Dg, lookup_cons→Dk, filterMap_cons→Dm, find?_cons→Du, take_of_length_le→DB, append_assoc→DC, nodup_nil→DF, mem_range→DG, mem_of_mem_take→DT, length_eq_zero_iff→Ed, getElem?_replicate→Ee
open Nat renaming le_refl→Ak, ne_of_lt→AJ, lt_of_lt_of_le→AQ, le_trans→AX, zero_le→Bv, lt_irrefl→BP, le_succ→CQ, lt_succ_self→DS
open PySem renaming mainGlobals→Aq, wpAny_bind→Aw, sizeLine→AB, Program→AE, wpAny_pure→AM, starEach→AY, Spec→Ba, NameKind→Bd, boot_len→Be, compareOp→Bi, FuncData→Bj, wpAny_truthy_bool→BM, bootBuiltins→BU, PassesOwn→BX, wpAny_mono→BZ, mem_of_lookup→Cj, wpAny_Call_Name_kw→CT, tupleKind_room_in1→CU, wpAny_passesOwn→Da, keywordEach→De, binaryOp→Dh, attributeBase→Di, sysModules→Dx, wpAny_getItem_str_slice→DD, wpAny_loadPart_at→DN, foldedSetIterable→DO, codeAny→DP, call_meetsIn→DU, behindInMarks→DW, wpAny_execs_nil→DY, letOwnedTupleGo→DZ, codeAny_builtin→Ea
open Sum renaming inr→As
open Ne renaming symm→Au
open PySem.Heap renaming get?_push_of_some→Av, lt_size→AD, get?_push_size→AK, get?_update_other→Bm, get?_push_ne→CV, get?_update_self→DI, size_update→DM
open Option renaming map_eq_some_iff→AA, some→AV, isSome_iff_exists→Dj, map_some→Dq
open Option.some renaming inj→AF
open Bool renaming false_ne_true→AH, false_eq_true→Cb, and_eq_true→Cq, eq_iff_iff→CO
open PySem.NameKind renaming free→AW, cell→Cc
open PySem.Value renaming ref→AZ, none→CP
open PySem.F renaming plainAttrs_list→Bb, type_list_append→Bw, slot_list_append→Bx, plain_min_loop→Cf, slot_dict_get→Co, plainAttrs_dict→CF, entry_dict_get→Ds, type_list_pop→Dz, slot_list_pop→DA, typeOf_object_class→DR, args_tuple_add_2→DX, entry_tuple_add→Eb
open PySem.PassesOwn renaming never→Bc
open PySem.SeqAt renaming EqAt→Bg, RcNeAt→DE
open Int renaming eq_of_mul_eq_mul_right→Bp, mul_nonneg→Bu, zero_mul→Ca, mul_right_comm→Cu, mul_assoc→Cv, mul_comm→CJ, le_refl→CM, toNat→Dl, eq_ofNat_of_zero_le→Dw, mul_le_mul→DH, ediv_nonneg→DV
open List.Pairwise renaming cons→Bz
open PyProof.Rows renaming wpS_bind→BF, wpS_pure→Cr, callWith_type1→CG, boot_isinstance→CL, boot_sorted→DQ
open Sum.inr renaming inj→BG
open Array renaming length_toList→BH, getElem?_toList→BI, perm_iff_toList_perm→CW, getElem?_eq_some_iff→CY
open PySem.Txt renaming slice→BO
open PySem.Calls renaming callWith_builtin→Cm, spliced_cons→Cp, spliced_nil→CS, evalArgs_plain→CZ
open ForInStep renaming yield→Cw
open False renaming elim→CB
open True renaming intro→Dp
open PySem.Obj renaming mapSeq→Dr
open PySem.Around renaming under_plainId→DJ
namespace L2
open PySem PySem.Spec PyProof.Rows
def zLn0:0<=AB:=by decide
def zLn1:1<=AB:=by decide
def zLn2:2<=AB:=by decide
def zLn3:3<=AB:=by decide
def zLn4:4<=AB:=by decide
def zLn5:5<=AB:=by decide
abbrev Key:=Sum Int Str
def rR:Key->Value->Bool
 |.inl k,v=>Value.isInt k v
 |.inr x,v=>Value.isStrOf x v
def keyH (w:World):Key->Int
 |.inl k=>hashInt k
 |.inr x=>hashStr w x
def bX:∀ {k:Key} {v:Value},rR k v=true->(∃ i t,k=Sum.inl i/\v=Value.int i t)\/(∃ x t,k=As x/\v=Value.str x t)
 |.inl i,v,h=>by
  obtain ⟨t,e⟩:=Value.isInt_shape (k:=i) (v:=v) h;exact .inl ⟨i,t,rfl,e⟩
 |.inr x,v,h=>by
  obtain ⟨t,e⟩:=Value.isStrOf_shape (x:=x) (v:=v) h;exact .inr ⟨x,t,rfl,e⟩
def vC (i:Int)(t:Tok):rR (.inl i) (.int i t)=true:=by simp [rR,Value.isInt]
def vB (x:Str)(t:Tok):rR (.inr x) (.str x t)=true:=by simp [rR,Value.isStrOf]
theorem aFi (a b:Int):decide ((Sum.inl a:Key)=Sum.inl b)=(a==b):=by
 by_cases e:a=b
 ·subst e;simp
 ·have h:¬ (Sum.inl a:Key)=Sum.inl b:=λq=>e (Sum.inl.inj q)
  rw [decide_eq_false h];exact (beq_eq_false_iff_ne.mpr e).symm
theorem aFf (a b:Str):decide ((As a:Key)=As b)=decide (a=b):=by
 by_cases e:a=b
 ·subst e;simp
 ·have h:¬ (As a:Key)=As b:=λq=>e (BG q)
  rw [decide_eq_false h,decide_eq_false e]
theorem aFh (a:Int)(b:Str):decide ((Sum.inl a:Key)=As b)=false:=decide_eq_false (λq=>nomatch q)
theorem aFg (a:Str)(b:Int):decide ((As a:Key)=Sum.inl b)=false:=decide_eq_false (λq=>nomatch q)
def bH (prog:AE)(w:World):PySem.KeyKind prog w Key where
 is:=rR
 hash:=keyH w
 inj:=λv a b ha hb=>by
  rcases bX ha with ⟨i,t,rfl,rfl⟩|⟨x,t,rfl,rfl⟩
  ·rcases bX hb with ⟨j,u,rfl,e⟩|⟨y,u,rfl,e⟩
   ·injection e with e1 _;rw [e1]
   ·exact nomatch e
  ·rcases bX hb with ⟨j,u,rfl,e⟩|⟨y,u,rfl,e⟩
   ·exact nomatch e
   ·injection e with e1 _;rw [e1]
 byValue:=λk v h=>by
  rcases bX h with ⟨i,t,rfl,rfl⟩|⟨x,t,rfl,rfl⟩<;>rfl
 pyHash:=λhv h=>by
  rcases bX hv with ⟨i,t,rfl,rfl⟩|⟨x,t,rfl,rfl⟩
  ·exact wpAny_pyHash_int h
  ·exact wpAny_pyHash_str h
 eqBool:=λhu hv h=>by
  rcases bX hu with ⟨i,t,rfl,rfl⟩|⟨x,t,rfl,rfl⟩
  ·rcases bX hv with ⟨j,u,rfl,rfl⟩|⟨y,u,rfl,rfl⟩
   ·rw [aFi] at h;exact wpAny_eqBool_int h
   ·rw [aFh] at h;exact Bg.int_str i t y u _ _ _ _ h
  ·rcases bX hv with ⟨j,u,rfl,rfl⟩|⟨y,u,rfl,rfl⟩
   ·rw [aFg] at h;exact Bg.str_int x t j u _ _ _ _ h
   ·rw [aFf] at h;exact wpAny_eqBool_str h
 «strs»:=λk x t v h=>by
  rcases bX h with ⟨i,u,rfl,e⟩|⟨y,u,rfl,e⟩
  ·exact nomatch e
  ·injection e with e1 _
   subst e1;cases v<;>rfl
def pE (prog:AE)(w:World)(i:Int)(t:Tok):(bH prog w).is (.inl i) (.int i t)=true:=vC i t
def pD (prog:AE)(w:World)(x:Str)(t:Tok):(bH prog w).is (.inr x) (.str x t)=true:=vB x t
inductive V where
 |non|bl (b:Bool)|int (i:Int)|str (x:Str)|byt (b:Array UInt8)|flt (b:UInt64)|ref (a:Addr)|ty (n:String)
 deriving DecidableEq
def RelV:V->Value->Prop
 |.non,u=>u=CP
 |.bl b,u=>u=Value.bool b
 |.int i,u=>∃ t,u=Value.int i t
 |.str x,u=>∃ t,u=Value.str x t
 |.byt b,u=>∃ t,u=Value.bytes b t
 |.flt b,u=>∃ t,u=Value.float b t
 |.ref a,u=>u=AZ a
 |.ty n,u=>u=Value.type n
abbrev Vals:List V->List Value->Prop:=Paired RelV
theorem Vals.length (r:Vals xs us):xs.length=us.length:=Paired.length r
theorem Vals.get:∀ {xs:List V} {us:List Value} {i:Nat} {x:V},Vals xs us->xs[i]?=some x->∃ u,us[i]?=some u/\RelV x u
 |_,_,_,_,.nil,e=>by simp at e
 |_,_,0,_,.cons r _,e=>by simp at e;subst e;exact ⟨_,rfl,r⟩
 |_,_,i+1,x,.cons _ t,e=>by
  obtain ⟨u,h1,h2⟩:=Vals.get (i:=i) (x:=x) t (by simpa using e);exact ⟨u,by simpa using h1,h2⟩
theorem Vals.append:∀ {xs ys:List V} {us ws:List Value},Vals xs us->Vals ys ws->Vals (xs++ys) (us++ws)
 |_,_,_,_,.nil,s=>s
 |_,_,_,_,.cons r t,s=>.cons r (Vals.append t s)
theorem Vals.take:∀ {xs:List V} {us:List Value} (n:Nat),Vals xs us->Vals (xs.take n) (us.take n)
 |_,_,0,_=>.nil
 |_,_,_+1,.nil=>.nil
 |_,_,n+1,.cons r t=>.cons r (Vals.take n t)
theorem Vals.drop:∀ {xs:List V} {us:List Value} (n:Nat),Vals xs us->Vals (xs.drop n) (us.drop n)
 |_,_,0,r=>r
 |_,_,_+1,.nil=>.nil
 |_,_,n+1,.cons _ t=>Vals.drop n t
def RelO:Option V->Option Value->Prop
 |some v,some u=>RelV v u
 |none,none=>True
 |_,_=>False
def KV {κ:Type}:List (κ×V)->List (κ×Value)->Prop:=Paired λ(p:κ×V) (q:κ×Value)=>p.1=q.1/\RelV p.2 q.2
def kV:Key->V
 |.inl i=>.int i
 |.inr x=>.str x
inductive HO where
 |lst (xs:List V)
 |tup (xs:List V)
 |dK (kvs:List (Key×V))|dT (kvs:List (List Key×V))
 |set (S:Int->Bool) (n:Nat)
 |ins (C dx:Addr) (fs:List (Str×V))
 |own (x:Addr)
 |xd (fs:List (Str×V))
 |met (f x:Addr)
 |rng (lo hi:Int)
 |frz (o:Obj) (u:HO)
 |tbl (ps:Array Value)
 |ext (φ:Heap->Prop)
abbrev Hp:=Addr->Option HO
def upd (H:Hp)(a:Addr)(o:HO):Hp:=λb=>if b=a then some o else H b
theorem aB :upd H a o a=some o:=by unfold upd;rw [if_pos rfl]
theorem aD (h:b≠a):upd H a o b=H b:=by unfold upd;rw [if_neg h]
theorem fJ {H:Hp}{a b:Addr}{o u:HO}(h:H a=some o)(h':H b=some u)(d:o≠u):a≠b:=by
 intro e;subst e;rw [h] at h';exact d (AF h')
theorem aX {H:Hp}{a b:Addr}{o:HO}(h:H a=some o)(h':H b=none):a≠b:=by
 intro e;subst e;rw [h] at h';cases h'
def NoD (h:Heap)(a:Addr):Prop:=∃ o,h.get? a=some o/\o.dict=none
section
variable (P:AE)(w:World)
def ObjOk (H:Hp)(h:Heap)(a:Addr):HO->Prop
 |.lst xs=>xs.length<=AB/\∃ (its:List Value) (n:Nat),Vals xs its/\h.get? a=some { cls:=.type "list",data:=.seq its.toArray n }
 |.tup xs=>(xs.length<=AB/\NoD h a)/\∃ its:List Value,Vals xs its/\IsTup h a its.toArray
 |.dK kvs=>kvs.length<=AB/\(a==Dx)=false/\∃ vs,KV kvs vs/\h.DictOf (bH P w) a vs
 |.dT kvs=>kvs.length<=AB/\(a==Dx)=false/\∃ xs:List (List Key×Addr×Value),
   Paired (λ(p:List Key×V) (q:List Key×Addr×Value)=>p.1=q.1/\H q.2.1=some (.tup (p.1.map kV))/\RelV p.2 q.2.2) kvs xs /\
   ∃ o es ep,h.get? a=some o/\o.ExactDict/\o.data=.dict es ep/\es.toList=xs.map (entryOfKey (tupleKind (bH P w)))/\(xs.map (·.1)).Nodup
 |.set S n=>h.SetOf (intKind P w) a S n
 |.ins C dx fs=>H dx=some (.own a)/\fs.length<=1000/\dx≠a/\h.get? a=some (Cz C dx) /\
   ∃ mA,h.Ns1 dx mA/\(∀ f,RelO (fs.lookup f) (mA f))/\PySem.Within mA (fs.map (·.1))
 |.own _=>∃ o,h.get? a=some o
 |.xd fs=>∃ mA,h.Ns1 a mA/\∀ f,RelO (fs.lookup f) (mA f)
 |.rng lo hi=>∃ t u v,h.get? a=some { cls:=.type "range",data:=.fields #[.int lo t,.int hi u,.int 1 v] }
 |.frz o u=>h.get? a=some o/\ObjOk H h a u
 |.tbl ps=>h.get? a=some { cls:=.none,data:=.fields ps }
 |.met f x=>h.get? a=some (PySem.W.methodObj (.ref f) (.ref x))
 |.ext φ=>φ h/\(∃ o,h.get? a=some o)/\∀ h1 h2:Heap,φ h1->(∀ o,h1.get? a=some o->h2.get? a=some o)->φ h2
def HOk (H:Hp)(h:Heap):Prop:=∀ a o,H a=some o->ObjOk P w H h a o
end
section
variable {P:AE}{w:World}{H H':Hp}{h h':Heap}{a:Addr}{o:HO}
theorem ObjOk.lt (x:ObjOk P w H h a o):a<h.objs.size:=by
 cases o with
 |lst xs=>obtain ⟨_,_,_,_,e⟩:=x;exact AD e
 |tup xs=>obtain ⟨_,_,_,p⟩:=x;exact p.lt
 |dK kvs=>obtain ⟨_,_,_,_,o,_,_,e,_⟩:=x;exact AD e
 |dT kvs=>obtain ⟨_,_,_,_,o,_,_,e,_⟩:=x;exact AD e
 |set S n=>obtain ⟨o,_,_,_,e,_⟩:=x;exact AD e
 |ins C dx fs=>obtain ⟨_,_,_,e,_⟩:=x;exact AD e
 |own y=>obtain ⟨_,e⟩:=x;exact AD e
 |xd fs=>obtain ⟨_,⟨_,_,_,e,_⟩,_⟩:=x;exact AD e
 |rng lo hi=>obtain ⟨_,_,_,e⟩:=x;exact AD e
 |frz ob u=>obtain ⟨e,_⟩:=x;exact AD e
 |tbl ps=>exact AD (show h.get? a=some _ from x)
 |met f y=>exact AD (show h.get? a=some _ from x)
 |ext φ=>obtain ⟨_,⟨_,e⟩,_⟩:=x;exact AD e
theorem Paired.mapP {α β:Type}{F G:α->β->Prop}:∀ {l₁:List α} {l₂:List β},Paired F l₁ l₂->(∀ a b,F a b->G a b)->Paired G l₁ l₂
 |_,_,.nil,_=>.nil
 |_,_,.cons r t,f=>.cons (f _ _ r) (Paired.mapP t f)
def ObjOk.stay (x:ObjOk P w H h a o)(k:∀ b u,(b=a\/H b=some (.own a))->h.get? b=some u->h'.get? b=some u)
  (ho:∀ b,H b=some (.own a)->H' b=some (.own a)) (ht:∀ b xs,H b=some (.tup xs)->H' b=some (.tup xs)):ObjOk P w H' h' a o:=by
 induction o with
 |lst xs=>obtain ⟨z,its,n,r,e⟩:=x;exact ⟨z,its,n,r,k _ _ (.inl rfl) e⟩
 |tup xs=>obtain ⟨⟨z,o1,e1,d1⟩,its,r,ob,e,c⟩:=x;exact ⟨⟨z,o1,k _ _ (.inl rfl) e1,d1⟩,its,r,ob,k _ _ (.inl rfl) e,c⟩
 |dK kvs=>obtain ⟨z,y,vs,r,ob,es,ep,e,c⟩:=x;exact ⟨z,y,vs,r,ob,es,ep,k _ _ (.inl rfl) e,c⟩
 |dT kvs=>
  obtain ⟨z,y,xs,r,ob,es,ep,e,c⟩:=x;exact ⟨z,y,xs,Paired.mapP r λp q z=>⟨z.1,ht _ _ z.2.1,z.2.2⟩,ob,es,ep,k _ _ (.inl rfl) e,c⟩
 |set S n=>obtain ⟨ob,es,ep,t,e,c⟩:=x;exact ⟨ob,es,ep,t,k _ _ (.inl rfl) e,c⟩
 |ins C dx fs=>
  obtain ⟨d,z,ne,e,mA,⟨od,es,ep,e2,c⟩,r⟩:=x;exact ⟨ho _ d,z,ne,k _ _ (.inl rfl) e,mA,⟨od,es,ep,k _ _ (.inr d) e2,c⟩,r⟩
 |own y=>obtain ⟨ob,e⟩:=x;exact ⟨ob,k _ _ (.inl rfl) e⟩
 |xd fs=>obtain ⟨mA,⟨od,es,ep,e,c⟩,r⟩:=x;exact ⟨mA,⟨od,es,ep,k _ _ (.inl rfl) e,c⟩,r⟩
 |rng lo hi=>obtain ⟨t,u,v,e⟩:=x;exact ⟨t,u,v,k _ _ (.inl rfl) e⟩
 |frz ob u ih=>obtain ⟨e,q⟩:=x;exact ⟨k _ _ (.inl rfl) e,ih q⟩
 |tbl ps=>
  have e:h.get? a=some { cls:=.none,data:=.fields ps }:=x;show h'.get? a=some { cls:=.none,data:=.fields ps };exact k a _ (.inl rfl) e
 |met f y=>
  have e:h.get? a=some (PySem.W.methodObj (.ref f) (.ref y)):=x;show h'.get? a=some (PySem.W.methodObj (.ref f) (.ref y));exact k a _ (.inl rfl) e
 |ext φ=>obtain ⟨p,⟨o,e⟩,st⟩:=x;exact ⟨st _ _ p λo q=>k _ _ (.inl rfl) q,⟨o,k _ _ (.inl rfl) e⟩,st⟩
theorem HOk.lt (x:HOk P w H h)(e:H a=some o):a<h.objs.size:=(x a o e).lt
def HOk.fresh (x:HOk P w H h)(e:h.objs.size<=a):H a=none:=by
 cases q:H a with
 |none=>rfl
 |some u=>exact absurd (AQ (x.lt q) e) (BP _)
def HOk.kept (x:HOk P w H h)(k:∀ b u,h.get? b=some u->h'.get? b=some u):HOk P w H h':=λa o e=>
 (x a o e).stay (λb u _ q=>k b u q) (λ_ q=>q) λ_ _ q=>q
def HOk.laid (x:HOk P w H h)(k:∀ b u,h.get? b=some u->h'.get? b=some u)(hp:h.objs.size<=a)(new:ObjOk P w (upd H a o) h' a o):HOk P w (upd H a o) h':=λb u e=>by
 have hn:=x.fresh hp
 by_cases hb:b=a
 ·subst hb;rw [aB] at e;cases e;exact new
 ·rw [aD hb] at e
  exact (x b u e).stay (λc v _ q=>k c v q) (λc q=>by rw [aD (aX q hn)];exact q) λc xs q=>by rw [aD (aX q hn)];exact q
end
def Rd (H:Hp)(a:Addr)(u:HO):Prop:=H a=some u\/∃ o,H a=some (.frz o u)
def Rd.ok (r:Rd H a u)(x:HOk P w H h):ObjOk P w H h a u:=by
 rcases r with r|⟨o,r⟩
 ·exact x a u r
 ·obtain ⟨_,q⟩:=x a _ r
  exact q
def Mut:Option HO->Prop
 |some (.lst _)=>True
 |some (.dK _)=>True
 |some (.dT _)=>True
 |some (.set _ _)=>True
 |some (.ins _ _ _)=>True
 |some (.ext _)=>True
 |_=>False
section
variable {P:AE}{w:World}{H:Hp}{h h':Heap}{x e:Addr}{o':HO}
def HOk.write (ok:HOk P w H h)(mu:Mut (H x))(he:e=x\/H e=some (.own x))(k:∀ b u,b≠e->h.get? b=some u->h'.get? b=some u)(heo:∃ u,h'.get? e=some u)
  (new:ObjOk P w (upd H x o') h' x o'):HOk P w (upd H x o') h':=λb u q=>by
 have nown:∀ c y,H c=some (.own y)->c≠x:=λc y r z=>by subst z;rw [r] at mu;exact mu
 have ntup:∀ c xs,H c=some (.tup xs)->c≠x:=λc xs r z=>by subst z;rw [r] at mu;exact mu
 by_cases hb:b=x
 ·subst hb;rw [aB] at q;cases q;exact new
 ·rw [aD hb] at q
  by_cases hbe:b=e
  ·have q':H b=some (.own x):=by
    rcases he with z|z
    ·exact absurd (hbe.trans z) hb
    ·rw [hbe];exact z
   rw [q] at q';cases q';obtain ⟨v,hv⟩:=heo;exact ⟨v,by rw [hbe];exact hv⟩
  ·refine (ok b u q).stay (λc v hc r=>k c v ?_ r) (λc r=>by rw [aD (nown c b r)];exact r) λc xs r=>by rw [aD (ntup c xs r)];exact r
   rcases hc with rfl|hc
   ·exact hbe
   ·rintro rfl
    rcases he with z|z
    ·exact nown c b hc z
    ·rw [hc] at z;cases z;exact hb rfl
end
structure Un (fs ex:List Addr)(H H':Hp)(h h':Heap):Prop where
 keep:∀ b o,h.get? b=some o->H b=none->b∉fs->b∉ex->h'.get? b=some o
 slot:∀ b o,h.get? b=some o->H b=none->b∈fs->b∉ex->∃ sl,h'.get? b=some { o with slots:=sl }
 free:∀ b o,h.get? b=some o->H b=none->b∉ex->H' b=none
 there:∀ b o,h.get? b=some o->b∉ex->∃ o',h'.get? b=some o'
 tups:∀ b xs,H b=some (.tup xs)->H' b=some (.tup xs)
 frzs:∀ b o u,H b=some (.frz o u)->H' b=some (.frz o u)
 tbls:∀ b ps,H b=some (.tbl ps)->∃ more,H' b=some (.tbl (ps++more))
section
variable {fs fs' ex ex':List Addr}{H H1 H2:Hp}{h h1 h2 h':Heap}{a x e:Addr}{o:HO}
theorem Un.any (u:Un fs ex H H1 h h1)(q:h.get? b=some ob)(n:H b=none)(hx:b∉ex):∃ sl,h1.get? b=some { ob with slots:=sl }:=by
 by_cases hb:b∈fs
 ·exact u.slot b ob q n hb hx
 ·exact ⟨ob.slots,u.keep b ob q n hb hx⟩
def Un.kept (k:∀ b u,h.get? b=some u->h'.get? b=some u):Un fs ex H H h h':=
 ⟨λb ob q _ _ _=>k b ob q,λb ob q _ _ _=>⟨ob.slots,k b ob q⟩,λ_ _ _ n _=>n,λb ob q _=>⟨ob,k b ob q⟩,λ_ _ q=>q,λ_ _ _ q=>q,λ_ ps q=>⟨#[],by rw [q];simp⟩⟩
def Un.refl:Un fs ex H H h h:=Un.kept λ_ _ q=>q
def Un.laid (k:∀ b u,h.get? b=some u->h'.get? b=some u)(hp:h.objs.size<=a)(hn:H a=none):Un fs ex H (upd H a o) h h' where
 keep:=λb u q _ _ _=>k b u q
 slot:=λb u q _ _ _=>⟨u.slots,k b u q⟩
 free:=λb u q n _=>by rw [aD (AJ (AQ (AD q) hp))];exact n
 there:=λb u q _=>⟨u,k b u q⟩
 tups:=λb xs q=>by rw [aD (aX q hn)];exact q
 frzs:=λb u xs q=>by rw [aD (aX q hn)];exact q
 tbls:=λb ps q=>⟨#[],by rw [aD (aX q hn),q];simp⟩
def Un.write (mu:Mut (H x))(he:e=x\/H e=some (.own x))(k:∀ b u,b≠e->h.get? b=some u->h'.get? b=some u)(heo:∃ u,h'.get? e=some u):Un fs ex H (upd H x o) h h':=by
 have hx:∀ b,H b=none->b≠x:=λb n z=>by subst z;rw [n] at mu;exact mu
 have hb:∀ b,H b=none->b≠e:=λb n z=>by
  subst z
  rcases he with r|r
  ·exact hx b n r
  ·rw [n] at r;cases r
 have hm:∀ b u,H b=some u->¬ Mut (some u)->b≠x:=λb u q nm z=>by subst z;rw [q] at mu;exact nm mu
 refine ⟨λb u q n _ _=>k b u (hb b n) q,λb u q n _ _=>⟨u.slots,k b u (hb b n) q⟩,λb u q n _=>by rw [aD (hx b n)];exact n,λb u q _=>?_,
  λb xs q=>by rw [aD (hm b _ q λz=>z)];exact q,λb u xs q=>by rw [aD (hm b _ q λz=>z)];exact q,λb ps q=>⟨#[],by rw [aD (hm b _ q λz=>z),q];simp⟩⟩
 by_cases hbe:b=e
 ·subst hbe;exact heo
 ·exact ⟨u,k b u hbe q⟩
end
def trk (h:Heap)(H:Hp):List Addr:=(Bl h.objs.size).filter λa=>(H a).isSome
def hidT (h:Heap)(H:Hp):Heap:=PySem.W.hideAll h (trk h H)
def vJ (h:Heap)(H:Hp):(hidT h H).objs.size=h.objs.size:=PySem.W.hideAll_size _ _
def yY (e:h.get? b=some o)(n:H b=none):(hidT h H).get? b=some o:=
 PySem.W.hideAll_get _ e λhm=>by
  have q:(H b).isSome=true:=(CD.mp hm).2;rw [n] at q;simp at q
def aCl (e:(hidT h H).get? b=some o):h.get? b=some o/\H b=none:=by
 have e':h.get? b=some o:=PySem.W.of_hideAll (trk h H) e;refine ⟨e',?_⟩;cases q:H b with
 |none=>rfl
 |some x=>
  have hm:b∈trk h H:=CD.mpr ⟨DG.mpr (AD e'),by simp [q]⟩;have z:(hidT h H).get? b=none:=PySem.W.hideAll_none (trk h H) hm;rw [z] at e;cases e
def aC7 (g h:Heap)(L:Addr):List (Addr×Obj):=(Bl h.objs.size).filterMap λa=>if a=L\/(g.get? a).isSome=true then none else (h.get? a).map λo=>(a,o)
def rest (g h:Heap)(L d:Addr):List (Addr×Obj):=(aC7 g h L).filter λp=>decide (p.1≠d)
structure Mod (K:Aa)(mg:Str->Option Value)(base:Heap):Prop where
 kin:K.In base
 glob:base.Ns Aq mg
 blt:∃ mb,base.Ns builtinsNs mb/\∀ x:Str,x ≠ "__name__" -> mb x=BU x
 nolimit:base.NoLimit
structure Cx where
 prog:AE
 w:World
 K:Aa
 mg:Str->Option Value
 base:Heap
 A:Around
 N:List Str
 s₀:Shared
 H₀:Hp
 env:Env
 outer:List Env
 stack:List Env
 ex:List Addr
 fn:Str->Bool
 calm:Bool
 pn:List (Addr×Obj)
 xe:Value->Shared->Prop
def frs (l:List Env):List Addr:=l.filterMap (·.frame)
abbrev Cx.fs (X:Cx):List Addr:=frs X.outer
def Vis (sc:Scope)(x:Str):Prop:=sc.names.lookup x=some .local\/sc.names.lookup x=some .cell\/sc.names.lookup x=some .free
def Loc (sc:Scope)(x:Str):Prop:=sc.names.lookup x=some .local\/sc.names.lookup x=some .cell
def Look (env:Env)(h:Heap)(m:Str->Option Value)(x:Str)(u:Value):Prop:=
 (env.kindOf x=some .local/\m x=some u)\/((env.kindOf x=some .cell\/env.kindOf x=some .free)/\∃ c,env.cells.lookup x=some c/\h.IsCell c (some u))
structure Cx.Ok (X:Cx):Prop where
 mod:Mod X.K X.mg X.base
 kind:X.env.scope.kind=.function
 glob:X.env.globals=Aq
 blt:X.env.builtins=builtinsNs
 above:X.s₀.heap.objs.size<=X.env.locals
 inj:∀ x y c,X.env.cells.lookup x=some c->X.env.cells.lookup y=some c->x=y
 has:∀ x,(X.env.kindOf x=some .cell\/X.env.kindOf x=some .free)->∃ c,X.env.cells.lookup x=some c
 cab:∀ x c,X.fn x=true->X.env.cells.lookup x=some c->X.s₀.heap.objs.size<=c
 hd:X.calm=true->X.A.handled=none
 frames:X.A.frames=some X.stack
 stk:X.stack=X.outer\/(X.stack=X.env::X.outer/\X.env.frame=some X.env.locals)
 exf:∀ b∈X.ex,b≠X.env.locals/\∀ x c,X.env.cells.lookup x=some c->c≠b
 bs:∀ b o,X.base.get? b=some o->X.s₀.heap.get? b=some o/\X.H₀ b=none
 bsz:X.base.objs.size<=X.s₀.heap.objs.size
 noex:∀ b o,X.base.get? b=some o->b∉X.ex
 exfs:∀ b∈X.ex,b∉X.fs
 funs:X.s₀.heap.FunFrames X.base X.outer
 frf:∀ b∈X.fs,X.H₀ b=none
structure Inv (X:Cx)(pins:List (Addr×Obj))(σ:List (Option V))(H:Hp)(s:Shared):Prop where
 ok:X.Ok
 os:s.os=X.s₀.os
 bare:AllBare s.gens
 base:Un X.fs X.ex X.H₀ H X.s₀.heap s.heap
 loc:∃ m,s.heap.Ns X.env.locals m/\∀ (i:Nat) (x:Str) (v:V),X.N[i]?=some x->σ[i]?=some (some v)->Vis X.env.scope x->∃ u,RelV v u/\Look X.env s.heap m x u
 cell:∀ x c,X.env.cells.lookup x=some c->∃ v,s.heap.IsCell c v
 free:H X.env.locals=none
 freeC:∀ x c,X.env.cells.lookup x=some c->H c=none
 pin:∀ p∈X.pn++pins,s.heap.get? p.1=some p.2/\H p.1=none/\p.1≠X.env.locals/\p.1∉X.fs/\∀ v,p.2.data≠.cell v
 hok:HOk X.prog X.w H s.heap
 len:σ.length=X.N.length
section
variable {X:Cx}{pins:List (Addr×Obj)}{σ:List (Option V)}{H H':Hp}{s:Shared}{h':Heap}
def Cx.Ok.nofr (ok:X.Ok)(e:X.base.get? b=some o):b∉X.fs:=λhb=>by
 have:=(ok.funs.mem hb).1;rw [e] at this;cases this
def Inv.bs (I:Inv X pins σ H s):∀ b o,X.base.get? b=some o->s.heap.get? b=some o/\H b=none:=λb o e=>
 ⟨I.base.keep b o (I.ok.bs b o e).1 (I.ok.bs b o e).2 (I.ok.nofr e) (I.ok.noex b o e),I.base.free b o (I.ok.bs b o e).1 (I.ok.bs b o e).2 (I.ok.noex b o e)⟩
def Inv.bk (I:Inv X pins σ H s):∀ b o,X.base.get? b=some o->s.heap.get? b=some o:=λb o e=>(I.bs b o e).1
def Inv.mod (I:Inv X pins σ H s):Mod X.K X.mg X.base:=I.ok.mod
def Inv.kIn (I:Inv X pins σ H s):X.K.In s.heap:=I.ok.mod.kin.keeps I.bk
theorem Inv.fr (I:Inv X pins σ H s):∃ m,Fr X.base X.env.locals s.heap m:=
 let ⟨m,hn,_⟩:=I.loc
 ⟨m,hn,I.bk,AX I.ok.bsz I.ok.above⟩
theorem Inv.lt (I:Inv X pins σ H s):X.env.locals<s.heap.objs.size:=let ⟨_,hn,_⟩:=I.loc;hn.lt
theorem Inv.sz (I:Inv X pins σ H s):X.s₀.heap.objs.size<=s.heap.objs.size:=AX I.ok.above (Nat.le_of_lt I.lt)
def Inv.nofs (I:Inv X pins σ H s)(h:s.heap.objs.size<=a):a∉X.fs:=λhb=>by
 obtain ⟨_,o,ho,_⟩:=I.ok.funs.mem hb;exact absurd (AQ (AD ho) (AX I.sz h)) (BP _)
def Inv.cne (I:Inv X pins σ H s):∀ x c,X.env.cells.lookup x=some c->c≠X.env.locals:=λx c e z=>by
 obtain ⟨v,o,ho,hd⟩:=I.cell x c e;obtain ⟨m,⟨o',es,ep,ho',hd',_⟩,_⟩:=I.loc;rw [z,ho'] at ho;cases ho;rw [hd'] at hd;cases hd
def Inv.funs (I:Inv X pins σ H s):s.heap.FunFrames X.base X.outer:=by
 have all:∀ (l:List Env),(∀ b∈frs l,b∈X.fs)->X.s₀.heap.FunFrames X.base l->s.heap.FunFrames X.base l:=by
  intro l
  induction l with
  |nil=>intro _ _;trivial
  |cons env r ih=>
   intro hs hl;obtain ⟨hk,⟨L,o,hf,hn,ho,hd⟩,hr⟩:=hl;have hL:L∈X.fs:=hs L (by unfold frs;rw [Dm,hf];exact AO);obtain ⟨sl,e⟩:=I.base.slot L o ho (I.ok.frf L hL) hL λz=>I.ok.exfs L z hL;exact ⟨hk,⟨L,_,hf,hn,e,hd⟩,ih (λb hb=>hs b (by unfold frs;rw [Dm,hf];exact AL _ hb)) hr⟩
 exact all X.outer (λ_ hb=>hb) I.ok.funs
def Inv.stack (I:Inv X pins σ H s):s.heap.FunFrames X.base X.stack:=by
 rcases I.ok.stk with e|⟨e,hf⟩
 ·rw [e];exact I.funs
 ·rw [e]
  obtain ⟨m,hn,_⟩:=I.loc;refine .cons (by rw [I.ok.kind];decide) hf hn ?_ I.funs;exact Heap.get?_none_of_le (AX I.ok.bsz I.ok.above)
def Inv.stkSub (I:Inv X pins σ H s):∀ b∈frs X.stack,b∈X.env.locals::X.fs:=λb hb=>by
 rcases I.ok.stk with e|⟨e,hf⟩
 ·rw [e] at hb;exact AL _ hb
 ·rw [e] at hb
  unfold frs at hb;rw [Dm,hf] at hb;exact hb
def Inv.stkFree (I:Inv X pins σ H s):∀ b∈frs X.stack,H b=none:=λb hb=>by
 rcases Ae.mp (I.stkSub b hb) with e|hb
 ·rw [e];exact I.free
 ·obtain ⟨_,o,ho,_⟩:=I.ok.funs.mem hb
  exact I.base.free b o ho (I.ok.frf b hb) λz=>I.ok.exfs b z hb
def Inv.step {g':Array GenState}{t':Nat}{d':Drawn}{ch:List Addr}(I:Inv X pins σ H s)
  (hch:∀ b∈ch,(b∈X.ex\/X.s₀.heap.objs.size<=b)/\b≠X.env.locals/\(∀ x c,X.env.cells.lookup x=some c->c≠b)/\∀ p∈X.pn++pins,p.1≠b)
  (keep:∀ b o,b≠X.env.locals->b∉X.fs->b∉ch->s.heap.get? b=some o->H b=none->h'.get? b=some o)
  (slot:∀ b o,b≠X.env.locals->b∈X.fs->b∉ch->s.heap.get? b=some o->H b=none->∃ sl,h'.get? b=some { o with slots:=sl }) (free:∀ b o,b∉ch->s.heap.get? b=some o->H b=none->H' b=none)
  (there:∀ b o,b∉ch->s.heap.get? b=some o->∃ o',h'.get? b=some o')
  (tups:∀ b xs,H b=some (.tup xs)->H' b=some (.tup xs)) (frzs:∀ b o u,H b=some (.frz o u)->H' b=some (.frz o u)) (tbls:∀ b ps,H b=some (.tbl ps)->∃ more,H' b=some (.tbl (ps++more)))
  (ns:∀ m,s.heap.Ns X.env.locals m->h'.Ns X.env.locals m) (hok:HOk X.prog X.w H' h') (hg:AllBare g') :
  Inv X pins σ H' { s with heap:=h',gens:=g',drawn:=d',toks:=t' }:=by
 have neL:∀ b o,X.s₀.heap.get? b=some o->b≠X.env.locals:=λb o e=>AJ (AQ (AD e) I.ok.above);have neC:∀ b o,X.s₀.heap.get? b=some o->b∉X.ex->b∉ch:=λb o e hx hb=>by
  rcases (hch b hb).1 with z|z
  ·exact hx z
  ·exact absurd (AQ (AD e) z) (BP _)
 have cellK:∀ x c,X.env.cells.lookup x=some c->∀ v,s.heap.IsCell c v->h'.IsCell c v:=λx c e v ⟨o,ho,hd⟩=>by
  have nch:c∉ch:=λz=>(hch c z).2.2.1 x c e rfl
  by_cases hc:c∈X.fs
  ·obtain ⟨sl,q⟩:=slot c o (I.cne x c e) hc nch ho (I.freeC x c e)
   exact ⟨_,q,hd⟩
  ·exact ⟨o,keep c o (I.cne x c e) hc nch ho (I.freeC x c e),hd⟩
 refine ⟨I.ok,I.os,hg,⟨λb o e n hb hx=>?_,λb o e n hb hx=>?_,λb o e n hx=>?_,λb o e hx=>?_,λb xs e=>tups b xs (I.base.tups b xs e),λb o xs e=>frzs b o xs (I.base.frzs b o xs e),λb ps e=>?_⟩,?_,λx c e=>?_,?_,λx c e=>?_,λp hp=>?_,hok,I.len⟩
 ·exact keep b o (neL b o e) hb (neC b o e hx) (I.base.keep b o e n hb hx) (I.base.free b o e n hx)
 ·obtain ⟨sl,e1⟩:=I.base.slot b o e n hb hx
  obtain ⟨sl',e2⟩:=slot b _ (neL b o e) hb (neC b o e hx) e1 (I.base.free b o e n hx);exact ⟨sl',e2⟩
 ·obtain ⟨o',e1⟩:=I.base.there b o e hx
  exact free b o' (neC b o e hx) e1 (I.base.free b o e n hx)
 ·obtain ⟨o',e1⟩:=I.base.there b o e hx
  exact there b o' (neC b o e hx) e1
 ·obtain ⟨m1,e1⟩:=I.base.tbls b ps e
  obtain ⟨m2,e2⟩:=tbls b _ e1;exact ⟨m1++m2,by rw [e2,Array.append_assoc]⟩
 ·obtain ⟨m,hn,hl⟩:=I.loc
  refine ⟨m,ns m hn,λi x v e1 e2 e3=>?_⟩;obtain ⟨u,r,l⟩:=hl i x v e1 e2 e3;refine ⟨u,r,?_⟩
  rcases l with l|⟨k,c,e,z⟩
  ·exact .inl l
  ·exact .inr ⟨k,c,e,cellK x c e _ z⟩
 ·obtain ⟨v,z⟩:=I.cell x c e
  exact ⟨v,cellK x c e v z⟩
 ·obtain ⟨m,⟨o,_,_,ho,_⟩,_⟩:=I.loc
  exact free _ o (λz=>(hch _ z).2.1 rfl) ho I.free
 ·obtain ⟨v,o,ho,hd⟩:=I.cell x c e
  exact free c o (λz=>(hch c z).2.2.1 x c e rfl) ho (I.freeC x c e)
 ·obtain ⟨e,n,ne,nf,d⟩:=I.pin p hp
  have nch:p.1∉ch:=λz=>(hch p.1 z).2.2.2 p hp rfl;exact ⟨keep p.1 p.2 ne nf nch e n,free p.1 p.2 nch e n,ne,nf,d⟩
def Inv.un {t':Nat}(I:Inv X pins σ H s)(u:Un X.fs [] H H' s.heap h')(hok:HOk X.prog X.w H' h'):Inv X pins σ H' { s with heap:=h',toks:=t' }:=by
 obtain ⟨m,⟨o,es,ep,ho,r⟩,_⟩:=id I.loc;obtain ⟨sl,hL⟩:=u.any ho I.free (by simp);exact I.step (g':=s.gens) (d':=s.drawn) (ch:=[]) (λ_ z=>nomatch z) (λb o _ hb _ e n=>u.keep b o e n hb (by simp)) (λb o _ hb _ e n=>u.slot b o e n hb (by simp)) (λb o _ e n=>u.free b o e n (by simp)) (λb o _ e=>u.there b o e (by simp)) u.tups u.frzs u.tbls (λm' hm=>by
  obtain ⟨o',es',ep',ho',r'⟩:=hm;rw [ho] at ho';cases ho';exact ⟨_,es',ep',hL,r'⟩) hok I.bare
def Inv.call {g':Array GenState}{t':Nat}{d':Drawn}{ch:List Addr}(I:Inv X pins σ H s)(u:Un (frs X.stack) ch H H' s.heap h')(hok:HOk X.prog X.w H' h')(hg:AllBare g')
  (hch:∀ b∈ch,(b∈X.ex\/X.s₀.heap.objs.size<=b)/\b≠X.env.locals/\(∀ x c,X.env.cells.lookup x=some c->c≠b)/\∀ p∈X.pn++pins,p.1≠b) :
  Inv X pins σ H' { s with heap:=h',gens:=g',drawn:=d',toks:=t' }:=by
 obtain ⟨m,⟨o,es,ep,ho,r⟩,_⟩:=id I.loc;obtain ⟨sl,hL⟩:=u.any ho I.free λz=>(hch _ z).2.1 rfl;exact I.step (ch:=ch) hch (λb o hL hb hc e n=>u.keep b o e n (λz=>(Ae.mp (I.stkSub b z)).elim hL hb) hc) (λb o _ _ hc e n=>u.any e n hc) (λb o hc e n=>u.free b o e n hc) (λb o hc e=>u.there b o e hc) u.tups u.frzs u.tbls (λm' hm=>by
  obtain ⟨o',es',ep',ho',r'⟩:=hm;rw [ho] at ho';cases ho';exact ⟨_,es',ep',hL,r'⟩) hok hg
def Inv.turned {t':Nat}{it:Addr}(I:Inv X pins σ H s)(k:∀ b o,b≠it->s.heap.get? b=some o->h'.get? b=some o)(hn:H it=none)(hL:it≠X.env.locals)
  (h1:it∈X.ex\/X.s₀.heap.objs.size<=it) (h2:∀ x c,X.env.cells.lookup x=some c->c≠it) (h3:∀ p∈X.pn++pins,p.1≠it):Inv X pins σ H { s with heap:=h',toks:=t' }:=by
 have nit:∀ b u,H b=some u->b≠it:=λb u e z=>by rw [z,hn] at e;cases e
 refine I.step (g':=s.gens) (d':=s.drawn) (ch:=[it]) (λb hb=>?_) (λb o _ _ hc e _=>k b o (λz=>hc (by simp [z])) e) (λb o _ _ hc e _=>⟨o.slots,k b o (λz=>hc (by simp [z])) e⟩) (λ_ _ _ _ n=>n)
  (λb o hc e=>⟨o,k b o (λz=>hc (by simp [z])) e⟩) (λ_ _ e=>e) (λ_ _ _ e=>e) (λb ps e=>⟨#[],by rw [e];simp⟩) (λm hm=>?_) (λb u e=>?_) I.bare
 ·have e:b=it:=by simpa using hb
  subst e;exact ⟨h1,hL,h2,h3⟩
 ·obtain ⟨o,es,ep,ho,r⟩:=hm
  exact ⟨o,es,ep,k _ o (Au hL) ho,r⟩
 ·refine (I.hok b u e).stay (λc v hc q=>k c v ?_ q) (λ_ q=>q) λ_ _ q=>q
  rcases hc with z|z
  ·rw [z];exact nit b u e
  ·exact nit c _ z
def Inv.tok (I:Inv X pins σ H s)(t:Nat):Inv X pins σ H { s with toks:=t }:=I.un (h':=s.heap) (t':=t) Un.refl I.hok
def Inv.kept {t':Nat}(I:Inv X pins σ H s)(k:∀ b u,s.heap.get? b=some u->h'.get? b=some u):Inv X pins σ H { s with heap:=h',toks:=t' }:=I.un (Un.kept k) (I.hok.kept k)
def Inv.laid {t':Nat}(I:Inv X pins σ H s)(k:∀ b u,s.heap.get? b=some u->h'.get? b=some u)(hp:s.heap.objs.size<=a)(new:ObjOk X.prog X.w (upd H a o) h' a o) :
  Inv X pins σ (upd H a o) { s with heap:=h',toks:=t' }:=I.un (Un.laid k hp (I.hok.fresh hp)) (I.hok.laid k hp new)
def Inv.write {t':Nat}(I:Inv X pins σ H s)(mu:Mut (H x))(he:e=x\/H e=some (.own x))(k:∀ b u,b≠e->s.heap.get? b=some u->h'.get? b=some u)(heo:∃ u,h'.get? e=some u)(new:ObjOk X.prog X.w (upd H x o) h' x o):Inv X pins σ (upd H x o) { s with heap:=h',toks:=t' }:=I.un (Un.write mu he k heo) (I.hok.write mu he k heo new)
def Inv.weak {σ':List (Option V)}(I:Inv X pins σ H s)(hl:σ'.length=σ.length)(w:∀ (i:Nat) v,σ'[i]?=some (some v)->σ[i]?=some (some v)):Inv X pins σ' H s:=
 ⟨I.ok,I.os,I.bare,I.base,let ⟨m,hn,hl'⟩:=I.loc;⟨m,hn,λi x v e1 e2 e3=>hl' i x v e1 (w i v e2) e3⟩,I.cell,I.free,I.freeC,I.pin,I.hok,hl.trans I.len⟩
def Inv.pins_of (I:Inv X pins σ H s)(h:∀ p∈pins',s.heap.get? p.1=some p.2/\H p.1=none/\p.1≠X.env.locals/\p.1∉X.fs/\∀ v,p.2.data≠.cell v):Inv X pins' σ H s:=
 ⟨I.ok,I.os,I.bare,I.base,I.loc,I.cell,I.free,I.freeC,λp hp=>(Aj.mp hp).elim (λz=>I.pin p (Af _ z)) (h p),I.hok,I.len⟩
def mF {N:List Str}(hN:N.Nodup){i j:Nat}{x:Str}(a:N[i]?=some x)(b:N[j]?=some x):i=j:=by
 obtain ⟨h1,e1⟩:=Ad.mp a;obtain ⟨h2,e2⟩:=Ad.mp b;exact (List.getElem_inj hN).mp (e1.trans e2.symm)
def sP {M:Model}{A:Around}{E:Value->Shared->Prop}{i:Nat}{x:Str}{v:V}{u:Value}{Q:Unit->Shared->Prop}(I:Inv X pins σ H s)(hN:X.N.Nodup)(hi:X.N[i]?=some x)(hx:Loc X.env.scope x)(r:RelV v u)
  (h:∀ s',Inv X pins (σ.set i (some v)) H s'->(∃ a,Heap.SameBut a s.heap s'.heap/\(a=X.env.locals\/X.env.cells.lookup x=some a))->Q () s') (hf:X.fn x=true\/X.env.scope.names.lookup x=some .local:=by first|exact .inl rfl|exact .inr rfl|assumption):wpAny M A (storeName X.env x u) Q E s:=by
 obtain ⟨m,hn,hl⟩:=id I.loc;have hcls:(X.env.scope.kind==.class||(X.env.scope.kind==.module&&X.env.locals != X.env.globals))=false:=by rw [I.ok.kind];rfl
 have hiσ:i<σ.length:=by rw [I.len];exact (Ad.mp hi).1
 have cne:=I.cne;have tracked:∀ {a:Addr} {h':Heap},(∃ o,s.heap.get? a=some o/\H a=none)->Heap.SameBut a s.heap h'->HOk X.prog X.w H h':=λ{a h'} ha hs b ob e=>by
  obtain ⟨_,_,hfree⟩:=ha;refine (I.hok b ob e).stay (λc w' hc q=>(hs.2 c ?_).trans q) (λ_ q=>q) λ_ _ q=>q
  rintro rfl
  rcases hc with rfl|hc
  ·rw [hfree] at e;cases e
  ·rw [hfree] at hc;cases hc
 rcases hx with hk|hk
 ·refine wpAny_storeName_local hk hn (λh' hn' hs=>?_) hcls
  obtain ⟨oL,_,_,hoL,_⟩:=id hn;refine h _ ⟨I.ok,I.os,I.bare,⟨λb o e n hb hx=>?_,λb o e n hb hx=>?_,I.base.free,λb o e hx=>?_,I.base.tups,I.base.frzs,I.base.tbls⟩,⟨_,hn',λj y v' e1 e2 e3=>?_⟩,λy c e=>?_,I.free,I.freeC,λp hp=>?_,tracked ⟨oL,hoL,I.free⟩ hs,by simpa using I.len⟩ ⟨_,hs,.inl rfl⟩
  ·exact (hs.2 b (AJ (AQ (AD e) I.ok.above))).trans (I.base.keep b o e n hb hx)
  ·obtain ⟨sl,e1⟩:=I.base.slot b o e n hb hx
   exact ⟨sl,(hs.2 b (AJ (AQ (AD e) I.ok.above))).trans e1⟩
  ·obtain ⟨o',e1⟩:=I.base.there b o e hx
   exact ⟨o',(hs.2 b (AJ (AQ (AD e) I.ok.above))).trans e1⟩
  ·by_cases hj:j=i
   ·subst hj
    rw [hi] at e1;cases e1;rw [Cn hiσ] at e2;cases e2;exact ⟨u,r,.inl ⟨hk,by simp⟩⟩
   ·rw [CA (Au hj)] at e2
    obtain ⟨u',r',q⟩:=hl j y v' e1 e2 e3;refine ⟨u',r',?_⟩
    rcases q with ⟨k,e⟩|⟨k,c,e,z⟩
    ·refine .inl ⟨k,?_⟩
     have:y≠x:=λe=>hj (mF hN e1 (e▸hi));simp [this,e]
    ·exact .inr ⟨k,c,e,z.sameBut hs (cne y c e)⟩
  ·obtain ⟨w',z⟩:=I.cell y c e
   exact ⟨w',z.sameBut hs (cne y c e)⟩
  ·obtain ⟨e,n,ne,nf,d⟩:=I.pin p hp
   exact ⟨(hs.2 p.1 ne).trans e,n,ne,nf,d⟩
 ·have hfn:X.fn x=true:=by
   rcases hf with z|z
   ·exact z
   ·rw [z] at hk;cases hk
  obtain ⟨c,hc⟩:=I.ok.has x (.inl hk);obtain ⟨w',z⟩:=I.cell x c hc;refine wpAny_storeName_cell I.ok.kind hk hc z (λh' hc' hs=>?_);obtain ⟨oc,hoc,hocd⟩:=id z;refine h { s with heap:=h' } ⟨I.ok,I.os,I.bare,⟨λb o e n hb hx=>?_,λb o e n hb hx=>?_,I.base.free,λb o e hx=>?_,I.base.tups,I.base.frzs,I.base.tbls⟩,⟨m,hn.sameBut hs (Au (cne x c hc)),λj y v' e1 e2 e3=>?_⟩,λy c' e=>?_,I.free,I.freeC,λp hp=>?_,tracked ⟨oc,hoc,I.freeC x c hc⟩ hs,by simpa using I.len⟩ ⟨c,hs,.inr hc⟩
  ·exact (hs.2 b (AJ (AQ (AD e) (I.ok.cab x c hfn hc)))).trans (I.base.keep b o e n hb hx)
  ·obtain ⟨sl,e1⟩:=I.base.slot b o e n hb hx
   exact ⟨sl,(hs.2 b (AJ (AQ (AD e) (I.ok.cab x c hfn hc)))).trans e1⟩
  ·obtain ⟨o',e1⟩:=I.base.there b o e hx
   exact ⟨o',(hs.2 b (AJ (AQ (AD e) (I.ok.cab x c hfn hc)))).trans e1⟩
  ·by_cases hj:j=i
   ·subst hj
    rw [hi] at e1;cases e1;rw [Cn hiσ] at e2;cases e2;exact ⟨u,r,.inr ⟨.inl hk,c,hc,hc'⟩⟩
   ·rw [CA (Au hj)] at e2
    obtain ⟨u',r',q⟩:=hl j y v' e1 e2 e3;refine ⟨u',r',?_⟩
    rcases q with q|⟨k,c',e,z'⟩
    ·exact .inl q
    ·refine .inr ⟨k,c',e,z'.sameBut hs ?_⟩
     rintro rfl
     exact hj (mF hN e1 (I.ok.inj _ _ _ e hc▸hi))
  ·by_cases hcc:c'=c
   ·subst hcc;exact ⟨_,hc'⟩
   ·obtain ⟨w2,z2⟩:=I.cell y c' e
    exact ⟨w2,z2.sameBut hs hcc⟩
  ·obtain ⟨e,n,ne,nf,d⟩:=I.pin p hp
   refine ⟨(hs.2 p.1 ?_).trans e,n,ne,nf,d⟩;intro q;rw [q,hoc] at e;have q':oc=p.2:=AF e;exact d w' (by rw [<- q'];exact hocd)
def lD {i:Nat}(I:Inv X pins σ H s)(hN:X.N.Nodup)(hi:X.N[i]?=some x)(hx:Loc X.env.scope x)(r:RelV v u)(h:∀ s',Inv X pins (σ.set i (some v)) H s'->Q () s')(hf:X.fn x=true\/X.env.scope.names.lookup x=some .local:=by first|exact .inl rfl|exact .inr rfl|assumption):wpAny M A (storeName X.env x u) Q E s:=
 sP I hN hi hx r (λs' I' _=>h s' I') hf
def Inv.call' (I:Inv X pins σ H s)(ho:s'.os=s.os)(u:Un (frs X.stack) ch H H' s.heap s'.heap)(hok:HOk X.prog X.w H' s'.heap)(hg:AllBare s'.gens)(hch:∀ b∈ch,(b∈X.ex\/X.s₀.heap.objs.size<=b)/\b≠X.env.locals/\(∀ x c,X.env.cells.lookup x=some c->c≠b)/\∀ p∈X.pn++pins,p.1≠b):Inv X pins σ H' s':=by
 obtain ⟨h',g',d',t',o'⟩:=s';have e:o'=s.os:=ho;subst e;exact I.call (g':=g') (t':=t') (d':=d') u hok hg hch
end
abbrev XK:=Value->Option Addr->Hp->Prop
abbrev St:=List (Option V)
abbrev VK:=V->Hp->Prop
abbrev TE:=St->Hp->VK->Prop
abbrev TT:=St->Hp->(Bool->Hp->Prop)->Prop
abbrev TA:=St->Hp->(List V->Hp->Prop)->Prop
structure Ends where
 nx:St->Hp->Prop
 rt:VK
 bk:St->Hp->Prop:=λ_ _=>False
 ct:St->Hp->Prop:=λ_ _=>False
abbrev TS:=Ends->St->Hp->Prop
def EP (X:Cx)(pins:List (Addr×Obj))(σ:St)(Q:VK)(u:Value)(s':Shared):Prop:=∃ v H',Inv X pins σ H' s'/\RelV v u/\Q v H'
def TP (X:Cx)(pins:List (Addr×Obj))(σ:St)(Q:Bool->Hp->Prop)(b:Bool)(s':Shared):Prop:=∃ H',Inv X pins σ H' s'/\Q b H'
def AP (X:Cx)(pins:List (Addr×Obj))(σ:St)(Q:List V->Hp->Prop)(us:List Value)(s':Shared):Prop:=∃ vs H',Inv X pins σ H' s'/\Vals vs us/\Q vs H'
def SP (X:Cx)(pins:List (Addr×Obj))(D:Ends)(f:Flow)(s':Shared):Prop:=
 match f with
 |.next=>∃ σ' H',Inv X pins σ' H' s'/\D.nx σ' H'
 |.brk=>∃ σ' H',Inv X pins σ' H' s'/\D.bk σ' H'
 |.cont=>∃ σ' H',Inv X pins σ' H' s'/\D.ct σ' H'
 |.ret u=>∃ v σ' H',Inv X pins σ' H' s'/\RelV v u/\D.rt v H'
def PE (X:Cx)(e:Expr)(t:TE):Prop:=
 ∀ (pins:List (Addr×Obj)) (s:Shared) (σ:St) (H:Hp) (Q:VK),Inv X pins σ H s->t σ H Q->wpAny (model X.prog X.w) X.A (eval e X.env) (EP X pins σ Q) X.xe s
def PT (X:Cx)(e:Expr)(t:TT):Prop:=
 ∀ (pins:List (Addr×Obj)) (s:Shared) (σ:St) (H:Hp) (Q:Bool->Hp->Prop),Inv X pins σ H s->t σ H Q->wpAny (model X.prog X.w) X.A (isTrue e X.env (eval e X.env)) (TP X pins σ Q) X.xe s
def PW (X:Cx)(e:Expr)(t:TT):Prop:=
 ∀ (whole:Sem Value) (pins:List (Addr×Obj)) (s:Shared) (σ:St) (H:Hp) (Q:Bool->Hp->Prop),Inv X pins σ H s->t σ H Q->wpAny (model X.prog X.w) X.A (isTrue e X.env whole) (TP X pins σ Q) X.xe s
def PW.pt (h:PW X e t):PT X e t:=h _
def PA (X:Cx)(es:List Expr)(t:TA):Prop:=
 ∀ (pos:Pos) (pins:List (Addr×Obj)) (s:Shared) (σ:St) (H:Hp) (Q:List V->Hp->Prop),Inv X pins σ H s->t σ H Q->wpAny (model X.prog X.w) X.A (spliced (backTo pos (AY es X.env))) (AP X pins σ Q) X.xe s
def PS (X:Cx)(st:Stmt)(t:TS):Prop:=
 ∀ (pins:List (Addr×Obj)) (s:Shared) (σ:St) (H:Hp) (D:Ends),Inv X pins σ H s->t D σ H->wpAny (model X.prog X.w) X.A (exec st X.env) (SP X pins D) X.xe s
def PSs (X:Cx)(st:List Stmt)(t:TS):Prop:=
 ∀ (pins:List (Addr×Obj)) (s:Shared) (σ:St) (H:Hp) (D:Ends),Inv X pins σ H s->t D σ H->wpAny (model X.prog X.w) X.A (execs st X.env) (SP X pins D) X.xe s
def thn {α:Type}{t:Sem α}{Q Q':α->Shared->Prop}{M:Model}{A:Around}{E:Value->Shared->Prop}{s:Shared}(h:wpAny M A t Q E s)(hQ:∀ a s,Q a s->Q' a s):wpAny M A t Q' E s:=BZ h hQ λ_ _ x=>x
section
variable {X:Cx}
def bin {a b:Expr}{ta tb:TE}(ha:PE X a ta)(hb:PE X b tb){pins:List (Addr×Obj)}{s:Shared}{σ:St}{H:Hp}{R:V->V->Hp->Prop}(I:Inv X pins σ H s)(h:ta σ H λx H1=>tb σ H1 λy H2=>R x y H2)
  {α:Type} {Q:α->Shared->Prop} {f:Value->Value->Sem α}
  (hf:∀ v u s2 x y H2,Inv X pins σ H2 s2->RelV x v->RelV y u->R x y H2->wpAny (model X.prog X.w) X.A (f v u) Q X.xe s2) :
  wpAny (model X.prog X.w) X.A (eval a X.env) (λv s₁=>wpAny (model X.prog X.w) X.A (eval b X.env) (λu s₂=>wpAny (model X.prog X.w) X.A (f v u) Q X.xe s₂) X.xe s₁) X.xe s:=by
 refine thn (ha pins s σ H _ I h) λv s1 ⟨x,H1,I1,r1,q1⟩=>?_;refine thn (hb pins s1 σ H1 _ I1 q1) λu s2 ⟨y,H2,I2,r2,q2⟩=>?_;exact hf v u s2 x y H2 I2 r1 r2 q2
def tVar (i:Nat):TE:=λσ H Q=>∃ v,σ[i]?=some (some v)/\Q v H
def tC (v:V):TE:=λ_ H Q=>Q v H
def tW {i:Nat}(hN:X.N[i]?=some x)(hv:Vis X.env.scope x)(hd:(x==("__debug__":Str))=false:=by decide)(hcd:(x==("__classdict__":Str))=false:=by decide):PE X (.Name x pos) (tVar i):=by
 intro pins s σ H Q I h;obtain ⟨v,e,h⟩:=h;obtain ⟨m,hn,hl⟩:=I.loc;obtain ⟨u,r,l⟩:=hl i x v hN e hv;have fin:EP X pins σ Q u s:=⟨v,H,I,r,h⟩
 rcases l with ⟨hk,hm⟩|⟨hk,c,hc,hcell⟩
 ·exact wpAny_Name (wpAny_loadName_local I.ok.kind hk hn hm fin) hd
 ·rcases hk with hk|hk
  ·exact wpAny_Name (wpAny_loadName_cell I.ok.kind hk hc hcell fin) hd
  ·exact wpAny_Name (wpAny_loadName_free I.ok.kind hk hc hcell fin hcd) hd
def aH {i j pos}:PE X (.Constant (.int i) j pos) (tC (.int i)):=λ_ _ _ H _ I h=>wpAny_Constant_int ⟨.int i,H,I.tok _,⟨_,rfl⟩,h⟩
def gF {b j pos}:PE X (.Constant (.bool b) j pos) (tC (.bl b)):=λ_ _ _ H _ I h=>Constant_bool ⟨.bl b,H,I,rfl,h⟩
def qO {j pos}:PE X (.Constant .none j pos) (tC .non):=λ_ _ _ H _ I h=>Constant_none ⟨.non,H,I,rfl,h⟩
def aJ {x j pos}:PE X (.Constant (.str x) j pos) (tC (.str x)):=λ_ _ _ H _ I h=>Calls.Constant_str ⟨.str x,H,I.tok _,⟨_,rfl⟩,h⟩
def Gl (X:Cx)(x:Str):Prop:=X.env.kindOf x=some .globalImplicit
def jU {σ:St}(I:Inv X pins σ H s)(hg:Gl X x)(hm:X.mg x=some u)(h:Q u s)(hd:(x==("__debug__":Str))=false:=by decide):wpAny (model X.prog X.w) X.A (eval (.Name x pos) X.env) Q E s:=
 Calls.Name_function_global I.ok.kind hg (Calls.loadGlobal_global (by rw [I.ok.glob];exact I.mod.glob.keeps I.bk) hm h) hd
def jV {σ:St}(I:Inv X pins σ H s)(hg:Gl X x)(hm:X.mg x=none)(hv:BU x=some u)(h:Q u s)(hn:x ≠ "__name__":=by decide)(hd:(x==("__debug__":Str))=false:=by decide):wpAny (model X.prog X.w) X.A (eval (.Name x pos) X.env) Q E s:=by
 obtain ⟨mb,h1,h2⟩:=I.mod.blt;exact Calls.Name_function_global I.ok.kind hg (Calls.loadGlobal_builtin (by rw [I.ok.glob];exact I.mod.glob.keeps I.bk) hm (by rw [I.ok.blt];exact h1.keeps I.bk) ((h2 x hn).trans hv) h) hd
def dY (hg:Gl X x)(hm:X.mg x=some u)(r:RelV v u)(hd:(x==("__debug__":Str))=false:=by decide):PE X (.Name x pos) (tC v):=
 λ_ _ _ H _ I h=>jU I hg hm ⟨v,H,I,r,h⟩ hd
def jM (hg:Gl X x)(hm:X.mg x=none)(hv:BU x=some u)(r:RelV v u)(hn:x ≠ "__name__":=by decide)(hd:(x==("__debug__":Str))=false:=by decide):PE X (.Name x pos) (tC v):=
 λ_ _ _ H _ I h=>jV I hg hm hv ⟨v,H,I,r,h⟩ hn hd
def t2I (ta tb:TE)(k:Int->Int->Hp->Prop):St->Hp->Prop:=λσ H=>ta σ H λx H1=>tb σ H1 λy H2=>∃ i j,x=.int i/\y=.int j/\k i j H2
def tAdd (ta tb:TE):TE:=λσ H Q=>t2I ta tb (λi j H2=>Q (.int (i+j)) H2) σ H
def tSub (ta tb:TE):TE:=λσ H Q=>t2I ta tb (λi j H2=>Q (.int (i-j)) H2) σ H
def tMul (ta tb:TE):TE:=λσ H Q=>t2I ta tb (λi j H2=>(-(2^64)<i/\i<2^64)/\Q (.int (i*j)) H2) σ H
variable {a b:Expr}{ta tb:TE}{pos:Pos}
def PC (X:Cx)(op:CmpOp)(a b:Expr)(t:TE):Prop:=
 ∀ (pins:List (Addr×Obj)) (s:Shared) (σ:St) (H:Hp) (Q:VK),Inv X pins σ H s->t σ H Q ->
  wpAny (model X.prog X.w) X.A (eval a X.env) (λv s₁=>wpAny (model X.prog X.w) X.A (eval b X.env) (λu s₂=>wpAny (model X.prog X.w) X.A (Bi op v u) (EP X pins σ Q) X.xe s₂) X.xe s₁) X.xe s
def tCmp (p:Int->Int->Bool)(ta tb:TE):TE:=λσ H Q=>t2I ta tb (λi j H2=>Q (.bl (p i j)) H2) σ H
abbrev tLt:TE->TE->TE:=tCmp λi j=>decide (i<j)
abbrev tLe:TE->TE->TE:=tCmp λi j=>decide (i<=j)
abbrev tGt:TE->TE->TE:=tCmp λi j=>decide (j<i)
abbrev tGe:TE->TE->TE:=tCmp λi j=>decide (j<=i)
abbrev tEqI:TE->TE->TE:=tCmp λi j=>decide (i=j)
abbrev tNeI:TE->TE->TE:=tCmp λi j=>!decide (i=j)
def tIsN (ta:TE):TE:=λσ H Q=>ta σ H λx H1=>Q (.bl (decide (x=.non))) H1
def tNotN (ta:TE):TE:=λσ H Q=>ta σ H λx H1=>Q (.bl (!decide (x=.non))) H1
def tB (t:TE):TT:=λσ H Q=>t σ H λx H1=>∃ c,x=.bl c/\Q c H1
def tX (h:PC X op a b t)(h1:DW op b=false:=by first|exact nobehind _ (by decide) (by decide)|rfl):PE X (.Compare a [op] [b] pos) t:=λpins s σ H Q I hw=>wpAny_Compare1 (h pins s σ H Q I hw) h1
def nP {op:CmpOp}{t:TE}(h:PC X op a b t)(h1:DW op b=false:=by first|exact nobehind _ (by decide) (by decide)|rfl):PT X (.Compare a [op] [b] pos) (tB t):=by
 intro pins s σ H Q I hw;refine wpAny_isTrue_Compare1 (thn (h pins s σ H _ I hw) λv s1 h1=>thn h1 λu s2 h2=>thn h2 λc s3 ⟨x,H1,I1,r1,q1⟩=>?_) h1;obtain ⟨d,rfl,q⟩:=q1;cases r1;exact BM ⟨H1,I1,q⟩
def cU {e:Expr}{t:TE}(h:PE X e t)(he:∀ whole,isTrue e X.env whole=(do let v <- whole;standAt e.pos;holding [v] (truthy v)):=by intro _;rfl):PT X e (tB t):=by
 intro pins s σ H Q I hw;refine isTrue_plain (thn (h pins s σ H _ I hw) λv s1 ⟨x,H1,I1,r1,q1⟩=>?_) (he _);obtain ⟨d,rfl,q⟩:=q1;cases r1;exact BM ⟨H1,I1,q⟩
variable {tA tB':TT}{rest:List Expr}
def tAnd (t u:TT):TT:=λσ H Q=>t σ H λc H1=>if c=true then u σ H1 Q else Q false H1
def tOr (t u:TT):TT:=λσ H Q=>t σ H λc H1=>if c=true then Q true H1 else u σ H1 Q
def tNot (t:TT):TT:=λσ H Q=>t σ H λc H1=>Q (!c) H1
def jK (ha:PT X a tA):PW X (.BoolOp .And [a] pos) tA:=by
 intro wh pins s σ H Q I h;refine isTrue_and (thn (ha pins s σ H Q I h) λc s1 e=>?_);cases c with
 |true=>exact isTrue_and_nil e
 |false=>exact e
def gG (ha:PT X a tA):PW X (.BoolOp .Or [a] pos) tA:=by
 intro wh pins s σ H Q I h;refine isTrue_or (thn (ha pins s σ H Q I h) λc s1 e=>?_);cases c with
 |false=>exact isTrue_or_nil e
 |true=>exact e
def kR (ha:PT X a tA)(hb:PW X (.BoolOp .And (b::rest) pos) tB'):PW X (.BoolOp .And (a::b::rest) pos) (tAnd tA tB'):=by
 intro wh pins s σ H Q I h;refine isTrue_and (thn (ha pins s σ H _ I h) λc s1 ⟨H1,I1,q1⟩=>?_);cases c with
 |true=>exact hb wh pins s1 σ H1 Q I1 q1
 |false=>exact ⟨H1,I1,q1⟩
def jJ (ha:PT X a tA)(hb:PW X (.BoolOp .Or (b::rest) pos) tB'):PW X (.BoolOp .Or (a::b::rest) pos) (tOr tA tB'):=by
 intro wh pins s σ H Q I h;refine isTrue_or (thn (ha pins s σ H _ I h) λc s1 ⟨H1,I1,q1⟩=>?_);cases c with
 |true=>exact ⟨H1,I1,q1⟩
 |false=>exact hb wh pins s1 σ H1 Q I1 q1
def eC (ha:PT X a tA):PT X (.UnaryOp .Not a pos) (tNot tA):=by
 intro pins s σ H Q I h;exact isTrue_not (ha pins s σ H (λc H1=>Q (!c) H1) I h)
def aF7 (ta tb:TE):TE:=λσ H Q=>ta σ H λx H1=>∃ c,x=.bl c/\if c=true then tb σ H1 Q else Q (.bl false) H1
def tOrV (ta tb:TE):TE:=λσ H Q=>ta σ H λx H1=>∃ c,x=.bl c/\if c=true then Q (.bl true) H1 else tb σ H1 Q
def aF1 (ta:TE):TE:=λσ H Q=>ta σ H λx H1=>∃ c,x=.bl c/\Q (.bl (!c)) H1
def iN {op}(h:PE X a t):PE X (.BoolOp op [a] pos) t:=λpins s σ H Q I hw=>BoolOp_one (h pins s σ H Q I hw)
def iO (ha:PE X a ta)(hb:PE X (.BoolOp .And (b::rest) pos) tb):PE X (.BoolOp .And (a::b::rest) pos) (aF7 ta tb):=by
 intro pins s σ H Q I h;refine BoolOp_and (thn (ha pins s σ H _ I h) λv s1 ⟨x,H1,I1,r1,q1⟩=>?_);obtain ⟨c,rfl,q1⟩:=q1;cases r1;refine BM ?_;cases c with
 |true=>exact hb pins s1 σ H1 Q I1 q1
 |false=>exact ⟨.bl false,H1,I1,rfl,q1⟩
def aGj (ha:PE X a ta)(hb:PE X (.BoolOp .Or (b::rest) pos) tb):PE X (.BoolOp .Or (a::b::rest) pos) (tOrV ta tb):=by
 intro pins s σ H Q I h;refine BoolOp_or (thn (ha pins s σ H _ I h) λv s1 ⟨x,H1,I1,r1,q1⟩=>?_);obtain ⟨c,rfl,q1⟩:=q1;cases r1;refine BM ?_;cases c with
 |false=>exact hb pins s1 σ H1 Q I1 q1
 |true=>exact ⟨.bl true,H1,I1,rfl,q1⟩
def aEk (ha:PE X a ta):PE X (.UnaryOp .Not a pos) (aF1 ta):=by
 intro pins s σ H Q I h;refine UnaryOp_ (thn (ha pins s σ H _ I h) λv s1 ⟨x,H1,I1,r1,q1⟩=>?_);obtain ⟨c,rfl,q1⟩:=q1;cases r1;exact not_of (BM ⟨.bl (!c),H1,I1,rfl,q1⟩)
def tIf (t:TT)(ta tb:TE):TE:=λσ H Q=>t σ H λc H1=>if c=true then ta σ H1 Q else tb σ H1 Q
def xR {c:Expr}(hc:PT X c tA)(ha:PE X a ta)(hb:PE X b tb):PE X (.IfExp c a b pos) (tIf tA ta tb):=by
 intro pins s σ H Q I h;refine wpAny_IfExp (thn (hc pins s σ H _ I h) λd s1 ⟨H1,I1,q1⟩=>?_);cases d with
 |true=>exact ha pins s1 σ H1 Q I1 q1
 |false=>exact hb pins s1 σ H1 Q I1 q1
end
def SqL (K:Aa)(H:Hp)(a:Addr)(xs:List V):Prop:=
 Rd H a (.lst xs) \/
  ∃ (o:Obj) (its:Array Value) (n:Nat),K.lookup a=some o/\o.cls=.type "list" /\ o.dict=none/\o.data=.seq its n/\its.size<=AB/\Vals xs its.toList
def SqT (K:Aa)(H:Hp)(a:Addr)(xs:List V):Prop:=
 Rd H a (.tup xs) \/
  ∃ (o:Obj) (its:Array Value) (n:Nat),K.lookup a=some o/\o.cls=.type "tuple" /\ o.data=.seq its n/\its.size<=AB/\Vals xs its.toList
def absV:Value->Option V
 |.none=>some .non
 |.bool b=>some (.bl b)
 |.int i _=>some (.int i)
 |.str x _=>some (.str x)
 |.bytes b _=>some (.byt b)
 |.float b _=>some (.flt b)
 |.ref a=>some (.ref a)
 |.type n=>some (.ty n)
 |_=>none
def RelV.abs (r:RelV x u):absV u=some x:=by
 cases x with
 |non=>cases r;rfl
 |bl _=>cases r;rfl
 |int _=>obtain ⟨t,rfl⟩:=r;rfl
 |str _=>obtain ⟨t,rfl⟩:=r;rfl
 |byt _=>obtain ⟨t,rfl⟩:=r;rfl
 |flt _=>obtain ⟨t,rfl⟩:=r;rfl
 |ref _=>cases r;rfl
 |ty _=>cases r;rfl
theorem RelV.inj (r:RelV x u)(q:RelV y u):x=y:=AF (r.abs.symm.trans q.abs)
theorem Vals.inj:∀ {xs ys:List V} {us:List Value},Vals xs us->Vals ys us->xs=ys
 |_,_,_,.nil,.nil=>rfl
 |_,_,_,.cons r t,.cons r' t'=>by rw [r.inj r',Vals.inj t t']
section
variable {X:Cx}{pins:List (Addr×Obj)}{σ:St}{H:Hp}{s:Shared}{a:Addr}{xs ys:List V}
def SqL.of {K:Aa}(h:H a=some (.lst xs)):SqL K H a xs:=.inl (.inl h)
def SqT.of {K:Aa}(h:H a=some (.tup xs)):SqT K H a xs:=.inl (.inl h)
def Inv.list (I:Inv X pins σ H s)(h:SqL X.K H a xs):∃ its:List Value,Vals xs its/\PlainL s.heap a its.toArray/\xs.length<=AB:=by
 rcases h with h|⟨o,its,n,hk,hc,hd,hs,hz,r⟩
 ·obtain ⟨z,its,n,r,e⟩:=h.ok I.hok
  exact ⟨its,r,⟨_,n,e,rfl,rfl,rfl⟩,z⟩
 ·refine ⟨its.toList,r,⟨o,n,I.kIn a o hk,hc,hd,by simpa using hs⟩,?_⟩
  have e:=r.length;simp only [BH] at e;omega
def Inv.tuple (I:Inv X pins σ H s)(h:SqT X.K H a xs):∃ its:List Value,Vals xs its/\IsTup s.heap a its.toArray/\xs.length<=AB:=by
 rcases h with h|⟨o,its,n,hk,hc,hs,hz,r⟩
 ·obtain ⟨z,its,r,p⟩:=h.ok I.hok
  exact ⟨its,r,p,z.1⟩
 ·refine ⟨its.toList,r,⟨o,I.kIn a o hk,hc,n,by simpa using hs⟩,?_⟩
  have e:=r.length;simp only [BH] at e;omega
theorem Inv.list_inj (I:Inv X pins σ H s)(h:SqL X.K H a xs)(h':SqL X.K H a ys):xs=ys:=by
 obtain ⟨its,r,⟨o,n,e,_,_,d⟩,_⟩:=I.list h;obtain ⟨its',r',⟨o',n',e',_,_,d'⟩,_⟩:=I.list h';rw [e] at e';cases e';rw [d] at d';injection d' with d1 _;have:its=its':=by simpa using congrArg Array.toList d1
 subst this;exact r.inj r'
end
abbrev Cx.wish (X:Cx)(E:Value->Shared->Prop):Cx:={ X with xe:=E }
abbrev Cx.nox (X:Cx):Cx:=X.wish λ_ _=>False
def Cx.Ok.wish {X:Cx}(ok:X.Ok)(E:Value->Shared->Prop):(X.wish E).Ok:=
 ⟨ok.mod,ok.kind,ok.glob,ok.blt,ok.above,ok.inj,ok.has,ok.cab,ok.hd,ok.frames,ok.stk,ok.exf,ok.bs,ok.bsz,ok.noex,ok.exfs,ok.funs,ok.frf⟩
def Cx.Ok.unwish {X:Cx}{E:Value->Shared->Prop}(ok:(X.wish E).Ok):X.Ok:=
 ⟨ok.mod,ok.kind,ok.glob,ok.blt,ok.above,ok.inj,ok.has,ok.cab,ok.hd,ok.frames,ok.stk,ok.exf,ok.bs,ok.bsz,ok.noex,ok.exfs,ok.funs,ok.frf⟩
section
variable {X:Cx}{pins:List (Addr×Obj)}{σ:St}{H:Hp}{s:Shared}{E:Value->Shared->Prop}
def Inv.wish (I:Inv X pins σ H s)(E:Value->Shared->Prop):Inv (X.wish E) pins σ H s:=⟨I.ok.wish E,I.os,I.bare,I.base,I.loc,I.cell,I.free,I.freeC,I.pin,I.hok,I.len⟩
def Inv.unwish (I:Inv (X.wish E) pins σ H s):Inv X pins σ H s:=⟨I.ok.unwish,I.os,I.bare,I.base,I.loc,I.cell,I.free,I.freeC,I.pin,I.hok,I.len⟩
def SP.unwish (h:SP (X.wish E) pins D f s'):SP X pins D f s':=by
 cases f with
 |next=>obtain ⟨σ',H',I,q⟩:=h;exact ⟨σ',H',I.unwish,q⟩
 |brk=>obtain ⟨σ',H',I,q⟩:=h;exact ⟨σ',H',I.unwish,q⟩
 |cont=>obtain ⟨σ',H',I,q⟩:=h;exact ⟨σ',H',I.unwish,q⟩
 |ret u=>obtain ⟨v,σ',H',I,r,q⟩:=h;exact ⟨v,σ',H',I.unwish,r,q⟩
def PSs.nox {st:List Stmt}{t:TS}(h:PSs X.nox st t):PSs X st t:=λpins s σ H D I hw=>
 BZ (h pins s σ H D (I.wish _) hw) (λ_ _ q=>q.unwish) λ_ _ z=>CB z
end
section
variable {X:Cx}{st:Stmt}{rest:List Stmt}{t u:TS}{e:Expr}{te:TE}{pos:Pos}
def aAx:TS:=λD σ H=>D.nx σ H
def tSeq (t u:TS):TS:=λD σ H=>t { D with nx:=u D } σ H
def aQ:PSs X [] aAx:=λ_ _ σ H _ I h=>DY ⟨σ,H,I,h⟩
def aC (h1:PS X st t)(h2:PSs X rest u):PSs X (st::rest) (tSeq t u):=by
 intro pins s σ H D I h;refine wpAny_execs_cons (thn (h1 pins s σ H { D with nx:=u D } I h) λf s1 q=>?_);cases f with
 |next=>
  obtain ⟨σ',H',I',q⟩:=q;exact h2 pins s1 σ' H' D I' q
 |ret v=>exact q
 |brk=>exact q
 |cont=>exact q
def aF (h1:PS X st t):PSs X [st] t:=by
 intro pins s σ H D I h;refine wpAny_execs_cons (thn (h1 pins s σ H D I h) λf s1 q=>?_);cases f with
 |next=>exact DY q
 |ret v=>exact q
 |brk=>exact q
 |cont=>exact q
def tBreak:TS:=λD σ H=>D.bk σ H
def tCont:TS:=λD σ H=>D.ct σ H
def Inv.quiet {σ:St}(I:Inv X pins σ H s):interactive X.env=false:=by simp [interactive,I.ok.kind]
def aF3 (te:TE):TS:=λD σ H=>te σ H λ_ H1=>D.nx σ H1
def bD (he:PE X e te)(hs:swapsWith e none pos.line X.env=pure false:=by rfl):PS X (.Expr e pos) (aF3 te):=by
 intro pins s σ H D I h;exact wpAny_Expr_any (thn (he pins s σ H _ I h) λv s1 ⟨x,H1,I1,r1,q1⟩=>⟨σ,H1,I1,q1⟩) I.quiet hs
def tRet (te:TE):TS:=λD σ H=>te σ H D.rt
def aK (he:PE X e te):PS X (.Return (some e) pos) (tRet te):=by
 intro pins s σ H D I h;exact wpAny_Return_some (thn (he pins s σ H _ I h) λv s1 ⟨x,H1,I1,r1,q1⟩=>⟨x,σ,H1,I1,r1,q1⟩)
def tRetN:TS:=λD _ H=>D.rt .non H
def tIfS (c:TT)(t u:TS):TS:=λD σ H=>c σ H λb H1=>if b=true then t D σ H1 else u D σ H1
def bC {c:Expr}{a b:List Stmt}{tc:TT}(hc:PT X c tc)(ha:PSs X a t)(hb:PSs X b u):PS X (.If c a b pos) (tIfS tc t u):=by
 intro pins s σ H D I h;refine wpAny_If (thn (hc pins s σ H _ I h) λd s1 ⟨H1,I1,q1⟩=>?_);cases d with
 |true=>exact ha pins s1 σ H1 D I1 q1
 |false=>exact hb pins s1 σ H1 D I1 q1
def zS:TS:=λ_ _ _=>False
def qN:PS X st zS:=λ_ _ _ _ _ _ h=>h.elim
def tT :PSs X sts zS:=λ_ _ _ _ _ _ h=>h.elim
end
abbrev TG:=V->St->Hp->(St->Hp->Prop)->Prop
abbrev TGs:=List V->St->Hp->(St->Hp->Prop)->Prop
def PG (X:Cx)(target:Expr)(t:TG):Prop:=
 ∀ (pins:List (Addr×Obj)) (s:Shared) (σ:St) (H:Hp) (v:V) (u:Value) (Q:St->Hp->Prop),Inv X pins σ H s->RelV v u->t v σ H Q ->
  wpAny (model X.prog X.w) X.A (assign target X.env u) (λ_ s'=>∃ σ' H',Inv X pins σ' H' s'/\Q σ' H') X.xe s
def PGs (X:Cx)(ts:List Expr)(t:TGs):Prop:=
 ∀ (pins:List (Addr×Obj)) (s:Shared) (σ:St) (H:Hp) (vs:List V) (us:List Value) (Q:St->Hp->Prop),Inv X pins σ H s->Vals vs us->t vs σ H Q ->
  wpAny (model X.prog X.w) X.A (assignInOrder ((assignEach ts X.env).map (·.2)) us) (λ_ s'=>∃ σ' H',Inv X pins σ' H' s'/\Q σ' H') X.xe s
abbrev TSet:=V->V->V->Hp->(Hp->Prop)->Prop
def PSet (X:Cx)(t:TSet):Prop:=
 ∀ (pins:List (Addr×Obj)) (s:Shared) (σ:St) (H:Hp) (o i v:V) (ov iv u:Value) (Q:Hp->Prop),Inv X pins σ H s->RelV o ov->RelV i iv->RelV v u->t o i v H Q ->
  wpAny (model X.prog X.w) X.A (setItem ov iv u) (λ_ s'=>∃ H',Inv X pins σ H' s'/\Q H') X.xe s
abbrev TIp:=V->V->Hp->VK->Prop
def PIp (X:Cx)(op:Operator)(t:TIp):Prop:=
 ∀ (pins:List (Addr×Obj)) (s:Shared) (σ:St) (H:Hp) (x y:V) (v u:Value) (Q:VK),Inv X pins σ H s->RelV x v->RelV y u->t x y H Q ->
  wpAny (model X.prog X.w) X.A (inplaceOp op v u) (EP X pins σ Q) X.xe s
section
variable {X:Cx}{pos:Pos}
def kC (i:Nat):TG:=λv σ H Q=>Q (σ.set i (some v)) H
def aY {i:Nat}(hN:X.N.Nodup)(hi:X.N[i]?=some x)(hx:Loc X.env.scope x)(hf:X.fn x=true\/X.env.scope.names.lookup x=some .local:=by first|exact .inl rfl|exact .inr rfl|assumption):PG X (.Name x pos) (kC i):=by
 intro pins s σ H v u Q I r h;exact wpAny_assign_Name (lD I hN hi hx r (λs' I'=>⟨_,H,I',h⟩) hf)
def gNil:TGs:=λvs σ H Q=>vs=[]/\Q σ H
def aGu (t:TG)(u:TGs):TGs:=λvs σ H Q=>∃ v r,vs=v::r/\t v σ H λσ' H'=>u r σ' H' Q
def iC:PGs X [] gNil:=by
 intro pins s σ H vs us Q I r h;obtain ⟨e,h⟩:=h;subst e;cases r;exact assignInOrder_nil ⟨σ,H,I,h⟩
def dF {e:Expr}{es:List Expr}{t:TG}{u:TGs}(h1:PG X e t)(h2:PGs X es u)
  (hs:(assignEach (e::es) X.env).map (·.2)=assign e X.env::(assignEach es X.env).map (·.2):=by rfl):PGs X (e::es) (aGu t u):=by
 intro pins s σ H vs us Q I r h;obtain ⟨v,vr,e1,h⟩:=h;subst e1;cases r with
 |cons r rr=>
  rw [hs];refine assignInOrder_cons (thn (h1 pins s σ H _ _ _ I r h) λ_ s1 ⟨σ1,H1,I1,q1⟩=>?_);exact h2 pins s1 σ1 H1 _ _ Q I1 rr q1
def gTup (K:Aa)(n:Nat)(t:TGs):TG:=λv σ H Q=>∃ a xs,v=.ref a/\SqT K H a xs/\xs.length=n/\t xs σ H Q
def kW {k:Nat}{n:Nat}(hc:X.calm=true)(h:PGs X es t)(hn:(assignEach es X.env).length=n:=by rfl)(hst:(assignEach es X.env).findIdx? (·.1)=none:=by rfl):PG X (.Tuple es k pos) (gTup X.K n t):=by
 intro pins s σ H v u Q I r hw;obtain ⟨a,xs,e1,hq,hl,hw⟩:=hw;subst e1;cases r;obtain ⟨its,rv,ht,hz⟩:=I.tuple hq;refine assign_Tuple_tuple (I.ok.hd hc) ht (by simp [hn,<- hl,rv.length]) hst λh' hx=>?_;have I1:Inv X pins σ H { s with heap:=h' }:=I.kept (t':=s.toks) λb o e=>hx b o (AJ (AD e)) e;exact h pins _ σ H xs _ Q I1 (by simpa using rv) hw
def gSub (to ti:TE)(t:TSet):TG:=λv σ H Q=>to σ H λo H1=>ti σ H1 λi H2=>t o i v H2 λH3=>Q σ H3
def tAsg (te:TE)(g:TG):TS:=λD σ H=>te σ H λx H1=>g x σ H1 D.nx
def nQ {tg e:Expr}{te:TE}{g:TG}(he:PE X e te)(hg:PG X tg g)(hs:swapsWithSole [tg] e pos.line X.env=pure false:=by rfl)(hw:swappedStores [tg] e X.env=pure none:=by rfl)
  (h1:(assignEach [tg] X.env).map (·.2)=[assign tg X.env]:=by rfl):PS X (.Assign [tg] e pos) (tAsg te g):=by
 intro pins s σ H D I h;refine wpAny_Assign_stores (thn (he pins s σ H _ I h) λv s1 ⟨x,H1,I1,r1,q1⟩=>?_) hs hw;rw [h1];exact thn (hg pins s1 σ H1 x v _ I1 r1 q1) λ_ s2 q=>q
def aT {i:Nat}{x:Str}{e:Expr}{te:TE}{pos':Pos}(hN:X.N.Nodup)(hi:X.N[i]?=some x)(hx:Loc X.env.scope x)(he:PE X e te)(hs:swapsWith e (some (.Name x pos')) pos.line X.env=pure false:=by rfl)(hf:X.fn x=true\/X.env.scope.names.lookup x=some .local:=by first|exact .inl rfl|exact .inr rfl|assumption) :
  PS X (.Assign [.Name x pos'] e pos) (tAsg te (kC i)):=by
 intro pins s σ H D I h;refine wpAny_Assign_Name (thn (he pins s σ H _ I h) λv s1 ⟨y,H1,I1,r1,q1⟩=>?_) hs;exact lD I1 hN hi hx r1 (λs2 I2=>⟨_,H1,I2,q1⟩) hf
def tPar (i j:Nat)(ta:TA):TS:=λD σ H=>ta σ H λvs H1=>∃ v w,vs=[v,w]/\D.nx ((σ.set i (some v)).set j (some w)) H1
def tAug (i:Nat)(te:TE)(ti:TIp):TS:=λD σ H=>∃ x,σ[i]?=some (some x)/\te σ H λy H1=>ti x y H1 λz H2=>D.nx (σ.set i (some z)) H2
def tAugS (to ti te:TE)(tget:V->V->Hp->VK->Prop)(tip:TIp)(tset:TSet):TS:=λD σ H=>to σ H λo H1=>ti σ H1 λi H2=>tget o i H2 λx H3=>te σ H3 λy H4=>tip x y H4 λz H5=>tset o i z H5 λH6=>D.nx σ H6
def PGet (X:Cx)(t:V->V->Hp->VK->Prop):Prop:=
 ∀ (pins:List (Addr×Obj)) (s:Shared) (σ:St) (H:Hp) (o i:V) (ov iv:Value) (Q:VK),Inv X pins σ H s->RelV o ov->RelV i iv->t o i H Q ->
  wpAny (model X.prog X.w) X.A (getItem ov iv) (EP X pins σ Q) X.xe s
def ipI (f:Int->Int->Int):TIp:=λx y H Q=>∃ i j,x=.int i/\y=.int j/\Q (.int (f i j)) H
end
section
variable {X:Cx}{pos:Pos}
def zR (c:TT)(tb:TS):TS:=λD σ H=>∃ W:Nat->St->Hp->Prop,(∃ m,W m σ H)/\∀ m σ H,W m σ H ->
 c σ H λb H1=>if b=true then ∃ N:St->Hp->Prop,(∀ σ' H',N σ' H'->∃ m',m'<m/\W m' σ' H')/\tb { D with nx:=N,ct:=N,bk:=D.nx } σ H1 else D.nx σ H1
def xN {c:Expr}{body:List Stmt}{tc:TT}{tb:TS}(hp:BX (model X.prog X.w) X.A X.env X.xe)(hc:PT X c tc)(hb:PSs X body tb):PS X (.While c body [] pos) (zR tc tb):=by
 intro pins s σ H D I h;obtain ⟨W,⟨m0,w0⟩,turn⟩:=h;refine wpAny_While (codeAny_whileLoop (λn s'=>∃ σ' H',Inv X pins σ' H' s'/\W n σ' H') ?_ m0 ⟨σ,H,I,w0⟩)
 rintro n s1 ⟨σ1,H1,I1,w1⟩
 refine Da hp (thn (hc pins s1 σ1 H1 _ I1 (turn n σ1 H1 w1)) λb s2 ⟨H2,I2,q2⟩=>?_);cases b with
 |true=>
  obtain ⟨N,hN,q2⟩:=q2;rw [if_pos rfl];refine Da hp (thn (hb pins s2 σ1 H2 _ I2 q2) λf s3 q3=>?_);cases f with
  |next=>
   obtain ⟨σ3,H3,I3,n3⟩:=q3;obtain ⟨m',hm,w3⟩:=hN σ3 H3 n3;exact ⟨m',hm,σ3,H3,I3,w3⟩
  |cont=>
   obtain ⟨σ3,H3,I3,n3⟩:=q3;obtain ⟨m',hm,w3⟩:=hN σ3 H3 n3;exact ⟨m',hm,σ3,H3,I3,w3⟩
  |brk=>exact q3
  |ret v=>exact q3
 |false=>
  rw [if_neg AH];exact DY ⟨σ1,H2,I2,q2⟩
end
structure It where
 go:Nat->Hp->Prop
 yld:Nat->Hp->V->Hp->Prop
 stop:Nat->Hp->Prop
def FpOk (X:Cx)(pins:List (Addr×Obj))(H:Hp)(b:Addr):Prop:=
 H b=none/\b≠X.env.locals/\b∉X.fs/\(b∈X.ex\/X.s₀.heap.objs.size<=b)/\(∀ x c,X.env.cells.lookup x=some c->c≠b)/\∀ p∈X.pn++pins,p.1≠b
def Inv.fpOk {σ:St}(I:Inv X pins σ H s)(hb:s.heap.objs.size<=b)(hn:H' b=none):FpOk X pins H' b:=by
 refine ⟨hn,Nat.ne_of_gt (AQ I.lt hb),I.nofs hb,.inr (AX I.sz hb),λx c e z=>?_,λp hp z=>?_⟩
 ·obtain ⟨v,q⟩:=I.cell x c e
  exact absurd (AQ q.lt (by rw [z];exact hb)) (BP _)
 ·exact absurd (AQ (AD (I.pin p hp).1) (by rw [z];exact hb)) (BP _)
structure Turn (P:AE)(w:World)(K:Aa)(tg:Expr)(J:It)(fp:List Addr)(it:Addr)(tn:Nat->Heap->Prop):Prop where
 mem:it∈fp
 obj:∀ i h,tn i h->∀ b∈fp,∃ o,h.get? b=some o/\∀ v,o.data≠.cell v
 keep:∀ i h h',tn i h->(∀ b∈fp,∀ o,h.get? b=some o->h'.get? b=some o)->tn i h'
 item:∀ (X:Cx),X.prog=P->X.w=w->X.K=K->X.calm=true->∀ (i:Nat) (pins:List (Addr×Obj)) (s:Shared) (σ:St) (H:Hp) (E:Value->Shared->Prop),Inv X pins σ H s->(∀ b∈fp,FpOk X pins H b)->tn i s.heap->J.go i H ->
  wpAny (model P w) X.A (pyNext (.ref it)) (λr s1=>∃ u,r=some u /\
   wpAny (model P w) X.A (DZ tg (.ref it) u) (λ_ s2=>∃ x H',Inv X pins σ H' s2/\RelV x u/\J.yld i H x H'/\tn (i+1) s2.heap/\∀ b∈fp,H' b=none) E s1) E s
 done:∀ (X:Cx),X.prog=P->X.w=w->X.K=K->X.calm=true->∀ (i:Nat) (pins:List (Addr×Obj)) (s:Shared) (σ:St) (H:Hp) (E:Value->Shared->Prop),Inv X pins σ H s->(∀ b∈fp,FpOk X pins H b)->tn i s.heap->J.stop i H ->
  wpAny (model P w) X.A (pyNext (.ref it)) (λr s1=>r=none/\Inv X pins σ H s1) E s
 self:∀ (A:Around) (i:Nat) (s:Shared) (Q:Value->Shared->Prop) (E:Value->Shared->Prop),tn i s.heap->Q (.ref it) s->wpAny (model P w) A (pyIter (.ref it)) Q E s
abbrev TI:=St->Hp->(It->Hp->Prop)->Prop
def PIE (X:Cx)(pins:List (Addr×Obj))(σ:St)(tg:Expr)(R:It->Hp->Prop)(itv:Value)(s2:Shared):Prop:=
 ∃ (it:Addr) (fp:List Addr) (tn:Nat->Heap->Prop) (J:It) (H':Hp),itv=.ref it/\Inv X pins σ H' s2/\Turn X.prog X.w X.K tg J fp it tn/\tn 0 s2.heap/\(∀ b∈fp,FpOk X pins H' b)/\R J H'
def PI (X:Cx)(tg iter:Expr)(wi:TI):Prop:=
 ∀ (pins:List (Addr×Obj)) (s:Shared) (σ:St) (H:Hp) (R:It->Hp->Prop),Inv X pins σ H s->wi σ H R ->
  wpAny (model X.prog X.w) X.A (eval iter X.env) (λv s1=>wpAny (model X.prog X.w) X.A (pyIter v) (PIE X pins σ tg R) X.xe s1) X.xe s
def yZ (ho:s.heap.get? it=some o)(hc:o.cls=.type n)(hd:o.data=.fields vs)(hn:["enumerate","zip","dict_itemiterator","dict_reverseitemiterator","odict_iterator","itertools.zip_longest","itertools.pairwise"].contains n=false)(hQ:Q () s):wpAny M A (DZ tg (.ref it) u) Q E s:=by
  unfold DZ;cases tg<;>first
    |exact AM hQ
    | (cases u <;> first
        |exact AM hQ
        | (refine Aw (wpAny_load ho ?_)
           rw [hc,hd];show wpAny M A (if (["enumerate","zip","dict_itemiterator","dict_reverseitemiterator","odict_iterator","itertools.zip_longest","itertools.pairwise"].contains n&&vs[0]?==some (rawInt _))=true then _ else _) Q E s;rw [if_neg (by intro h;rw [hn,Bool.false_and] at h;cases h)];exact AM hQ))
def Itl (K:Aa)(a:Addr):It:=
 ⟨λi H=>∃ xs x,SqL K H a xs/\xs[i]?=some x,λi H x H'=>H'=H/\∀ xs,SqL K H a xs->xs[i]?=some x,λi H=>∃ xs,SqL K H a xs/\xs.length<=i⟩
def Itt (K:Aa)(a:Addr):It:=
 ⟨λi H=>∃ xs x,SqT K H a xs/\xs[i]?=some x,λi H x H'=>H'=H/\∀ xs,SqT K H a xs->xs[i]?=some x,λi H=>∃ xs,SqT K H a xs/\xs.length<=i⟩
def Itr (lo:Int)(n:Nat):It:=⟨λi _=>i<n,λi H x H'=>H'=H/\x=.int (lo+i),λi _=>n<=i⟩
def sI {P:AE}{w:World}{K:Aa}{tg:Expr}(a it:Addr):Turn P w K tg (Itl K a) [it] it (λi h=>h.IsListIter it a i) where
 mem:=by simp
 obj:=λi h st b hb=>by
  have e:b=it:=by simpa using hb
  subst e;obtain ⟨o,e,c,d⟩:=st;exact ⟨o,e,λv z=>by rw [d] at z;cases z⟩
 keep:=λi h h' st k=>st.at λo e=>k it (by simp) o e
 item:=by
  intro X hP hw hK hc i pins s σ H E I hf st hg;subst hP hw hK;obtain ⟨xs,x,hq,hx⟩:=hg;obtain ⟨its,rv,p,hz⟩:=I.list hq;obtain ⟨u,hu,ru⟩:=rv.get hx;obtain ⟨f0,f1,f2,f3,f4,f5⟩:=hf it (by simp);refine wpAny_pyNext_list_item st p.isList (x:=u) (by simpa using hu) λh' st' sb=>?_;have I1:Inv X pins σ H { s with heap:=h' }:=I.turned (t':=s.toks) (λb o hb e=>(sb.2 b hb).trans e) f0 f1 f3 f4 f5;obtain ⟨o,e,c,d⟩:=id st';exact ⟨u,rfl,yZ (s:={ s with heap:=h' }) e c d (by decide) ⟨x,H,I1,ru,⟨rfl,λys hy=>by rw [I.list_inj hy hq];exact hx⟩,st',λb hb=>(hf b hb).1⟩⟩
 done:=by
  intro X hP hw hK hc i pins s σ H E I hf st hg;subst hP hw hK;obtain ⟨xs,hq,hx⟩:=hg;obtain ⟨its,rv,p,hz⟩:=I.list hq;obtain ⟨f0,f1,f2,f3,f4,f5⟩:=hf it (by simp);have hl:=rv.length;exact wpAny_pyNext_list_end (I.ok.hd hc) st p.isList (by simp;omega) λh' eb=>⟨rfl,I.turned (t':=s.toks) (λb o hb e=>eb b o hb e) f0 f1 f3 f4 f5⟩
 self:=λ_ _ _ _ _ st h=>wpAny_pyIter_listiter st h
def rE {P:AE}{w:World}{K:Aa}{tg:Expr}(it:Addr)(lo:Int)(n:Nat):Turn P w K tg (Itr lo n) [it] it (λi h=>IsRangeIter h it (lo+(i:Nat)*1) ((n:Int)-(i:Nat)) 1) where
 mem:=by simp
 obj:=λi h st b hb=>by
  have e:b=it:=by simpa using hb
  subst e;exact ⟨_,st,λv z=>by
   have z':Data.fields _=Data.cell v:=z;cases z'⟩
 keep:=λi h h' st k=>k it (by simp) _ st
 item:=by
  intro X hP hw hK hc i pins s σ H E I hf st hg;subst hP hw hK;obtain ⟨f0,f1,f2,f3,f4,f5⟩:=hf it (by simp);have W:=Walks.range (prog:=X.prog) (w:=X.w) (I.ok.hd hc) it lo 1 n;refine W.item i s _ _ hg st λv h' tk hv st' kk=>?_;obtain ⟨t,rfl⟩:=hv;have I1:Inv X pins σ H { s with heap:=h',toks:=tk }:=I.turned (λb o hb e=>kk b o (by simpa using hb) e) f0 f1 f3 f4 f5;refine ⟨_,rfl,yZ (s:={ s with heap:=h',toks:=tk }) (n:="range_iterator") st' rfl rfl (by decide) ⟨.int (lo+i),H,I1,⟨t,?_⟩,⟨rfl,rfl⟩,st',λb hb=>(hf b hb).1⟩⟩;rw [Int.mul_one]
 done:=by
  intro X hP hw hK hc i pins s σ H E I hf st hg;subst hP hw hK;obtain ⟨f0,f1,f2,f3,f4,f5⟩:=hf it (by simp);exact wpAny_pyNext_range_end (I.ok.hd hc) st (by have:n<=i:=hg;omega) λh' eb=>⟨rfl,I.turned (t':=s.toks) (λb o hb e=>eb b o hb e) f0 f1 f3 f4 f5⟩
 self:=λ_ _ _ _ _ st h=>wpAny_pyIter_rangeiter st h
section
variable {X:Cx}{tg:Expr}
def aGs (K:Aa)(tl:TE):TI:=λσ H R=>tl σ H λx H1=>∃ a,x=.ref a/\(∃ xs,SqL K H1 a xs)/\R (Itl K a) H1
def iTup (K:Aa)(tl:TE):TI:=λσ H R=>tl σ H λx H1=>∃ a,x=.ref a/\(∃ xs,SqT K H1 a xs)/\R (Itt K a) H1
def cK {l:Expr}{tl:TE}(hl:PE X l tl):PI X tg l (aGs X.K tl):=by
 intro pins s σ H R I h;refine thn (hl pins s σ H _ I h) λv s1 ⟨x,H1,I1,r1,q1⟩=>?_;obtain ⟨a,e,⟨xs,hq⟩,q⟩:=q1;subst e;cases r1;obtain ⟨its,rv,p,hz⟩:=I1.list hq;refine wpAny_pyIter_list p.isList ?_;refine ⟨s1.heap.objs.size,[s1.heap.objs.size],_,_,H1,rfl,I1.kept (t':=s1.toks) λb o e=>Av _ e,sI a _,⟨_,AK _ rfl,rfl,rfl⟩,λb hb=>?_,q⟩;have e:b=s1.heap.objs.size:=by simpa using hb
 subst e;exact I1.fpOk (Ak _) (I1.hok.fresh (Ak _))
def qK {σ:St}{lo hi:Int}{t u v:Tok}{tk:Nat}(I:Inv X pins σ H s)(h1:-(2^62)<=lo)(h2:lo<2^62)(h3:-(2^62)<=hi)(h4:hi<2^62)(q:R (Itr lo (hi-lo).toNat) H):wpAny (model X.prog X.w) X.A (pyIter (.ref s.heap.objs.size)) (PIE X pins σ tg R) E { s with heap:=s.heap.push { cls:=.type "range",data:=.fields #[.int lo t,.int hi u,.int 1 v] },toks:=tk }:=by
 refine wpAny_pyIter_range (IsRange.new ..) (small_one h1 h2 h3 h4) ?_;have I1:Inv X pins σ H { s with heap:=s.heap.push { cls:=.type "range",data:=.fields #[.int lo t,.int hi u,.int 1 v] },toks:=tk }:=I.kept λb o e=>Av _ e;refine ⟨(s.heap.push { cls:=.type "range",data:=.fields #[.int lo t,.int hi u,.int 1 v] }).objs.size,[(s.heap.push { cls:=.type "range",data:=.fields #[.int lo t,.int hi u,.int 1 v] }).objs.size],_,_,H,rfl,
  I1.kept (t':=tk) λb o e=>Av _ e,rE _ lo (hi-lo).toNat,?_,λb hb=>?_,q⟩
 ·have e1:lo+((0:Nat):Int)*1=lo:=by simp
  have e2:(((hi-lo).toNat:Nat):Int)-((0:Nat):Int)=Builtin.Range.rangeSize lo hi 1:=by rw [rangeSize_one];split<;>omega
  show IsRangeIter _ _ (lo+((0:Nat):Int)*1) ((((hi-lo).toNat:Nat):Int)-((0:Nat):Int)) 1;rw [e1,e2];exact AK _ rfl
 ·have e:b=(s.heap.push { cls:=.type "range",data:=.fields #[.int lo t,.int hi u,.int 1 v] }).objs.size:=by simpa using hb
  subst e;exact I1.fpOk (Ak _) (I1.hok.fresh (Ak _))
def aGr (ta:TA):TI:=λσ H R=>ta σ H λvs H1=>∃ j:Int,vs=[.int j]/\-(2^62)<=j/\j<2^62/\R (Itr 0 j.toNat) H1
def aGq (ta:TA):TI:=λσ H R=>ta σ H λvs H1=>∃ i j:Int,vs=[.int i,.int j]/\(-(2^62)<=i/\i<2^62/\-(2^62)<=j/\j<2^62)/\R (Itr i (j-i).toNat) H1
def fR {a:Expr}{ta:TA}{p pos:Pos}(hg:Gl X "range")(hm:X.mg "range" = none)(ha:PA X [a] ta)(hs:AY [a] X.env=[(false,eval a X.env)]:=by rfl):PI X tg (.Call (.Name "range" p) [a] [] pos) (aGr ta):=by
 intro pins s σ H R I h;refine Call_ (jV I hg hm boot_range (CG (thn (ha pos pins s σ H _ I h) λus s1 ⟨vs,H1,I1,r1,q1⟩=>?_) hs rfl));obtain ⟨j,e,q1,q2,q⟩:=q1;subst e;cases r1 with
 |cons r rr=>
  cases rr;obtain ⟨t,rfl⟩:=r;exact call_range_1 (qK I1 (by omega) (by omega) q1 q2 (by simpa using q))
def tV (hg:Gl X "range")(hm:X.mg "range" = none)(ha:PA X [a,b] ta)(hs:AY [a,b] X.env=[(false,eval a X.env),(false,eval b X.env)]:=by rfl)(hs2:AY [b] X.env=[(false,eval b X.env)]:=by rfl) :
  PI X tg (.Call (.Name "range" p) [a,b] [] pos) (aGq ta):=by
 intro pins s σ H R I h;refine Call_ (jV I hg hm boot_range (CG (thn (ha pos pins s σ H _ I h) λus s1 ⟨vs,H1,I1,r1,q1⟩=>?_) (by rw [hs,hs2]) (by rw [hs2];rfl)));obtain ⟨i,j,e,⟨q1,q2,q3,q4⟩,q⟩:=q1;subst e;cases r1 with
 |cons r rr=>
  cases rr with
  |cons r' rr=>
   cases rr;obtain ⟨t,rfl⟩:=r;obtain ⟨t',rfl⟩:=r';exact call_range_2 (qK I1 q1 q2 q3 q4 q)
def tFor (wi:TI)(g:TG)(tb:TS):TS:=λD σ H=>wi σ H λJ H1=>∃ W:Nat->Nat->St->Hp->Prop,(∃ m,W 0 m σ H1)/\∀ i m σ H,W i m σ H ->
 (J.stop i H/\D.nx σ H)\/(J.go i H/\∃ N:St->Hp->Prop,(∀ σ' H',N σ' H'->∃ m',m'<m/\W (i+1) m' σ' H')/\∀ x H',J.yld i H x H'->g x σ H' λσ2 H2=>tb { D with nx:=N,ct:=N,bk:=D.nx } σ2 H2)
def kU (fp:List Addr)(h:Heap):List (Addr×Obj):=fp.filterMap λb=>(h.get? b).map λo=>(b,o)
def dQ (hb:b∈fp)(e:h.get? b=some o):(b,o)∈kU fp h:=List.mem_filterMap.mpr ⟨b,hb,by rw [e];rfl⟩
def uN (hp:p∈kU fp h):p.1∈fp/\h.get? p.1=some p.2:=by
 obtain ⟨b,hb,e⟩:=List.mem_filterMap.mp hp;cases q:h.get? b with
 |none=>rw [q] at e;cases e
 |some o=>
  rw [q] at e;have e':(b,o)=p:=AF e;subst e';exact ⟨hb,q⟩
def Inv.pinned {σ:St}(I:Inv X pins σ H s)(hf:∀ b∈fp,FpOk X pins H b)(ho:∀ b∈fp,∃ o,s.heap.get? b=some o/\∀ v,o.data≠.cell v):Inv X (pins++kU fp s.heap) σ H s:=
 I.pins_of λp hp=>(Aj.mp hp).elim (λz=>I.pin p (Ac _ z)) λz=>by
  obtain ⟨hb,e⟩:=uN z;obtain ⟨f0,f1,f2,_⟩:=hf p.1 hb;obtain ⟨o,e',d⟩:=ho p.1 hb;rw [e] at e';cases e';exact ⟨e,f0,f1,f2,d⟩
def Inv.unpinned {σ:St}(I:Inv X (pins++pl) σ H s):Inv X pins σ H s:=I.pins_of λp hp=>I.pin p (Ac _ (Af _ hp))
def dW (hp:BX (model X.prog X.w) X.A X.env X.xe)(hc:X.calm=true)(hi:PI X tg iter wi)(hg:PG X tg g)(hb:PSs X body tb)(hs:∀ x,DO iter X.env x=pure x:=by intro _;rfl):PS X (.For tg iter body [] pos) (tFor wi g tb):=by
 intro pins s σ H D I h;refine wpAny_For (thn (hi pins s σ H _ I h) λv s1 h1=>thn h1 λitv s2 h2=>?_) hs;obtain ⟨it,fp,tn,J,H2,e,I2,T,st2,f2,W,⟨m0,w0⟩,turn⟩:=h2;subst e;have stat:∀ {H':Hp},(∀ b∈fp,H' b=none)->∀ b∈fp,FpOk X pins H' b:=λhn b hb=>⟨hn b hb,(f2 b hb).2⟩;refine codeAny_forLoop_any (λn s'=>∃ i σ' H',Inv X pins σ' H' s'/\tn i s'.heap/\(∀ b∈fp,H' b=none)/\W i n σ' H') ?_ m0 ⟨0,σ,H2,I2,st2,λb hb=>(f2 b hb).1,w0⟩
 rintro n s3 ⟨i,σ3,H3,I3,st3,fr3,w3⟩
 rcases turn i n σ3 H3 w3 with ⟨stop,qn⟩|⟨go,N,hN,step⟩
 ·refine Da hp (thn (T.done X rfl rfl rfl hc i pins s3 σ3 H3 X.xe I3 (stat fr3) st3 stop) λr s4 ⟨hr,I4⟩=>?_)
  subst hr;exact DY ⟨σ3,H3,I4,qn⟩
 ·refine Da hp (thn (T.item X rfl rfl rfl hc i pins s3 σ3 H3 X.xe I3 (stat fr3) st3 go) λr s4 ⟨u,hr,h4⟩=>?_)
  subst hr;refine Da hp (thn h4 λ_ s5 ⟨x,H5,I5,r5,y5,st5,fr5⟩=>?_);have I5':=I5.pinned (stat fr5) (T.obj _ _ st5);refine Da hp (thn (hg _ s5 σ3 H5 x u _ I5' r5 (step x H5 y5)) λ_ s6 ⟨σ6,H6,I6,q6⟩=>?_);refine Da hp (thn (hb _ s6 σ6 H6 _ I6 q6) λf s7 q7=>?_);have again:∀ {σ7:St} {H7:Hp},Inv X (pins++kU fp s5.heap) σ7 H7 s7->N σ7 H7->∃ m,m<n/\∃ i σ' H',Inv X pins σ' H' s7/\tn i s7.heap/\(∀ b∈fp,H' b=none)/\W i m σ' H':=λ{σ7 H7} I7 n7=>by
   obtain ⟨m',hm,w7⟩:=hN σ7 H7 n7;refine ⟨m',hm,i+1,σ7,H7,I7.unpinned,T.keep _ _ _ st5 λb hb o e=>(I7.pin (b,o) (Ac _ (Ac _ (dQ hb e)))).1,λb hb=>?_,w7⟩;obtain ⟨o,e,d⟩:=T.obj _ _ st5 b hb;exact (I7.pin (b,o) (Ac _ (Ac _ (dQ hb e)))).2.1
  cases f with
  |next=>obtain ⟨σ7,H7,I7,n7⟩:=q7;exact again I7 n7
  |cont=>obtain ⟨σ7,H7,I7,n7⟩:=q7;exact again I7 n7
  |brk=>obtain ⟨σ7,H7,I7,q7⟩:=q7;exact ⟨σ7,H7,I7.unpinned,q7⟩
  |ret v=>obtain ⟨x7,σ7,H7,I7,r7,q7⟩:=q7;exact ⟨x7,σ7,H7,I7.unpinned,r7,q7⟩
end
def jD {K:Aa}{a:Addr}{xs:List V}{g:TG}{tb:TS}{D:Ends}{σ:St}{H:Hp}(Pv:Nat->St->Hp->Prop)(h0:Pv 0 σ H)(hl:∀ i σ H,i<=xs.length->Pv i σ H->SqL K H a xs)
  (hs:∀ i x σ H,xs[i]?=some x->Pv i σ H->g x σ H λσ2 H2=>tb { D with nx:=Pv (i+1),ct:=Pv (i+1),bk:=D.nx } σ2 H2) (hd:∀ σ H,Pv xs.length σ H->D.nx σ H) :
  ∃ W:Nat->Nat->St->Hp->Prop,(∃ m,W 0 m σ H)/\∀ i m σ H,W i m σ H ->
   ((Itl K a).stop i H/\D.nx σ H)\/((Itl K a).go i H/\∃ N:St->Hp->Prop,(∀ σ' H',N σ' H'->∃ m',m'<m/\W (i+1) m' σ' H')/\∀ x H',(Itl K a).yld i H x H'->g x σ H' λσ2 H2=>tb { D with nx:=N,ct:=N,bk:=D.nx } σ2 H2):=by
 refine ⟨λi m σ H=>m=xs.length-i/\i<=xs.length/\Pv i σ H,⟨xs.length,by simp,Bv _,h0⟩,?_⟩
 rintro i m σ H ⟨rfl,hi,p⟩
 have q:=hl i σ H hi p
 by_cases hlt:i<xs.length
 ·refine .inr ⟨⟨xs,xs[i],q,by simp [hlt]⟩,Pv (i+1),λσ' H' p'=>⟨xs.length-(i+1),by omega,rfl,hlt,p'⟩,λx H' y=>?_⟩
  obtain ⟨e,y⟩:=y;subst e;exact hs i x σ _ (y xs q) p
 ·have e:i=xs.length:=by omega
  subst e;exact .inl ⟨⟨xs,q,Ak _⟩,hd σ H p⟩
def eY {lo:Int}{n:Nat}{g:TG}{tb:TS}{D:Ends}{σ:St}{H:Hp}(Pv:Nat->St->Hp->Prop)(h0:Pv 0 σ H)
  (hs:∀ i σ H,i<n->Pv i σ H->g (.int (lo+i)) σ H λσ2 H2=>tb { D with nx:=Pv (i+1),ct:=Pv (i+1),bk:=D.nx } σ2 H2) (hd:∀ σ H,Pv n σ H->D.nx σ H) :
  ∃ W:Nat->Nat->St->Hp->Prop,(∃ m,W 0 m σ H)/\∀ i m σ H,W i m σ H ->
   ((Itr lo n).stop i H/\D.nx σ H)\/((Itr lo n).go i H/\∃ N:St->Hp->Prop,(∀ σ' H',N σ' H'->∃ m',m'<m/\W (i+1) m' σ' H')/\∀ x H',(Itr lo n).yld i H x H'->g x σ H' λσ2 H2=>tb { D with nx:=N,ct:=N,bk:=D.nx } σ2 H2):=by
 refine ⟨λi m σ H=>m=n-i/\i<=n/\Pv i σ H,⟨n,by simp,Bv _,h0⟩,?_⟩
 rintro i m σ H ⟨rfl,hi,p⟩
 by_cases hlt:i<n
 ·refine .inr ⟨hlt,Pv (i+1),λσ' H' p'=>⟨n-(i+1),by omega,rfl,hlt,p'⟩,λx H' y=>?_⟩
  obtain ⟨e,y⟩:=y;subst e y;exact hs i σ _ hlt p
 ·have e:i=n:=by omega
  subst e;exact .inl ⟨Ak _,hd σ H p⟩
def wJ {σ:St}(Pv:St->Hp->Prop)(μ:St->Hp->Nat)(h0:Pv σ H)(hs:∀ σ H,Pv σ H->c σ H λb H1=>if b=true then tb { D with nx:=λσ' H'=>Pv σ' H'/\μ σ' H'<μ σ H,ct:=λσ' H'=>Pv σ' H'/\μ σ' H'<μ σ H,bk:=D.nx } σ H1 else D.nx σ H1)(mono:∀ σ H Q Q',(∀ b H1,Q b H1->Q' b H1)->c σ H Q->c σ H Q'):zR c tb D σ H:=by
 refine ⟨λm σ H=>m=μ σ H/\Pv σ H,⟨_,rfl,h0⟩,?_⟩
 rintro m σ H ⟨rfl,p⟩
 refine mono σ H _ _ (λb H1 q=>?_) (hs σ H p);cases b with
 |true=>exact ⟨_,λσ' H' ⟨p',l⟩=>⟨_,l,rfl,p'⟩,q⟩
 |false=>exact q
abbrev R2:=V->V->Hp->VK->Prop
def OpR (X:Cx)(f:Value->Value->Sem Value)(r:R2):Prop:=
 ∀ (pins:List (Addr×Obj)) (s:Shared) (σ:St) (H:Hp) (x y:V) (v u:Value) (Q:VK),Inv X pins σ H s->RelV x v->RelV y u->r x y H Q ->
  wpAny (model X.prog X.w) X.A (f v u) (EP X pins σ Q) X.xe s
def UnR (X:Cx)(f:Value->Sem Value)(r:V->Hp->VK->Prop):Prop:=
 ∀ (pins:List (Addr×Obj)) (s:Shared) (σ:St) (H:Hp) (x:V) (v:Value) (Q:VK),Inv X pins σ H s->RelV x v->r x H Q ->
  wpAny (model X.prog X.w) X.A (f v) (EP X pins σ Q) X.xe s
def eT (X:Cx)(f:Value)(r:List V->Hp->VK->Prop):Prop:=
 ∀ (pins:List (Addr×Obj)) (s:Shared) (σ:St) (H:Hp) (xs:List V) (us:List Value) (Q:VK),Inv X pins σ H s->Vals xs us->r xs H Q ->
  wpAny (model X.prog X.w) X.A (call f us) (EP X pins σ Q) X.xe s
def TruR (X:Cx)(r:V->Hp->(Bool->Hp->Prop)->Prop):Prop:=
 ∀ (pins:List (Addr×Obj)) (s:Shared) (σ:St) (H:Hp) (x:V) (v:Value) (Q:Bool->Hp->Prop),Inv X pins σ H s->RelV x v->r x H Q ->
  wpAny (model X.prog X.w) X.A (truthy v) (TP X pins σ Q) X.xe s
def tOp (r:R2)(ta tb:TE):TE:=λσ H Q=>ta σ H λx H1=>tb σ H1 λy H2=>r x y H2 Q
def tUn (r:V->Hp->VK->Prop)(ta:TE):TE:=λσ H Q=>ta σ H λx H1=>r x H1 Q
def rI (C:Int->Int->Prop)(g:Int->Int->V):R2:=λx y H Q=>∃ i j,x=.int i/\y=.int j/\C i j/\Q (g i j) H
def rI0 (g:Int->Int->V):R2:=λx y H Q=>∃ i j,x=.int i/\y=.int j/\Q (g i j) H
def rU (g:Int->V):V->Hp->VK->Prop:=λx H Q=>∃ i,x=.int i/\Q (g i) H
section
variable {X:Cx}{a b c:Expr}{ta tb tc:TE}{pos:Pos}
def binT (ha:PE X a ta)(hb:PE X b tb){pins:List (Addr×Obj)}{s:Shared}{σ:St}{H:Hp}{R:V->V->Hp->Prop}(I:Inv X pins σ H s)
  (h:ta σ H λx H1=>tb σ H1 λy H2=>R x y H2) {Q:Value->Shared->Prop} {f:Value->Value->Sem Value}
  (hf:∀ v u s2 x y H2,Inv X pins σ H2 s2->RelV x v->RelV y u->R x y H2->wpAny (model X.prog X.w) X.A (f v u) Q X.xe s2) :
  wpAny (model X.prog X.w) X.A (eval a X.env) (λv s₁=>wpAny (model X.prog X.w) X.A (eval b X.env) (λu s₂=>wpAny (model X.prog X.w) X.A (f v u) Q X.xe s₂) X.xe s₁) X.xe s:=by
 refine thn (ha pins s σ H _ I h) λv s1 ⟨x,H1,I1,r1,q1⟩=>?_;refine thn (hb pins s1 σ H1 _ I1 q1) λu s2 ⟨y,H2,I2,r2,q2⟩=>?_;exact hf v u s2 x y H2 I2 r1 r2 q2
def aM {op:Operator}{r:R2}(ho:OpR X (Dh op) r)(ha:PE X a ta)(hb:PE X b tb):PE X (.BinOp a op b pos) (tOp r ta tb):=by
 intro pins s σ H Q I h;exact wpAny_BinOp (binT ha hb I h λv u s2 x y H2 I2 rx ry q=>ho pins s2 σ H2 x y v u Q I2 rx ry q)
def aEi {r:V->Hp->VK->Prop}(ho:UnR X (unaryOp op) r)(ha:PE X a ta):PE X (.UnaryOp op a pos) (tUn r ta):=by
 intro pins s σ H Q I h;exact UnaryOp_ (thn (ha pins s σ H _ I h) λv s1 ⟨x,H1,I1,r1,q1⟩=>ho pins s1 σ H1 x v Q I1 r1 q1)
def opI {C:Int->Int->Prop}{g:Int->Int->Int}(rule:∀ (i j:Int) (t u:Tok) (s:Shared) (Q:Value->Shared->Prop) (E:Value->Shared->Prop),C i j->Q (.int (g i j) s.toks) { s with toks:=s.toks+1 }->wpAny (model X.prog X.w) X.A (f (.int i t) (.int j u)) Q E s) :
  OpR X f (rI C λi j=>.int (g i j)):=by
 intro pins s σ H x y v u Q I rx ry h;obtain ⟨i,j,rfl,rfl,hc,q⟩:=h;obtain ⟨t,rfl⟩:=rx;obtain ⟨t',rfl⟩:=ry;exact rule i j t t' s _ _ hc ⟨.int (g i j),H,I.tok _,⟨_,rfl⟩,q⟩
def opI0 {g:Int->Int->Int}(rule:∀ (i j:Int) (t u:Tok) (s:Shared) (Q:Value->Shared->Prop) (E:Value->Shared->Prop),Q (.int (g i j) s.toks) { s with toks:=s.toks+1 }->wpAny (model X.prog X.w) X.A (f (.int i t) (.int j u)) Q E s) :
  OpR X f (rI0 λi j=>.int (g i j)):=by
 intro pins s σ H x y v u Q I rx ry h;obtain ⟨i,j,rfl,rfl,q⟩:=h;obtain ⟨t,rfl⟩:=rx;obtain ⟨t',rfl⟩:=ry;exact rule i j t t' s _ _ ⟨.int (g i j),H,I.tok _,⟨_,rfl⟩,q⟩
def opB0 {g:Int->Int->Bool}(rule:∀ (i j:Int) (t u:Tok) (s:Shared) (Q:Value->Shared->Prop) (E:Value->Shared->Prop),Q (.bool (g i j)) s->wpAny (model X.prog X.w) X.A (f (.int i t) (.int j u)) Q E s) :
  OpR X f (rI0 λi j=>.bl (g i j)):=by
 intro pins s σ H x y v u Q I rx ry h;obtain ⟨i,j,rfl,rfl,q⟩:=h;obtain ⟨t,rfl⟩:=rx;obtain ⟨t',rfl⟩:=ry;exact rule i j t t' s _ _ ⟨.bl (g i j),H,I,rfl,q⟩
def CDiv (i j:Int):Prop:=0<j/\j<1073741824
def CDivN (i j:Int):Prop:=j≠0/\j.natAbs<1073741824
def CPow (i j:Int):Prop:=0<=j/\j<=1000000/\i.natAbs<2^64
def CMul (i j:Int):Prop:=(-(2^64)<i/\i<2^64)\/(-(2^64)<j/\j<2^64)
def cZ:OpR X (Dh .Add) (rI0 λi j=>.int (i+j)):=opI0 λ_ _ _ _ _ _ _ q=>add_int q
def qR:OpR X (Dh .Sub) (rI0 λi j=>.int (i-j)):=opI0 λ_ _ _ _ _ _ _ q=>sub_int q
def bK:OpR X (Dh .Mod) (rI (λ_ j=>0<j) λi j=>.int (i%j)):=opI λi j _ _ _ _ _ hc q=>by
 have h1:(0:Int)<j:=hc;exact mod_int' (by omega) (by rw [Int.fmod_eq_emod_of_nonneg i (by omega)];exact q)
def unI {g:Int->Int}(rule:∀ (i:Int) (t:Tok) (s:Shared) (Q:Value->Shared->Prop) (E:Value->Shared->Prop),Q (.int (g i) s.toks) { s with toks:=s.toks+1 }->wpAny (model X.prog X.w) X.A (f (.int i t)) Q E s) :
  UnR X f (rU λi=>.int (g i)):=by
 intro pins s σ H x v Q I rx h;obtain ⟨i,rfl,q⟩:=h;obtain ⟨t,rfl⟩:=rx;exact rule i t s _ _ ⟨.int (g i),H,I.tok _,⟨_,rfl⟩,q⟩
def zP:UnR X (unaryOp .USub) (rU λi=>.int (-i)):=unI λ_ _ _ _ _ q=>neg_int q
end
def scal:V->V->Bool
 |.non,.non=>true|.non,.int _=>true|.int _,.non=>true|.non,.bl _=>true|.bl _,.non=>true|.non,.str _=>true|.str _,.non=>true
 |.int _,.int _=>true|.bl _,.bl _=>true|.str _,.str _=>true|.byt _,.byt _=>true
 |.int _,.str _=>true|.str _,.int _=>true|.bl _,.str _=>true|.str _,.bl _=>true
 |_,_=>false
def rEq:R2:=λx y H Q=>scal x y=true/\Q (.bl (decide (x=y))) H
def rNe:R2:=λx y H Q=>scal x y=true/\Q (.bl (!decide (x=y))) H
def vT {i j:Int}:decide (V.int i=V.int j)=(i==j):=by
 rw [CO];simp
def aAn {i j:Bool}:decide (V.bl i=V.bl j)=(i==j):=by
 rw [CO];simp
def vS :decide (V.str i=V.str j)=(i==j):=by
 rw [CO];simp
def vU :decide (V.byt i=V.byt j)=(i.toList==j.toList):=by
 rw [CO];cases i;cases j;simp
section
variable {X:Cx}{a b c:Expr}{ta tb tc:TE}{pos:Pos}
def bO {σ:St}{k k':Bool}(I:Inv X pins σ H s)(q:Q (.bl k) H)(e:k=k'):EP X pins σ Q (.bool k') s:=by
 subst e;exact ⟨.bl k,H,I,rfl,q⟩
def dN:OpR X (Bi .Eq) rEq:=by
 intro pins s σ H x y v u Q I rx ry h;obtain ⟨hs,q⟩:=h;cases x with
 |non=>
  cases rx;cases y with
  |non=>cases ry;exact PySem.EqNone.eq_none_none (bO I q (by simp))
  |bl j=>cases ry;exact PySem.EqNone.eq_none_bool (bO I q (by simp))
  |int j=>obtain ⟨t',rfl⟩:=ry;exact PySem.EqNone.eq_none_int (bO I q (by simp))
  |str j=>obtain ⟨t',rfl⟩:=ry;exact PySem.EqNone.eq_none_str (bO I q (by simp))
  |_=>exact absurd (show false=true from hs) AH
 |bl i=>
  cases rx;cases y with
  |non=>cases ry;exact PySem.EqNone.eq_bool_none (bO I q (by simp))
  |bl j=>cases ry;exact eq_bool (bO I q aAn)
  |str j=>obtain ⟨t',rfl⟩:=ry;exact PySem.EqMixed.eq_bool_str (bO I q (by simp))
  |_=>exact absurd (show false=true from hs) AH
 |int i=>
  obtain ⟨t,rfl⟩:=rx;cases y with
  |non=>cases ry;exact PySem.EqNone.eq_int_none (bO I q (by simp))
  |int j=>obtain ⟨t',rfl⟩:=ry;exact eq_int (bO I q vT)
  |str j=>obtain ⟨t',rfl⟩:=ry;exact PySem.EqMixed.eq_int_str (bO I q (by simp))
  |_=>exact absurd (show false=true from hs) AH
 |str i=>
  obtain ⟨t,rfl⟩:=rx;cases y with
  |non=>cases ry;exact PySem.EqNone.eq_str_none (bO I q (by simp))
  |bl j=>cases ry;exact PySem.EqMixed.eq_str_bool (bO I q (by simp))
  |int j=>obtain ⟨t',rfl⟩:=ry;exact PySem.EqMixed.eq_str_int (bO I q (by simp))
  |str j=>obtain ⟨t',rfl⟩:=ry;exact eq_str (bO I q vS)
  |_=>exact absurd (show false=true from hs) AH
 |byt i=>
  obtain ⟨t,rfl⟩:=rx;cases y with
  |byt j=>obtain ⟨t',rfl⟩:=ry;exact PySem.W.eq_bytes (bO I q vU)
  |_=>exact absurd (show false=true from hs) AH
 |_=>cases y<;>exact absurd (show false=true from hs) AH
def rN:OpR X (Bi .NotEq) rNe:=by
 intro pins s σ H x y v u Q I rx ry h;obtain ⟨hs,q⟩:=h;cases x with
 |non=>
  cases rx;cases y with
  |non=>cases ry;exact PySem.EqNone.ne_none_none (bO I q (by simp))
  |bl j=>cases ry;exact PySem.EqNone.ne_none_bool (bO I q (by simp))
  |int j=>obtain ⟨t',rfl⟩:=ry;exact PySem.EqNone.ne_none_int (bO I q (by simp))
  |str j=>obtain ⟨t',rfl⟩:=ry;exact PySem.EqNone.ne_none_str (bO I q (by simp))
  |_=>exact absurd (show false=true from hs) AH
 |bl i=>
  cases rx;cases y with
  |non=>cases ry;exact PySem.EqNone.ne_bool_none (bO I q (by simp))
  |bl j=>cases ry;exact ne_bool (bO I q (congrArg not aAn))
  |str j=>obtain ⟨t',rfl⟩:=ry;exact PySem.EqMixed.ne_bool_str (bO I q (by simp))
  |_=>exact absurd (show false=true from hs) AH
 |int i=>
  obtain ⟨t,rfl⟩:=rx;cases y with
  |non=>cases ry;exact PySem.EqNone.ne_int_none (bO I q (by simp))
  |int j=>obtain ⟨t',rfl⟩:=ry;exact ne_int (bO I q (congrArg not vT))
  |str j=>obtain ⟨t',rfl⟩:=ry;exact PySem.EqMixed.ne_int_str (bO I q (by simp))
  |_=>exact absurd (show false=true from hs) AH
 |str i=>
  obtain ⟨t,rfl⟩:=rx;cases y with
  |non=>cases ry;exact PySem.EqNone.ne_str_none (bO I q (by simp))
  |bl j=>cases ry;exact PySem.EqMixed.ne_str_bool (bO I q (by simp))
  |int j=>obtain ⟨t',rfl⟩:=ry;exact PySem.EqMixed.ne_str_int (bO I q (by simp))
  |str j=>obtain ⟨t',rfl⟩:=ry;exact ne_str (bO I q (congrArg not vS))
  |_=>exact absurd (show false=true from hs) AH
 |byt i=>
  obtain ⟨t,rfl⟩:=rx;cases y with
  |byt j=>obtain ⟨t',rfl⟩:=ry;exact PySem.W.ne_bytes (bO I q (congrArg not vU))
  |_=>exact absurd (show false=true from hs) AH
 |_=>cases y<;>exact absurd (show false=true from hs) AH
def jO:OpR X (Bi .Lt) (rI0 λi j=>.bl (decide (i<j))):=opB0 λ_ _ _ _ _ _ _ q=>lt_int q
def rO:OpR X (Bi .LtE) (rI0 λi j=>.bl (decide (i<=j))):=opB0 λ_ _ _ _ _ _ _ q=>le_int q
def aEp:OpR X (Bi .Gt) (rI0 λi j=>.bl (decide (j<i))):=opB0 λ_ _ _ _ _ _ _ q=>gt_int q
def aEq:OpR X (Bi .GtE) (rI0 λi j=>.bl (decide (j<=i))):=opB0 λ_ _ _ _ _ _ _ q=>ge_int q
def uA:OpR X (Bi .In) (λx y H Q=>∃ i j,x=.str i/\y=.str j/\Q (.bl (!(Builtin.Str.occurrences j i 0 j.length 1).isEmpty)) H):=by
 intro pins s σ H x y v u Q I rx ry h;obtain ⟨i,j,rfl,rfl,q⟩:=h;obtain ⟨t,rfl⟩:=rx;obtain ⟨t',rfl⟩:=ry;exact in_str (bO I q rfl)
def aEo:OpR X (Bi .Is) (λx y H Q=>y=.non/\Q (.bl (decide (x=.non))) H):=by
 intro pins s σ H x y v u Q I rx ry h;obtain ⟨rfl,q⟩:=h;cases ry;refine is_none_gen (bO I q ?_);cases x<;>first
  |(cases rx;rfl)
  |(obtain ⟨t,rfl⟩:=rx;rfl)
def isObj:HO->Bool
 |.lst _=>true
 |.ins _ _ _=>true
 |_=>false
def aU (b:Expr)(h:op≠.In:=by decide)(h2:op≠.NotIn:=by decide):DW op b=false:=by
 have e1:(op==CmpOp.In)=false:=by cases op<;>first|rfl|exact absurd rfl h
 have e2:(op==CmpOp.NotIn)=false:=by cases op<;>first|rfl|exact absurd rfl h2
 cases b<;>simp [DW,e1,e2]
def dM {op:CmpOp}{r:R2}(ho:OpR X (Bi op) r)(ha:PE X a ta)(hb:PE X b tb)(hm:DW op b=false):PE X (.Compare a [op] [b] pos) (tOp r ta tb):=by
 intro pins s σ H Q I h;exact wpAny_Compare1 (binT ha hb I h λv u s2 x y H2 I2 rx ry q=>ho pins s2 σ H2 x y v u Q I2 rx ry q) hm
def aDh (t:TE):TT:=λσ H Q=>t σ H λx H'=>∃ k,x=.bl k/\Q k H'
def aP {r:R2}(ho:OpR X (Bi op) r)(ha:PE X a ta)(hb:PE X b tb)(hm:DW op b=false):PT X (.Compare a [op] [b] pos) (aDh (tOp r ta tb)):=by
 intro pins s σ H Q I h;refine wpAny_isTrue_Compare1 (thn (ha pins s σ H _ I h) λv s1 ⟨x,H1,I1,r1,q1⟩=>thn (hb pins s1 σ H1 _ I1 q1) λu s2 ⟨y,H2,I2,r2,q2⟩=>
  thn (ho pins s2 σ H2 x y v u _ I2 r1 r2 q2) λc s3 ⟨z,H3,I3,r3,k,e,q3⟩=>?_) hm
 subst e;cases r3;exact BM ⟨H3,I3,q3⟩
def zT (r r':R2)(ta tb tc:TE):TE:=λσ H Q=>ta σ H λx H1=>tb σ H1 λy H2=>r x y H2 λz H3=>∃ k,z=.bl k /\
 (if k=true then tc σ H3 λw' H4=>r' y w' H4 Q else Q (.bl false) H3)
def xU {r r':R2}(ho:OpR X (Bi op) r)(ho':OpR X (Bi op') r')(ha:PE X a ta)(hb:PE X b tb)(hc:PE X c tc)(hm:lastMarks [op,op'] [b,c]=false:=by with_unfolding_all rfl):PE X (.Compare a [op,op'] [b,c] pos) (zT r r' ta tb tc):=by
 intro pins s σ H Q I h;refine Compare_chain (thn (ha pins s σ H _ I h) λv s1 ⟨x,H1,I1,r1,q1⟩=>chain_link (thn (hb pins s1 σ H1 _ I1 q1) λu s2 ⟨y,H2,I2,r2,q2⟩=>
  thn (ho pins s2 σ H2 x y v u _ I2 r1 r2 q2) λd s3 ⟨z,H3,I3,r3,k,e,q3⟩=>?_)) hm
 subst e;cases r3;refine BM ?_;cases k with
 |false=>exact ite_ff ⟨.bl false,H3,I3,rfl,q3⟩
 |true=>exact ite_tt (chain_last (thn (hc pins s3 σ H3 _ I3 q3) λw' s4 ⟨z',H4,I4,r4,q4⟩=>ho' pins s4 σ H4 y z' u w' Q I4 r2 r4 q4))
def qM {r r':R2}(ho:OpR X (Bi op) r)(ho':OpR X (Bi op') r')(ha:PE X a ta)(hb:PE X b tb)(hc:PE X c tc)(hm:lastMarks [op,op'] [b,c]=false:=by with_unfolding_all rfl):PT X (.Compare a [op,op'] [b,c] pos) (aDh (zT r r' ta tb tc)):=by
 intro pins s σ H Q I h;refine isTrue_chain (thn (ha pins s σ H _ I h) λv s1 ⟨x,H1,I1,r1,q1⟩=>test_link (thn (hb pins s1 σ H1 _ I1 q1) λu s2 ⟨y,H2,I2,r2,q2⟩=>
  thn (ho pins s2 σ H2 x y v u _ I2 r1 r2 q2) λd s3 ⟨z,H3,I3,r3,k,e,q3⟩=>?_)) hm
 subst e;cases r3;refine BM ?_;cases k with
 |false=>
  obtain ⟨k',e',q'⟩:=q3;cases e';exact ite_ff ⟨H3,I3,q'⟩
 |true=>
  refine ite_tt (test_last (thn (hc pins s3 σ H3 _ I3 q3) λw' s4 ⟨z',H4,I4,r4,q4⟩=>thn (ho' pins s4 σ H4 y z' u w' _ I4 r2 r4 q4) λd' s5 ⟨z2,H5,I5,r5,k2,e2,q5⟩=>?_));subst e2;cases r5;exact BM ⟨H5,I5,q5⟩
def TruV (K:Aa)(x:V)(H:Hp)(k:Bool):Prop:=
 match x with
 |.non=>k=false
 |.bl b=>k=b
 |.int i=>k=(i != 0)
 |.str y=>y.length<=AB/\k=((y.length:Int) != 0)
 |.byt y=>y.size<=AB/\k=((y.size:Int) != 0)
 |.ref p=>(∃ xs,SqL K H p xs/\k=!xs.isEmpty)\/(∃ xs,SqT K H p xs/\k=!xs.isEmpty)\/∃ kvs,H p=some (.dK kvs)/\k=!kvs.isEmpty
 |_=>False
def nS:(AB:Nat)<2^63:=by rw [sizeLine_eq];decide
def eW:OpR X (Dh .Add) (λx y H Q=>∃ i j,x=.str i/\y=.str j/\i.length+j.length<=AB/\Q (.str (i++j)) H):=by
 intro pins s σ H x y v u Q I rx ry h;obtain ⟨i,j,rfl,rfl,hz,q⟩:=h;obtain ⟨t,rfl⟩:=rx;obtain ⟨t',rfl⟩:=ry;exact add_str (λt' tk=>⟨.str (i++j),H,I.tok _,⟨_,rfl⟩,q⟩) hz
def PlainIxT (b:Expr):Prop:=∀ o i,subscripted b false o i=operate [o,i] (getItem o i)
def vals1 (r:Vals [x] us):∃ u,us=[u]/\RelV x u:=by
 cases r with
 |cons r1 r2=>cases r2;exact ⟨_,rfl,r1⟩
def vals2 (r:Vals [x,y] us):∃ u w',us=[u,w']/\RelV x u/\RelV y w':=by
 cases r with
 |cons r1 r2=>
  cases r2 with
  |cons r3 r4=>cases r4;exact ⟨_,_,rfl,r1,r3⟩
def mV:eT X (.builtin "abs") (λxs H Q=>∃ i,xs=[.int i]/\Q (.int (if i<0 then -i else i)) H):=by
 intro pins s σ H xs us Q I r h;obtain ⟨i,rfl,q⟩:=h;obtain ⟨u,rfl,t,rfl⟩:=vals1 r;exact call_abs_int λu tk=>⟨.int (if i<0 then -i else i),H,I.tok _,⟨_,rfl⟩,q⟩
def wD (hc:X.calm=true):eT X (.builtin "max") (λxs H Q=>∃ i j,xs=[.int i,.int j]/\Q (.int (if j > i then j else i)) H):=by
 intro pins s σ H xs us Q I r h;obtain ⟨i,j,rfl,q⟩:=h;obtain ⟨u,w',rfl,⟨t,rfl⟩,⟨t',rfl⟩⟩:=vals2 r;refine max_two_ints (I.ok.hd hc) λh' tk k=>⟨_,H,I.kept k,?_,q⟩
 by_cases hj:j > i
 ·rw [if_pos hj,if_pos hj];exact ⟨_,rfl⟩
 ·rw [if_neg hj,if_neg hj];exact ⟨_,rfl⟩
def hG (hc:X.calm=true):eT X (.builtin "min") (λxs H Q=>∃ i j,xs=[.int i,.int j]/\Q (.int (if j<i then j else i)) H):=by
 intro pins s σ H xs us Q I r h;obtain ⟨i,j,rfl,q⟩:=h;obtain ⟨u,w',rfl,⟨t,rfl⟩,⟨t',rfl⟩⟩:=vals2 r;refine min_two_ints (I.ok.hd hc) λh' tk k=>⟨_,H,I.kept k,?_,q⟩
 by_cases hj:j<i
 ·rw [if_pos hj,if_pos hj];exact ⟨_,rfl⟩
 ·rw [if_neg hj,if_neg hj];exact ⟨_,rfl⟩
def kK:eT X (.type "int") (λxs H Q=>(∃ i,xs=[.int i]/\Q (.int i) H)\/∃ k,xs=[.bl k]/\Q (.int (if k then 1 else 0)) H):=by
 intro pins s σ H xs us Q I r h
 rcases h with ⟨i,rfl,q⟩|⟨k,rfl,q⟩
 ·obtain ⟨u,rfl,t,rfl⟩:=vals1 r
  exact call_int_int ⟨.int i,H,I,⟨_,rfl⟩,q⟩
 ·obtain ⟨u,rfl,r1⟩:=vals1 r
  cases r1;exact call_int_bool ⟨.int (if k then 1 else 0),H,I.tok _,⟨_,rfl⟩,q⟩
def LenV (K:Aa)(x:V)(H:Hp)(n:Nat):Prop:=
 match x with
 |.str y=>y.length<=AB/\n=y.length
 |.byt y=>y.size<=AB/\n=y.size
 |.ref p=>(∃ xs,SqL K H p xs/\n=xs.length)\/∃ xs,SqT K H p xs/\n=xs.length
 |_=>False
end
structure ObjM (h:Heap)(x dx C:Addr)(mA:Str->Option Value):Prop where
 obj:h.get? x=some (Cz C dx)
 ns:h.Ns1 dx mA
 ne:dx≠x
def uX {h:Heap}{dx:Addr}{mA:Str->Option Value}(n:h.Ns1 dx mA):∃ od,h.get? dx=some od/\∀ name,PySem.W.lookIn name od=some (mA name):=by
 obtain ⟨o,es,ep,ho,hd,hk,_,hm⟩:=n;refine ⟨o,ho,λname=>?_⟩;have e:=hm name;unfold nsFind findBy at e;rw [<- Array.find?_toList] at e;unfold PySem.W.lookIn;rw [hd];dsimp only;split
 ·rename_i y q
  rw [q] at e;exact congrArg some e
 ·rename_i q
  rw [q] at e;have a:es.toList.any (·.refKey)=false:=by
   rw [List.any_eq_false];intro y hy;obtain ⟨z,t,hkey⟩:=hk y (Array.mem_toList_iff.mp hy);simp [DictEntry.refKey,hkey]
  have a':¬ es.toList.any (·.refKey)=true:=by rw [a];exact AH
  rw [if_neg a'];exact congrArg some e
def ObjM.look (I:ObjM h x dx C mA):∃ od,PySem.W.InstAt h x (Cz C dx) C (some od)/\∀ name,PySem.W.lookIn name od=some (mA name):=
 let ⟨od,ho,hl⟩:=uX I.ns
 ⟨od,⟨I.obj,rfl,rfl,ho⟩,hl⟩
section
variable {prog:AE}{w:World}{A:Around}{E:Value->Shared->Prop}{s:Shared}{K:Aa}{x dx C f:Addr}{mA:Str->Option Value}{name:Str}{v:Value}
def get_map {expr:Bool}(X:K.In s.heap)(I:ObjM s.heap x dx C mA)(hg:PySem.W.plainGet K C name=true)(hh:PySem.W.hasDictIn K C=true)(ha:Bo K (.ref C) name=some none)(hv:mA name=some v)(hv':PySem.W.handedIn v=true)(h:Q v { s with toks:=s.toks+1 }) :
  wpAny (model prog w) A (getAttr (.ref x) name expr) Q E s:=by
 obtain ⟨od,J,hl⟩:=I.look;exact PySem.W.get_value X J (PySem.W.plainGet_of hg).1 (PySem.W.findObj_own hh ha rfl (by rw [hl,hv])) hv' h
def zA (X:K.In s.heap)(I:ObjM s.heap x dx C mA)(hg:PySem.W.plainGet K C name=true)(hf:Bo K (.ref C) name=some (some (.ref f)))(ht:PySem.W.isFn K (.ref f)=true)(hv:mA name=none)(h:Q (.ref f,[.ref x]) s) :
  wpAny (model prog w) A (getMethod (.ref x) name pl) Q E s:=by
 obtain ⟨od,J,hl⟩:=I.look;exact PySem.W.method_fn X J (PySem.W.plainGet_of hg).1 (PySem.W.plainGet_of hg).2 hf (beq_iff_eq.mp ht) (by show (PySem.W.lookIn name od).map (·.isSome)=some false;rw [hl,hv];rfl) h
def aA9 {ns:List Str}(X:K.In s.heap)(I:ObjM s.heap x dx C mA)(hs:Bo K (.ref C) "__setattr__" = some (some (.builtin "object.__setattr__")))(hp:PySem.W.plainOver K C=true)(ht:PySem.W.takerIn K C name=some none)(hh:PySem.W.hasDictIn K C=true)(hw:PySem.Within mA ns)(hsz:ns.length<=AB)(h:∀ h',ObjM h' x dx C (λy=>if y=name then some v else mA y)->Heap.SameBut dx s.heap h'->Q () { s with heap:=h',toks:=s.toks+2 }) :
  wpAny (model prog w) A (setAttr (.ref x) name v) Q E s:=by
 obtain ⟨od,J,hl⟩:=I.look;refine PySem.W.set_plain X J hs (PySem.W.osa_open (s:={ s with toks:=s.toks+1 }) (r:=none) X J hp ht λb=>?_);obtain ⟨cd,hc,hd'⟩:=PySem.W.any_some hh;have hx:s.heap.get? x=some ⟨.ref C,some dx,.plain,#[]⟩:=I.obj;refine Aw (AM (Aw (Aw (wpAny_loadPart hx (Aw (PySem.W.Looks.here (s:={ s with toks:=s.toks+1 }) (PySem.W.looks_clsIn X hc) ?_))))));rw [hd'];refine AM (a:=some dx) (Aw (AM (Aw ?_)));refine wpAny_nsSet1 (s:={ s with toks:=s.toks+1 }) I.ns λh' hn2 hs2=>?_;obtain ⟨oD,esD,epD,hoD,hdD,hcD⟩:=hn2.count (PySem.Within.cons name v hw);refine Aw (wpAny_lookBehind hoD (by rw [hdD];exact pastItsLine_dict (AX hcD (by rw [Br];omega))) ?_);exact AM (h _ ⟨(hs2.2 _ (Au I.ne)).trans I.obj,hn2,I.ne⟩ hs2)
def yR (X:K.In s.heap)(hm:PySem.W.makesIn K C=true)(hi:Bo K (.ref C) "__init__" = some (some (.ref f)))(hf:PySem.W.typeIn K (.ref f)=some (.type "function"))(h:DP (model prog w) (A.under (.builtin "type.__call__" ⟨.ref C::vs,kw⟩)) (.call (.ref f) ⟨.ref (s.heap.objs.size+1)::vs,kw⟩) (PySem.W.InitBack (s.heap.objs.size+1) R)
   { s with heap:=(s.heap.push BQ).push (Cz C s.heap.objs.size) }) :
  DP (model prog w) A (.call (.ref C) ⟨vs,kw⟩) R s:=by
 obtain ⟨hh,g,d,t,os⟩:=s;exact PySem.W.make_core (PySem.W.makes_of X hm) (PySem.W.looks_findIn X hi) (λself=>PySem.W.bind_fn X self hf) (.inl rfl) h
end
def putF (f:Str)(v:V):List (Str×V)->List (Str×V)
  |[]=>[(f,v)]
  |(g,x)::r=>if g=f then (g,v)::r else (g,x)::putF f v r
theorem jS (f g:Str)(v:V):∀ fs:List (Str×V),(putF f v fs).lookup g=if g=f then some v else fs.lookup g
  |[]=>by
    show List.lookup g [(f,v)]=_
    by_cases h:g=f
    · have hb:(g==f)=true:=beq_iff_eq.mpr h;simp only [List.lookup,hb,if_pos h]
    · have hb:(g==f)=false:=beq_eq_false_iff_ne.mpr h;simp only [List.lookup,hb,if_neg h]
  |(k,x)::r=>by
    have ih:=jS f g v r;rw [show putF f v ((k,x)::r)=(if k=f then (k,v)::r else (k,x)::putF f v r) from rfl]
    by_cases hk:k=f
    · rw [if_pos hk]
      by_cases h:g=k
      · have hb:(g==k)=true:=beq_iff_eq.mpr h;simp only [List.lookup,hb,if_pos (h.trans hk)]
      · have hb:(g==k)=false:=beq_eq_false_iff_ne.mpr h;simp only [List.lookup,hb,if_neg (λe:g=f=>h (e.trans hk.symm))]
    · rw [if_neg hk]
      by_cases h:g=k
      · have hb:(g==k)=true:=beq_iff_eq.mpr h;simp only [List.lookup,hb,if_neg (λe:g=f=>hk (h.symm.trans e))]
      · have hb:(g==k)=false:=beq_eq_false_iff_ne.mpr h;simp only [List.lookup,hb];exact ih
theorem jX (f:Str)(v:V):∀ fs:List (Str×V),f∈(putF f v fs).map (·.1)/\∀ g,g∈fs.map (·.1)->g∈(putF f v fs).map (·.1)
  |[]=>⟨by simp [putF],λg h=>by simp at h⟩
  |(k,x)::r=>by
    obtain ⟨i1,i2⟩:=jX f v r;rw [show putF f v ((k,x)::r)=(if k=f then (k,v)::r else (k,x)::putF f v r) from rfl]
    by_cases hk:k=f
    · rw [if_pos hk];subst hk;exact ⟨by simp,λg h=>by simpa using h⟩
    · rw [if_neg hk];refine ⟨?_,λg h=>?_⟩
      · rw [Ao];exact AL _ i1
      · rw [Ao] at h ⊢
        rcases Ae.mp h with e|e
        · exact Ae.mpr (.inl e)
        · exact AL _ (i2 g e)
theorem jT (f:Str)(v:V):∀ fs:List (Str×V),(putF f v fs).length<=fs.length+1
  |[]=>by simp [putF]
  |(k,x)::r=>by
    have ih:=jT f v r;rw [show putF f v ((k,x)::r)=(if k=f then (k,v)::r else (k,x)::putF f v r) from rfl]
    by_cases hk:k=f
    · rw [if_pos hk,Br,Br];omega
    · rw [if_neg hk,Br,Br];omega
def RelO.some_of (r:RelO (some v) o):∃ u,o=some u/\RelV v u:=by
 cases o with
 |none=>exact (show False from r).elim
 |some u=>exact ⟨u,rfl,r⟩
def RelO.none_of (r:RelO none o):o=none:=by
 cases o with
 |none=>rfl
 |some u=>exact (show False from r).elim
def vL (r:RelV v u):PySem.W.handedIn u=true:=by
 cases v with
 |non=>cases (show u=CP from r);rfl
 |bl b=>cases (show u=Value.bool b from r);rfl
 |int i=>obtain ⟨t,e⟩:=(show ∃ t,u=Value.int i t from r);cases e;rfl
 |str x=>obtain ⟨t,e⟩:=(show ∃ t,u=Value.str x t from r);cases e;rfl
 |byt b=>obtain ⟨t,e⟩:=(show ∃ t,u=Value.bytes b t from r);cases e;rfl
 |flt b=>obtain ⟨t,e⟩:=(show ∃ t,u=Value.float b t from r);cases e;rfl
 |ref a=>cases (show u=AZ a from r);rfl
 |ty n=>cases (show u=Value.type n from r);rfl
section
variable {P:AE}{w:World}{H H':Hp}{h h':Heap}{a C dx:Addr}{fs fs':List (Str×V)}
def pH (hok:HOk P w H h)(e:H a=some (.ins C dx fs)):∃ mA,ObjM h a dx C mA/\(∀ f,RelO (fs.lookup f) (mA f))/\PySem.Within mA (fs.map (·.1))/\fs.length<=1000/\H dx=some (.own a):=by
 obtain ⟨d,z,ne,ob,mA,n,r,q⟩:=(show ObjOk P w H h a (.ins C dx fs) from hok a _ e);exact ⟨mA,⟨ob,n,ne⟩,r,q,z,d⟩
end
structure Cls (K:Aa)(C:Addr):Prop where
 pg:PySem.W.plainGet K C Str.empty=true
 hd:PySem.W.hasDictIn K C=true
 po:PySem.W.plainOver K C=true
 sa:Bo K (.ref C) "__setattr__" = some (some (.builtin "object.__setattr__"))
def Cls.get {K:Aa}{C:Addr}(c:Cls K C)(f:Str):PySem.W.plainGet K C f=true:=c.pg
def NoAttr (K:Aa)(C:Addr)(f:Str):Prop:=Bo K (.ref C) f=some none
def NoAttr.taker {K:Aa}{C:Addr}{f:Str}(n:NoAttr K C f):PySem.W.takerIn K C f=some none:=by
 unfold PySem.W.takerIn;rw [show Bo K (.ref C) f=some none from n];rfl
structure Con (K:Aa)(C:Addr)(f:Str)(v:V)(u:Value):Prop where
 at_:Bo K (.ref C) f=some (some u)
 rel:RelV v u
 get:PySem.W.specialIn K u "__get__" = some none
 cp:PySem.W.copiedNames.contains f=false
structure Meth (K:Aa)(C:Addr)(m:Str)(f:Addr):Prop where
 at_:Bo K (.ref C) m=some (some (.ref f))
 fn:PySem.W.isFn K (.ref f)=true
 kp:BR K (.ref f)=true
section
variable {X:Cx}{pins:List (Addr×Obj)}{σ:St}{H:Hp}{s:Shared}{a C dx:Addr}{fs:List (Str×V)}{f:Str}{v:V}{A:Around}{E:Value->Shared->Prop}
def rS {b:Bool}(I:Inv X pins σ H s)(e:H a=some (.ins C dx fs))(c:Cls X.K C)(n:NoAttr X.K C f)(l:fs.lookup f=some v)(h:∀ u s',Inv X pins σ H s'->RelV v u->Q u s'):wpAny (model X.prog X.w) A (getAttr (.ref a) f b) Q E s:=by
 obtain ⟨mA,O,r,_,_,_⟩:=pH I.hok e;obtain ⟨u,hu,ru⟩:=RelO.some_of (v:=v) (o:=mA f) (by rw [<- l];exact r f);exact get_map I.kIn O (c.get f) c.hd n hu (vL ru) (h u _ (I.tok _) ru)
def iG (I:Inv X pins σ H s)(e:H a=some (.ins C dx fs))(c:Cls X.K C)(k:Meth X.K C m g)(l:fs.lookup m=none)(h:Q (.ref g,[.ref a]) s):wpAny (model X.prog X.w) A (getMethod (.ref a) m pl) Q E s:=by
 obtain ⟨mA,O,r,_,_,_⟩:=pH I.hok e;have hn:mA m=none:=RelO.none_of (by rw [<- l];exact r m);exact zA I.kIn O (c.get m) k.at_ k.fn hn h
def rH (I:Inv X pins σ H s)(e:H a=some (.ins C dx fs))(c:Cls X.K C)(n:NoAttr X.K C f)(hl:fs.length<1000)(ry:RelV y u)(h:∀ s',Inv X pins σ (upd H a (.ins C dx (putF f y fs))) s'->Q () s'):wpAny (model X.prog X.w) A (setAttr (.ref a) f u) Q E s:=by
 obtain ⟨mA,O,r,wi,_,ho⟩:=pH I.hok e;have hz:(fs.map (·.1)).length<=AB:=by rw [Ab,sizeLine_eq];omega
 refine aA9 I.kIn O c.sa c.po n.taker c.hd wi hz λh' O' sb=>h _ ?_;have hd:∃ o,h'.get? dx=some o:=let ⟨o,_,_,e',_⟩:=O'.ns;⟨o,e'⟩;refine I.write (x:=a) (e:=dx) (by rw [e];exact Dp) (.inr ho) (λb q hb z=>(sb.2 b hb).trans z) hd ?_;refine ⟨by rw [aD O.ne];exact ho,?_,O.ne,O'.obj,_,O'.ns,λg=>?_,λg hg=>?_⟩
 ·have:=jT f y fs;omega
 ·show RelO ((putF f y fs).lookup g) (if g=f then some u else mA g)
  rw [jS]
  by_cases q:g=f
  ·rw [if_pos q,if_pos q];exact ry
  ·rw [if_neg q,if_neg q];exact r g
 ·by_cases q:g=f
  ·rw [q];exact (jX f y fs).1
  ·refine (jX f y fs).2 g (wi g λz=>hg ?_)
   show (if g=f then some u else mA g)=none;rw [if_neg q];exact z
def Inv.made (I:Inv X pins σ H s):Inv X pins σ (upd (upd H s.heap.objs.size (.own (s.heap.objs.size+1))) (s.heap.objs.size+1) (.ins C s.heap.objs.size []))
  { s with heap:=(s.heap.push BQ).push (Cz C s.heap.objs.size) }:=by
 have e1:(s.heap.push BQ).get? s.heap.objs.size=some BQ:=AK s.heap rfl;have e2:((s.heap.push BQ).push (Cz C s.heap.objs.size)).get? (s.heap.objs.size+1)=some (Cz C s.heap.objs.size):=by
  have:=AK (s.heap.push BQ) (o:=Cz C s.heap.objs.size) rfl;rwa [Heap.size_push] at this
 have e3:(s.heap.push BQ).Ns s.heap.objs.size (λ_=>none):=⟨BQ,#[],_,e1,rfl,(λe he=>absurd he (by simp)),λ_=>rfl⟩;have I1:=I.laid (a:=s.heap.objs.size) (o:=.own (s.heap.objs.size+1)) (h':=s.heap.push BQ) (t':=s.toks) (λb u q=>Av _ q) (Ak _) ⟨_,e1⟩;refine I1.laid (a:=s.heap.objs.size+1) (o:=.ins C s.heap.objs.size []) (t':=s.toks) (λb u q=>Av _ q) (Nat.le_of_eq (Heap.size_push _ _)) ?_;have ne:s.heap.objs.size≠s.heap.objs.size+1:=AJ (DS _);refine ⟨by rw [aD ne,aB],Bv _,ne,e2,λ_=>none,(Heap.Ns1.of_empty e3).at λo q=>Av _ q,λ_=>Dp,λy hy=>absurd rfl hy⟩
def aC4 (hb:Di e f env (eval e env)=eval e env)(h:wpAny (model prog w) A (eval e env) (λo s₁=>wpAny (model prog w) A (getAttr o f true) Q E s₁) E s):wpAny (model prog w) A (eval (.Attribute e f pos) env) Q E s:=
 Attribute_any_ h (by rw [arm_eval_Attribute,hb])
end
def tFld (K:Aa)(ta:TE)(f:Str):TE:=λσ H Q=>ta σ H λx H1=>∃ a C dx fs v,x=.ref a/\H1 a=some (.ins C dx fs)/\Cls K C/\NoAttr K C f/\fs.lookup f=some v/\Q v H1
def tCon (K:Aa)(ta:TE)(f:Str):TE:=λσ H Q=>ta σ H λx H1=>∃ a C dx fs v u,x=.ref a/\H1 a=some (.ins C dx fs)/\Cls K C/\Con K C f v u/\fs.lookup f=none/\Q v H1
def sFld (K:Aa)(ta tv:TE)(f:Str):TS:=λD σ H=>tv σ H λy H1=>ta σ H1 λx H2=>∃ a C dx fs,x=.ref a/\H2 a=some (.ins C dx fs)/\Cls K C/\NoAttr K C f/\fs.length<1000 /\
 D.nx σ (upd H2 a (.ins C dx (putF f y fs)))
def InOp (X:Cx)(op:Operator)(rd:V->V->Hp->VK->Prop):Prop:=
 ∀ (pins:List (Addr×Obj)) (s:Shared) (σ:St) (H:Hp) (x y:V) (u v:Value) (Q:VK),Inv X pins σ H s->RelV x u->RelV y v->rd x y H Q->wpAny (model X.prog X.w) X.A (inplaceOp op u v) (EP X pins σ Q) X.xe s
def sFldAug (K:Aa)(ta tv:TE)(rd:V->V->Hp->VK->Prop)(f:Str):TS:=λD σ H=>ta σ H λx H1=>∃ a C dx fs v,x=.ref a/\H1 a=some (.ins C dx fs)/\Cls K C/\NoAttr K C f/\fs.lookup f=some v /\
 tv σ H1 λy H2=>rd v y H2 λz H3=>∃ dx' fs',H3 a=some (.ins C dx' fs')/\fs'.length<1000/\D.nx σ (upd H3 a (.ins C dx' (putF f z fs')))
section
variable {X:Cx}{o e value:Expr}{f:Str}{pos pos' tpos:Pos}{ta tv:TE}
def bU (he:PE X e ta)(hb:Di e f X.env (eval e X.env)=eval e X.env):PE X (.Attribute e f pos) (tFld X.K ta f):=by
 intro pins s σ H Q I h;refine aC4 hb (thn (he pins s σ H _ I h) λu s1 ⟨x,H1,I1,rx,a,C,dx,fs,v,ex,ea,c,n,l,q⟩=>?_);subst ex;obtain rfl:u=AZ a:=rx;exact rS I1 ea c n l λu' s2 I2 ru=>⟨v,H1,I2,ru,q⟩
def kS (ha:PE X o ta)(hv:PE X value tv)(hs:swapsWith value (some (.Attribute o f pos')) pos.line X.env=pure false):PS X (.Assign [.Attribute o f pos'] value pos) (sFld X.K ta tv f):=by
 intro pins s σ H D I h;refine plainObj_wpAny_Assign_Attribute (thn (hv pins s σ H _ I h) λu s1 ⟨y,H1,I1,ry,q⟩=>thn (ha pins s1 σ H1 _ I1 q) λov s2 ⟨x,H2,I2,rx,a,C,dx,fs,ex,ea,c,n,l,q2⟩=>?_) hs;subst ex;obtain rfl:ov=AZ a:=rx;exact rH I2 ea c n l ry λs3 I3=>⟨σ,_,I3,q2⟩
def rAdd:V->V->Hp->VK->Prop:=λx y H Q=>∃ i j,x=.int i/\y=.int j/\Q (.int (i+j)) H
def rSub:V->V->Hp->VK->Prop:=λx y H Q=>∃ i j,x=.int i/\y=.int j/\Q (.int (i-j)) H
def methcall_of {σ:St}(he:PE X e te)(I:Inv X pins σ H s)(h:te σ H λx H1=>∃ a C dx fs g,x=.ref a/\H1 a=some (.ins C dx fs)/\Cls X.K C/\Meth X.K C m g/\fs.lookup m=none /\
   ∀ s1,Inv X pins σ H1 s1->wpAny (model X.prog X.w) X.A (callWith pos (.ref g) [.ref a] (backTo pos (AY args X.env)) (backToKw pos (De [] X.env))) Q X.xe s1)(ht:eval (.Call (.Attribute e m apos) args [] pos) X.env=(do
   let ov <- eval e X.env
   standAt apos.atName
   let (f,first) <- holding [ov] (getMethod ov m pl)
   callWith pos f first (backTo pos (AY args X.env)) (backToKw pos (De [] X.env)))) :
  wpAny (model X.prog X.w) X.A (eval (.Call (.Attribute e m apos) args [] pos) X.env) Q X.xe s:=by
 refine PySem.W.methodCall_KW (pl:=pl) (thn (he pins s σ H _ I h) λu s1 ⟨x,H1,I1,rx,a,C,dx,fs,g,ex,ea,c,k,l,q⟩=>?_) ht;subst ex;obtain rfl:u=AZ a:=rx;exact iG I1 ea c k l (q s1 I1)
end
section
variable {X:Cx}{pins:List (Addr×Obj)}{σ:St}{H:Hp}{s:Shared}{A:Around}{E:Value->Shared->Prop}{Q:Value->Shared->Prop}{c:Value}{b:Bool}
inductive TyOf (K:Aa)(H:Hp):V->Value->Prop where
 |non:TyOf K H .non (.type "NoneType")
 |bl (x:Bool):TyOf K H (.bl x) (.type "bool")
 |int (i:Int):TyOf K H (.int i) (.type "int")
 |str (x:Str):TyOf K H (.str x) (.type "str")
 |flt (x:UInt64):TyOf K H (.flt x) (.type "float")
 |lst {a:Addr} {xs:List V} (e:H a=some (.lst xs)):TyOf K H (.ref a) (.type "list")
 |frz {a:Addr} {o:Obj} {xs:List V} (e:H a=some (.frz o (.lst xs))):TyOf K H (.ref a) (.type "list")
 |tup {a:Addr} {xs:List V} (e:H a=some (.tup xs)):TyOf K H (.ref a) (.type "tuple")
 |dK {a:Addr} {kvs:List (Key×V)} (e:H a=some (.dK kvs)):TyOf K H (.ref a) (.type "dict")
 |dT {a:Addr} {kvs:List (List Key×V)} (e:H a=some (.dT kvs)):TyOf K H (.ref a) (.type "dict")
 |ins {a C dx:Addr} {fs:List (Str×V)} (e:H a=some (.ins C dx fs)) (cl:Cls K C) (ha:Bo K (.ref C) "__class__" = some (some (.builtin "object.__class__")))
   (hn:PySem.W.specialIn K (.builtin "object.__class__") "__get__" = some (some (.builtin "getset_descriptor.__get__"))) (htk:PySem.W.takesIn K (.builtin "object.__class__")=some true)
   (hm:PySem.W.mroIn K C (.type "object")=some true):TyOf K H (.ref a) (.ref C)
end
structure Room (k:Nat)(A:Around):Prop where
 hd:A.handled=none
 dp:A.depth+3*k+5<recursionLimit
 un:A.units+16*k+200<cLine
 gd:A.guards=some []
def Room.mono {j k:Nat}(r:Room k A)(h:j<=k):Room j A:=⟨r.hd,by have:=r.dp;omega,by have:=r.un;omega,r.gd⟩
def Room.deeper {k:Nat}(r:Room (k+1) A)(env:Env):Room k (A.deeper env):=
 ⟨r.hd,by have:=r.dp;show A.depth+1+3*k+5<_;omega,by have:=r.un;show A.units+3+16*k+200<_;omega,r.gd⟩
theorem rQ {A:Around}{C:Addr}{us:List Value}{kw:List (Str×Value)}:(A.under (.builtin "type.__call__" ⟨.ref C::us,kw⟩)).depth=A.depth+1:=by
 first|rfl|simp [Around.under,Code.weight,Code.isCreation,Code.isGuard,Code.isCaller,Code.frames,Code.isFrame,guardIds]
theorem rP {A:Around}{C:Addr}{us:List Value}{kw:List (Str×Value)}:(A.under (.builtin "type.__call__" ⟨.ref C::us,kw⟩)).units=A.units+1:=by
 first|rfl|simp [Around.under,Code.cUnits,Code.frames,Code.isFrame]
theorem pF {A:Around}{C:Addr}{us:List Value}{kw:List (Str×Value)}:(A.under (.builtin "type.__call__" ⟨.ref C::us,kw⟩)).guards=A.guards:=by
 first|rfl|(cases h:A.guards<;>simp [Around.under,Code.guards,Code.isGuard,guardIds,pushGuards,h])
def Room.make {k:Nat}{A:Around}(r:Room (k+1) A)(C:Addr)(us:List Value)(kw:List (Str×Value)):Room k (A.under (.builtin "type.__call__" ⟨.ref C::us,kw⟩)):=
 ⟨r.hd,by have:=r.dp;rw [rQ];omega,by have:=r.un;rw [rP];omega,by rw [pF];exact r.gd⟩
def Room.depth {k:Nat}(r:Room k A):A.depth<recursionLimit:=by have:=r.dp;omega
def Room.units {k:Nat}(r:Room k A):A.units+64<cLine:=by have:=r.un;omega
def tNil:TA:=λ_ H Q=>Q [] H
def aF6 (ta:TE)(tr:TA):TA:=λσ H Q=>ta σ H λx H1=>tr σ H1 λxs H2=>Q (x::xs) H2
section
variable {X:Cx}{e:Expr}{es:List Expr}{te:TE}{t:TA}{pos:Pos}
def aE:PA X [] tNil:=λ_ _ _ _ H Q I h=>CS ⟨[],H,I,.nil,h⟩
def aA (ha:PE X e te)(hr:PA X es t)(hs:AY (e::es) X.env=(false,eval e X.env)::AY es X.env:=by rfl):PA X (e::es) (aF6 te t):=by
 intro pos pins s σ H Q I h;rw [hs];show wpAny _ _ (spliced ((false,eval e X.env)::backTo pos (AY es X.env))) _ _ s;refine Cp (thn (ha pins s σ H _ I h) λu s1 ⟨x,H1,I1,r1,q1⟩=>?_);exact thn (hr pos pins s1 σ H1 _ I1 q1) λus s2 ⟨xs,H2,I2,r2,q2⟩=>⟨x::xs,H2,I2,.cons r1 r2,q2⟩
def tTup (t:TA):TE:=λσ H Q=>t σ H λxs H1=>xs.length<=AB/\∀ p,H1 p=none->Q (.ref p) (upd H1 p (.tup xs))
def tLst (t:TA):TE:=λσ H Q=>t σ H λxs H1=>xs.length<=AB/\∀ p,H1 p=none->Q (.ref p) (upd H1 p (.lst xs))
def bF {x1}(h:PA X es t):PE X (.Tuple es x1 pos) (tTup t):=by
 intro pins s σ H Q I hq;refine wpAny_Tuple_spliced (thn (h pos pins s σ H _ I hq) λus s1 ⟨xs,H1,I1,r,z,q⟩=>⟨by rw [<- r.length];exact z,?_⟩);have hf:H1 s1.heap.objs.size=none:=I1.hok.fresh (Ak _);refine ⟨.ref s1.heap.objs.size,upd H1 s1.heap.objs.size (.tup xs),I1.laid (t':=s1.toks) (λb u e=>Av _ e) (Ak _) ?_,rfl,q _ hf⟩;exact ⟨⟨z,_,AK _ rfl,rfl⟩,us,r,⟨_,AK _ rfl,rfl,_,rfl⟩⟩
def dH (h:PA X es t):PE X (.List es pos) (tLst t):=by
 intro pins s σ H Q I hq;refine wpAny_List_spliced (thn (h pos pins s σ H _ I hq) λus s1 ⟨xs,H1,I1,r,z,q⟩=>⟨by rw [<- r.length];exact z,?_⟩);have hf:H1 s1.heap.objs.size=none:=I1.hok.fresh (Ak _);refine ⟨.ref s1.heap.objs.size,upd H1 s1.heap.objs.size (.lst xs),I1.laid (t':=s1.toks) (λb u e=>Av _ e) (Ak _) ?_,rfl,q _ hf⟩;exact ⟨z,us,0,r,AK _ rfl⟩
end
abbrev Sp:=List V->Hp->VK->XK->Prop
abbrev CXT:=List Env->Hp->Shared->XK->Value->Shared->Prop
structure Env0 (P:AE)(w:World)(K:Aa)(mg:Str->Option Value)(base:Heap)(A:Around)(outer:List Env)(s:Shared)(H:Hp):Prop where
 frames:A.frames=some outer
 mod:Mod K mg base
 bs:∀ b o,base.get? b=some o->s.heap.get? b=some o/\H b=none
 bsz:base.objs.size<=s.heap.objs.size
 funs:s.heap.FunFrames base outer
 frf:∀ b∈frs outer,H b=none
 hok:HOk P w H s.heap
 bare:AllBare s.gens
def CE (outer:List Env)(P:AE)(w:World)(H:Hp)(s:Shared)(Q:VK)(u:Value)(s':Shared):Prop:=
 ∃ v H',s'.os=s.os/\AllBare s'.gens/\Un (frs outer) [] H H' s.heap s'.heap/\HOk P w H' s'.heap/\RelV v u/\Q v H'
def CR (CX:CXT)(outer:List Env)(P:AE)(w:World)(H:Hp)(s:Shared)(Q:VK)(E:XK)(r:Result)(s':Shared):Prop:=
 match r with
 |.ok (.ret u)=>CE outer P w H s Q u s'
 |.ok _=>False
 |.error e=>CX outer H s E e s'
structure FnOk (P:AE)(w:World)(K:Aa)(mg:Str->Option Value)(base:Heap)(CX:CXT)(k:Nat)(f:Addr)(fd:Bj)(ps:List Str)(sp:Sp):Prop where
 len:∀ vs H Q E,sp vs H Q E->vs.length=ps.length
 run:∀ (A:Around) (outer:List Env) (s:Shared) (H:Hp) (args:Args) (us:List Value) (vs:List V) (Q:VK) (E:XK),Room k A->Env0 P w K mg base A outer s H->BindsTo s fd args (ps.zip us)->Vals vs us->sp vs H Q E ->
  DP (model P w) A (.call (.ref f) args) (CR CX outer P w H s Q E) s
def FnOk.mono {P:AE}{w:World}{K:Aa}{mg:Str->Option Value}{base:Heap}{CX:CXT}{j k:Nat}{f:Addr}{fd:Bj}{ps:List Str}{sp:Sp}(F:FnOk P w K mg base CX j f fd ps sp)(h:j<=k) :
  FnOk P w K mg base CX k f fd ps sp:=⟨F.len,λA outer s H args us vs Q E hr=>F.run A outer s H args us vs Q E (hr.mono h)⟩
def Env0.make {P:AE}{w:World}{K:Aa}{mg:Str->Option Value}{base:Heap}{A:Around}{outer:List Env}{s:Shared}{H:Hp}(e:Env0 P w K mg base A outer s H)(C:Addr)(us:List Value)(kw:List (Str×Value)) :
    Env0 P w K mg base (A.under (.builtin "type.__call__" ⟨.ref C::us,kw⟩)) outer s H:=⟨by first|exact e.frames|(simpa [Around.under,Code.envs,Code.isFrame,pushEnvs] using e.frames),e.mod,e.bs,e.bsz,e.funs,e.frf,e.hok,e.bare⟩
section
variable {X:Cx}{pins:List (Addr×Obj)}{σ:St}{H:Hp}{s s':Shared}
def Inv.env0 (I:Inv X pins σ H s):Env0 X.prog X.w X.K X.mg X.base X.A X.stack s H:=
 ⟨I.ok.frames,I.ok.mod,I.bs,AX I.ok.bsz I.sz,I.stack,I.stkFree,I.hok,I.bare⟩
theorem Inv.after (I:Inv X pins σ H s)(h:CE X.stack X.prog X.w H s Q u s'):EP X pins σ Q u s':=by
 obtain ⟨v,H',os,bare,un,hok,r,q⟩:=h;obtain ⟨hh,g,d,t,os'⟩:=s';obtain rfl:os'=s.os:=os;exact ⟨v,H',I.call (h':=hh) (g':=g) (d':=d) (t':=t) (ch:=[]) un hok bare (λb z=>absurd z (by simp)),r,q⟩
end
def aDo (sp:Sp)(dvs:List V)(E:XK)(t:TA):TE:=λσ H Q=>t σ H λvs H1=>sp (vs++dvs) H1 Q E
def wQ (C:Addr)(m:Str)(sp:Sp)(dvs:List V)(E:XK)(ta:TE)(t:TA):TE:=λσ H Q=>ta σ H λx H1=>∃ a dx fs,x=.ref a/\H1 a=some (.ins C dx fs)/\fs.lookup m=none /\
 t σ H1 λvs H2=>sp (x::(vs++dvs)) H2 Q E
def aF2 (C:Addr)(sp:Sp)(dvs:List V)(E:XK)(t:TA):TE:=λσ H Q=>t σ H λvs H1=>∀ x dx,H1 x=none->H1 dx=none->dx≠x ->
 sp (.ref x::(vs++dvs)) (upd (upd H1 dx (.own x)) x (.ins C dx [])) (λv H2=>v=.non/\Q (.ref x) H2) E
def Binds (K:Aa)(fd:Bj)(ps:List Str)(ds:List Value):Prop:=
 ∀ (s:Shared) (us:List Value),K.In s.heap->(us++ds).length=ps.length->BindsTo s fd ⟨us,[]⟩ (ps.zip (us++ds))
def Binds.all {K:Aa}{fd:Bj}{ps:List Str}(h:∀ us:List Value,us.length=ps.length->bindArgs fd ⟨us,[]⟩=pure (ps.zip us)):Binds K fd ps []:=λs us _ hl=>by
 rw [Ck] at hl ⊢;exact .of_eq (h us hl)
def fX (CX:CXT)(X:Cx)(E:XK):Prop:=∀ (pins:List (Addr×Obj)) (σ:St) (H:Hp) (s:Shared) (e:Value) (s':Shared),Inv X pins σ H s->CX X.stack H s E e s'->X.xe e s'
section
variable {X:Cx}{CX:CXT}{k:Nat}{f C:Addr}{fd:Bj}{ps:List Str}{sp:Sp}{dvs:List V}{ds:List Value}{E:XK}{x m:Str}{p pos apos:Pos}{e o:Expr}{es:List Expr}{ta:TE}{t:TA}
def tR {σ:St}(F:FnOk X.prog X.w X.K X.mg X.base CX k f fd ps sp)(hr:Room k X.A)(hb:Binds X.K fd ps ds)(hd:Vals dvs ds)(hx:fX CX X E)(I:Inv X pins σ H s)(r:Vals vs us)(h:sp (vs++dvs) H Q E):wpAny (model X.prog X.w) X.A (call (.ref f) us) (EP X pins σ Q) X.xe s:=by
 have r2:Vals (vs++dvs) (us++ds):=r.append hd;have hl:(us++ds).length=ps.length:=by rw [<- r2.length];exact F.len _ _ _ _ h
 refine wpAny_call (codeAny_mono (F.run X.A X.stack s H ⟨us,[]⟩ (us++ds) (vs++dvs) Q E hr I.env0 (hb s us I.kIn hl) r2 h) λr s' hq=>?_);cases r with
 |error e=>exact hx pins σ H s e s' I hq
 |ok fl=>
  cases fl with
  |ret u=>exact I.after hq
  |next=>exact CB hq
  |brk=>exact CB hq
  |cont=>exact CB hq
def aBq (F:FnOk X.prog X.w X.K X.mg X.base CX k f fd ps sp)(hr:Room k X.A)(hg:Gl X x)(hm:X.mg x=some (.ref f))(hk:BR X.K (.ref f)=true)(hb:Binds X.K fd ps ds)(hd:Vals dvs ds)(hx:fX CX X E)
  (ha:PA X (e::es) t) (hdb:(x==("__debug__":Str))=false:=by decide) (he:AY (e::es) X.env=(false,eval e X.env)::AY es X.env:=by rfl) (hpl:(backTo pos (AY es X.env)).any (·.1)=false:=by rfl) :
  PE X (.Call (.Name x p) (e::es) [] pos) (aDo sp dvs E t):=by
 intro pins s σ H Q I h;refine CT (jU I hg hm ?_ hdb);refine PySem.W.callWith_K (h₀:=X.base) I.ok.mod.kin hk (thn (ha pos pins s σ H _ I h) λus s1 ⟨vs,H1,I1,r,q⟩=>⟨I1.kIn,?_⟩) he hpl;exact tR F hr hb hd hx I1 r q
def aBp (he:PE X o ta)(c:Cls X.K C)(hm:Meth X.K C m f)(F:FnOk X.prog X.w X.K X.mg X.base CX k f fd ps sp)(hr:Room k X.A)(hb:Binds X.K fd ps ds)(hd:Vals dvs ds)(hx:fX CX X E)(ha:PA X (e::es) t)(hst:AY (e::es) X.env=(false,eval e X.env)::AY es X.env:=by rfl)(hpl:(backTo pos (AY es X.env)).any (·.1)=false:=by rfl)(ht:eval (.Call (.Attribute o m apos) (e::es) [] pos) X.env=(do
   let ov <- eval o X.env
   standAt apos.atName
   let (f,first) <- holding [ov] (getMethod ov m pl)
   callWith pos f first (backTo pos (AY (e::es) X.env)) (backToKw pos (De [] X.env))):=by rfl) :
  PE X (.Call (.Attribute o m apos) (e::es) [] pos) (wQ C m sp dvs E ta t):=by
 intro pins s σ H Q I h;refine PySem.W.methodCall_KW (pl:=pl) (thn (he pins s σ H _ I h) λu s1 ⟨x,H1,I1,rx,a,dx,fs,ex,ea,l,q⟩=>?_) ht;subst ex;obtain rfl:u=AZ a:=rx;refine iG I1 ea c hm l ?_;refine PySem.W.callWith_K (first:=[.ref a]) (h₀:=X.base) I.ok.mod.kin hm.kp (thn (ha pos pins s1 σ H1 _ I1 q) λus s2 ⟨vs,H2,I2,r,q2⟩=>⟨I2.kIn,?_⟩) hst hpl;exact tR (us:=.ref a::us) (vs:=.ref a::vs) F hr hb hd hx I2 (.cons rfl r) q2
def xQ (he:PE X o ta)(c:Cls X.K C)(hm:Meth X.K C m f)(F:FnOk X.prog X.w X.K X.mg X.base CX k f fd ps sp)(hr:Room k X.A)(hb:Binds X.K fd ps ds)(hd:Vals dvs ds)(hx:fX CX X E)(ht:eval (.Call (.Attribute o m apos) [] [] pos) X.env=(do
   let ov <- eval o X.env
   standAt apos.atName
   let (f,first) <- holding [ov] (getMethod ov m pl)
   callWith pos f first (backTo pos (AY [] X.env)) (backToKw pos (De [] X.env))):=by rfl) :
  PE X (.Call (.Attribute o m apos) [] [] pos) (wQ C m sp dvs E ta tNil):=by
 intro pins s σ H Q I h;refine PySem.W.methodCall_KW (pl:=pl) (thn (he pins s σ H _ I h) λu s1 ⟨x,H1,I1,rx,a,dx,fs,ex,ea,l,q⟩=>?_) ht;subst ex;obtain rfl:u=AZ a:=rx;refine iG I1 ea c hm l ?_;exact PySem.W.callWith_K0 (first:=[.ref a]) I1.kIn hm.kp (tR (us:=[.ref a]) (vs:=[.ref a]) F hr hb hd hx I1 (.cons rfl .nil) q)
structure Mk (K:Aa)(C f:Addr):Prop where
 makes:PySem.W.makesIn K C=true
 init:Bo K (.ref C) "__init__" = some (some (.ref f))
 fn:PySem.W.isFn K (.ref f)=true
 kp:BR K (.ref C)=true
def xK {σ:St}(M:Mk X.K C f)(F:FnOk X.prog X.w X.K X.mg X.base CX k f fd ps sp)(hr:Room (k+1) X.A)(hb:Binds X.K fd ps ds)(hd:Vals dvs ds)(hx:fX CX X E)(I:Inv X pins σ H s)(r:Vals vs us)(h:∀ x dx,H x=none->H dx=none->dx≠x->sp (.ref x::(vs++dvs)) (upd (upd H dx (.own x)) x (.ins C dx [])) (λv H2=>v=.non/\Q (.ref x) H2) E) :
  wpAny (model X.prog X.w) X.A (call (.ref C) us) (EP X pins σ Q) X.xe s:=by
 have hq:=h (s.heap.objs.size+1) s.heap.objs.size (I.hok.fresh (CQ _)) (I.hok.fresh (Ak _)) (AJ (DS _));have I2:=Inv.made (C:=C) I;have r2:Vals (V.ref (s.heap.objs.size+1)::(vs++dvs)) (AZ (s.heap.objs.size+1)::(us++ds)):=.cons rfl (r.append hd);have hl:(AZ (s.heap.objs.size+1)::us++ds).length=ps.length:=by
  have e:=r2.length;rw [F.len _ _ _ _ hq] at e;exact e.symm
 refine wpAny_call (yR (f:=f) I.kIn M.makes M.init (beq_iff_eq.mp M.fn) (codeAny_mono (F.run _ X.stack _ _ ⟨AZ (s.heap.objs.size+1)::us,[]⟩ (AZ (s.heap.objs.size+1)::(us++ds)) _ _ E (hr.make C us [])
  (I2.env0.make C us []) (hb _ (AZ (s.heap.objs.size+1)::us) I2.kIn hl) r2 hq) λr s' hq'=>?_))
 cases r with
 |error e=>exact hx pins σ _ _ e s' I2 hq'
 |ok fl=>
  cases fl with
  |ret u=>
   obtain ⟨v,H',I3,rv,ev,q3⟩:=I2.after hq';subst ev;exact ⟨rv,⟨V.ref (s.heap.objs.size+1),H',I3,rfl,q3⟩⟩
  |next=>exact CB hq'
  |brk=>exact CB hq'
  |cont=>exact CB hq'
def qP (M:Mk X.K C f)(F:FnOk X.prog X.w X.K X.mg X.base CX k f fd ps sp)(hr:Room (k+1) X.A)(hg:Gl X x)(hm:X.mg x=some (.ref C))(hb:Binds X.K fd ps ds)(hd:Vals dvs ds)(hx:fX CX X E)
  (hdb:(x==("__debug__":Str))=false:=by decide):PE X (.Call (.Name x p) [] [] pos) (aF2 C sp dvs E tNil):=by
 intro pins s σ H Q I h;refine CT (jU I hg hm ?_ hdb);exact PySem.W.callWith_K0 I.kIn M.kp (xK (us:=[]) M F hr hb hd hx I .nil h)
end
def PK (X:Cx)(kws:List Keyword)(t:TA):Prop:=
 ∀ (pos:Pos) (pins:List (Addr×Obj)) (s:Shared) (σ:St) (H:Hp) (Q:List V->Hp->Prop),Inv X pins σ H s->t σ H Q->wpAny (model X.prog X.w) X.A (evalAll ((backToKw pos (De kws X.env)).map (·.2))) (AP X pins σ Q) X.xe s
section
variable {X:Cx}{CX:CXT}{k:Nat}{f C:Addr}{fd:Bj}{ps ks:List Str}{sp:Sp}{E:XK}{x m:Str}{p pos apos kpos:Pos}{e o:Expr}{es:List Expr}{kws:List Keyword}{te ta:TE}{t tk:TA}{nm:Option Str}
structure KBinds (K:Aa)(fd:Bj)(ps ks:List Str)(g:List Value->List Value->List Value)(gV:List V->List V->List V):Prop where
 to:∀ (s:Shared) (us ws:List Value),K.In s.heap->(g us ws).length=ps.length->BindsTo s fd ⟨us,ks.zip ws⟩ (ps.zip (g us ws))
 rel:∀ {vs:List V} {us:List Value} {zs:List V} {ws:List Value},Vals vs us->Vals zs ws->Vals (gV vs zs) (g us ws)
def tCallK (sp:Sp)(gV:List V->List V->List V)(E:XK)(t tk:TA):TE:=λσ H Q=>t σ H λvs H1=>tk σ H1 λzs H2=>sp (gV vs zs) H2 Q E
variable {g:List Value->List Value->List Value}{gV:List V->List V->List V}
end
structure FnScope (N P:List Str)(sc:Scope):Prop where
 kind:sc.kind=.function
 co:sc.isCoroutine=false
 gen:sc.isGenerator=false
 nd:N.Nodup
 pre:N.take P.length=P
 par:∀ x∈P,sc.names.lookup x=some .local\/sc.names.lookup x=some .cell
 nofree:∀ y∈sc.names,y.2≠.free
def fnScOk {N P:List Str}{sc:Scope}(h:(sc.kind==.function&&!sc.isCoroutine&&!sc.isGenerator&&decide N.Nodup&&decide (N.take P.length=P)&&P.all (λx=>sc.names.lookup x==some .local||sc.names.lookup x==some .cell)&&sc.names.all λy=>y.2!=.free)=true):FnScope N P sc:=by
 simp only [Cq,decide_eq_true_eq,Cd,Bool.or_eq_true,beq_iff_eq,bne_iff_ne,Bool.not_eq_true'] at h
 exact ⟨h.1.1.1.1.1.1,h.1.1.1.1.1.2,h.1.1.1.1.2,h.1.1.1.2,h.1.1.2,h.1.2,h.2⟩
theorem oI {kindOf:Str->Option Bd}{x:Str}:∀ {binds:List (Str×Value)} {m:Str->Option Value},(∀ v,(x,v)∉binds)->bindL kindOf binds m x=m x
  |[],_,_=>rfl
  |(n,v)::r,m,h=>by
    unfold bindL;rw [oI λw hw=>h w (AL _ hw)];split
    · have:x≠n:=by rintro rfl;exact h v AO
      simp [this]
    · rfl
theorem oK {kindOf:Str->Option Bd}{x:Str}:∀ {binds:List (Str×Value)} {m:Str->Option Value},(∀ v,(x,v)∉binds)->bindC kindOf binds m x=m x
  |[],_,_=>rfl
  |(n,v)::r,m,h=>by
    unfold bindC;rw [oK λw hw=>h w (AL _ hw)];split
    · rfl
    · have:x≠n:=by rintro rfl;exact h v AO
      simp [this]
theorem oJ {kindOf:Str->Option Bd}{x:Str}{v:Value}:∀ {P:List Str} {vs:List Value} {i:Nat} {m:Str->Option Value},P.Nodup->P[i]?=some x->vs[i]?=some v->kindOf x=some .local ->
  bindL kindOf (P.zip vs) m x=some v
 |[],_,_,_,_,h,_,_=>by simp at h
 |_::_,[],_,_,_,_,h,_=>by simp at h
 |p::P,w::vs,0,m,nd,h1,h2,hk=>by
  simp at h1 h2;subst h1;subst h2;show bindL kindOf ((p,w)::P.zip vs) m p=_;unfold bindL;rw [oI λv hv=>(AU.mp nd).1 (List.of_mem_zip hv).1,if_pos hk];simp
 |p::P,w::vs,i+1,m,nd,h1,h2,hk=>by
  show bindL kindOf ((p,w)::P.zip vs) m x=_;unfold bindL;exact oJ (i:=i) (AU.mp nd).2 (by simpa using h1) (by simpa using h2) hk
theorem oM {kindOf:Str->Option Bd}{x:Str}{v:Value}:∀ {P:List Str} {vs:List Value} {i:Nat} {m:Str->Option Value},P.Nodup->P[i]?=some x->vs[i]?=some v->kindOf x≠some .local ->
  bindC kindOf (P.zip vs) m x=some v
 |[],_,_,_,_,h,_,_=>by simp at h
 |_::_,[],_,_,_,_,h,_=>by simp at h
 |p::P,w::vs,0,m,nd,h1,h2,hk=>by
  simp at h1 h2;subst h1;subst h2;show bindC kindOf ((p,w)::P.zip vs) m p=_;unfold bindC;rw [oK λv hv=>(AU.mp nd).1 (List.of_mem_zip hv).1,if_neg hk];simp
 |p::P,w::vs,i+1,m,nd,h1,h2,hk=>by
  show bindC kindOf ((p,w)::P.zip vs) m x=_;unfold bindC;exact oM (i:=i) (AU.mp nd).2 (by simpa using h1) (by simpa using h2) hk
def start (N:List Str)(vs:List V):St:=vs.map some++Cy (N.length-vs.length) none
def cxOf (CX:CXT)(P:AE)(w:World)(K:Aa)(mg:Str->Option Value)(base:Heap)(N:List Str)(qual:Str)(scope:Scope)(f:Addr)(cd:Value)(A:Around)(outer:List Env)(s:Shared)(H:Hp)(E:XK):Cx where
 prog:=P
 w:=w
 K:=K
 mg:=mg
 base:=base
 A:=A.deeper (envOfC qual scope s.heap.objs.size f cd)
 N:=N
 s₀:=s
 H₀:=H
 env:=envOfC qual scope s.heap.objs.size f cd
 outer:=outer
 stack:=envOfC qual scope s.heap.objs.size f cd::outer
 ex:=[]
 calm:=true
 fn:=λ_=>true
 pn:=[]
 xe:=λe s'=>wpAny (model P w) (A.deeper (envOfC qual scope s.heap.objs.size f cd)) (leaving (envOfC qual scope s.heap.objs.size f cd) e) (λ_ s''=>CX outer H s E e s'') (λe' s''=>CX outer H s E e' s'') s'
def rA {sc:Scope}{n:Nat}{x:Str}(h:sc.names.lookup x=some .cell):∃ c,(cellsFrom n sc.names []).lookup x=some c:=by
 have q:=PySem.W.cellsFrom_some sc.names n [] (.inl h);exact Dj.mp q
def vG {CX:CXT}{P:AE}{w:World}{K:Aa}{mg:Str->Option Value}{base:Heap}{N ps:List Str}{qual:Str}{scope:Scope}{f:Addr}{cd:Value}{A:Around}{outer:List Env}{s s1:Shared}{H:Hp}{E:XK}{us:List Value}{vs:List V}
  (S:FnScope N ps scope) (hd:A.handled=none) (e0:Env0 P w K mg base A outer s H) (hl:vs.length=ps.length) (r:Vals vs us)
  (x:InCallC s s.heap.objs.size (bindL (envOfC qual scope s.heap.objs.size f cd).kindOf (ps.zip us) λ_=>none) (cellsFrom (s.heap.objs.size+1) scope.names []) (bindC (envOfC qual scope s.heap.objs.size f cd).kindOf (ps.zip us) λ_=>none) s1) :
  Inv (cxOf CX P w K mg base N qual scope f cd A outer s H E) [] (start N vs) H s1:=by
 have hpl:ps.length<=N.length:=by have:=congrArg List.length S.pre;rw [Bn] at this;omega
 obtain ⟨h1,tk,rfl,hk⟩:=x.done;have noA:∀ b:Addr,b∉(cxOf CX P w K mg base N qual scope f cd A outer s H E).ex:=λb z=>absurd (show b∈([]:List Addr) from z) (by simp);refine ⟨⟨e0.mod,S.kind,rfl,rfl,Ak _,λy z c h1 h2=>?_,λy hy=>?_,λy c _ h=>?_,λ_=>hd,Around.frames_deeper e0.frames,.inr ⟨rfl,rfl⟩,λb z=>absurd z (noA b),e0.bs,e0.bsz,λb _ _=>noA b,λb z=>absurd z (noA b),e0.funs,e0.frf⟩,
  rfl,e0.bare,Un.kept hk,⟨_,x.toInCall.ns,λi y v h1 h2 h3=>?_⟩,λy c h=>⟨_,x.cell y c h⟩,e0.hok.fresh (Ak _),λy c h=>?_,λp hp=>absurd (show p∈([]:List (Addr×Obj)) from hp) (by simp),e0.hok.kept hk,?_⟩
 ·exact name_of_addr x.apart (Cj h1) (Cj h2)
 ·have hy:scope.names.lookup y=some .cell\/scope.names.lookup y=some .free:=hy
  rcases hy with hy|hy
  ·exact rA hy
  ·exact absurd rfl (S.nofree _ (Cj hy))
 ·exact Nat.le_of_lt (x.above y c (Cj h))
 ·have hi:i<vs.length:=by
   unfold start at h2
   by_cases hi:i<vs.length
   ·exact hi
   ·rw [BE (by simpa using hi)] at h2
    rw [Ee] at h2;split at h2<;>cases h2
  have ha:vs[i]?=some v:=by
   unfold start at h2;rw [Bs (by simpa using hi),Ah] at h2;cases e:vs[i]? with
   |none=>rw [e] at h2;cases h2
   |some a=>rw [e] at h2;cases h2;rfl
  obtain ⟨u,hu,rv⟩:=r.get ha;have hp:ps[i]?=some y:=by
   rw [<- S.pre,List.getElem?_take_of_lt (by omega)];exact h1
  have ndP:ps.Nodup:=by rw [<- S.pre];exact S.nd.sublist (List.take_sublist _ _)
  refine ⟨u,rv,?_⟩
  rcases S.par y (Ar hp) with k|k
  ·exact .inl ⟨k,oJ ndP hp hu k⟩
  ·obtain ⟨c,e⟩:=rA (n:=s.heap.objs.size+1) k
   refine .inr ⟨.inl k,c,e,?_⟩;have q:=x.cell y c e;rw [oM ndP hp hu (by show scope.names.lookup y≠_;rw [k];decide)] at q;exact q
 ·exact e0.hok.fresh (Nat.le_of_lt (x.above y c (Cj h)))
 ·unfold start
  show _=N.length;rw [Az,Ab,List.length_replicate];omega
def aFn {CX:CXT}{P:AE}{w:World}{K:Aa}{mg:Str->Option Value}{base:Heap}{k:Nat}{f:Addr}{name qual:Str}{params:Arguments}{body:List Stmt}{scope:Scope}{dV kV doc pm cdv ct oc:Value}{an od:Option Addr}
  {osl:Array (Option Value)} {N ps:List Str} {sp:Sp} (lk:K.lookup f=some ⟨oc,od,.func (Ce name qual params body scope dV kV doc pm an cdv ct),osl⟩) (hcd:Dy K cdv qual=true) (S:FnScope N ps scope)
  (len:∀ vs H Q E,sp vs H Q E->vs.length=ps.length)
  (hbody:∀ (A:Around) (outer:List Env) (s:Shared) (H:Hp) (vs:List V) (Q:VK) (E:XK),Room k (A.deeper (envOfC qual scope s.heap.objs.size f cdv))->sp vs H Q E ->
   ∃ t,PSs (cxOf CX P w K mg base N qual scope f cdv A outer s H E) body t/\t { nx:=λ_ H'=>Q .non H',rt:=Q } (start N vs) H) :
  FnOk P w K mg base CX (k+1) f (Ce name qual params body scope dV kV doc pm an cdv ct) ps sp:=by
 refine ⟨len,λA outer s H args us vs Q E hr e0 hb r hsp=>?_⟩;have hl:=len _ _ _ _ hsp;have KX:K.In s.heap:=e0.mod.kin.keeps λb o e=>(e0.bs b o e).1;have lim:s.heap.NoLimit:=e0.mod.nolimit.keeps λb o e=>(e0.bs b o e).1;have hkind:∀ y∈ps.zip us,scope.names.lookup y.1=some .local\/(scope.names.lookup y.1=some .cell/\((cellsFrom (s.heap.objs.size+1) scope.names []).lookup y.1).isSome=true):=λ⟨n,v⟩ hy=>by
  rcases S.par n (List.of_mem_zip hy).1 with q|q
  ·exact .inl q
  ·exact .inr ⟨q,PySem.W.cellsFrom_some _ _ _ (.inl q)⟩
 refine codeAny_call_function hr.depth (KX _ _ lk) rfl S.co S.gen rfl (PySem.W.codeRec_of KX hcd) (hb _ _ _ _ ?_);refine wpAny_newFunctionEnv_cells S.kind hkind λenv he s1 x=>?_;subst he;refine ⟨lim.keeps x.toInCall.keep,codeAny_func ?_⟩;obtain ⟨t,ht,hq⟩:=hbody A outer s H vs Q E (hr.deeper _) hsp;have I:Inv (cxOf CX P w K mg base N qual scope f cdv A outer s H E) [] (start N vs) H s1:=vG S hr.hd e0 hl r x;refine BZ (ht [] s1 (start N vs) H _ I hq) (λfl s' hs=>?_) λe s' hs=>hs;have fin:∀ {σ':St} {H':Hp} {v:V} {u:Value},Inv (cxOf CX P w K mg base N qual scope f cdv A outer s H E) [] σ' H' s'->RelV v u->Q v H'->CE outer P w H s Q u s':=
  λ{σ' H' v u} J rv q=>⟨v,H',J.os,J.bare,J.base,J.hok,rv,q⟩
 cases fl with
 |ret u=>
  obtain ⟨v,σ',H',J,rv,q⟩:=hs;exact fin J rv q
 |next=>
  obtain ⟨σ',H',J,q⟩:=hs;exact fin (v:=V.non) (u:=CP) J rfl q
 |brk=>
  obtain ⟨_,_,_,q⟩:=hs;exact CB q
 |cont=>
  obtain ⟨_,_,_,q⟩:=hs;exact CB q
section
variable {X:Cx}{x:Str}{p pos:Pos}{e:Expr}{es:List Expr}{t:TA}{id T:String}{r:List V->Hp->VK->Prop}
def tCB (r:List V->Hp->VK->Prop)(t:TA):TE:=λσ H Q=>t σ H λvs H1=>r vs H1 Q
def aS (hc:eT X (.builtin id) r)(hg:Gl X x)(hm:X.mg x=none)(hv:BU x=some (.builtin id))(ha:PA X (e::es) t)(hn:x ≠ "__name__":=by decide)(hdb:(x==("__debug__":Str))=false:=by decide)
  (he:AY (e::es) X.env=(false,eval e X.env)::AY es X.env:=by rfl) (hpl:(backTo pos (AY es X.env)).any (·.1)=false:=by rfl):PE X (.Call (.Name x p) (e::es) [] pos) (tCB r t):=by
 intro pins s σ H Q I h;refine CT (jV I hg hm hv ?_ hn hdb);exact PyProof.Rows.callWith_builtin1 (thn (ha pos pins s σ H _ I h) λus s1 ⟨vs,H1,I1,r1,q1⟩=>hc pins s1 σ H1 vs us Q I1 r1 q1) he hpl
def bP (hc:eT X (.type T) r)(hg:Gl X x)(hm:X.mg x=none)(hv:BU x=some (.type T))(ha:PA X (e::es) t)(hn:x ≠ "__name__":=by decide)(hdb:(x==("__debug__":Str))=false:=by decide)
  (he:AY (e::es) X.env=(false,eval e X.env)::AY es X.env:=by rfl) (hpl:(backTo pos (AY es X.env)).any (·.1)=false:=by rfl):PE X (.Call (.Name x p) (e::es) [] pos) (tCB r t):=by
 intro pins s σ H Q I h;refine CT (jV I hg hm hv ?_ hn hdb);exact CG (thn (ha pos pins s σ H _ I h) λus s1 ⟨vs,H1,I1,r1,q1⟩=>hc pins s1 σ H1 vs us Q I1 r1 q1) he hpl
end
end L2
namespace HT
open PySem PyProof.Rows
def lexLt:List Int->List Int->Bool
 |[],[]=>false
 |[],_::_=>true
 |_::_,[]=>false
 |x::xs,y::ys=>if x=y then lexLt xs ys else decide (x<y)
section
open PySem.SeqAt
open PySem.AutoSeq1 (wpAny_loadPart')
open PySem.MeetsSeq PySem.MeetsSeq2 PySem.MeetsSeq3
end
section
variable {prog:AE}{w:World}{A:Around}{E:Value->Shared->Prop}{s:Shared}
def cat_tup (ht:IsTup s.heap t vs.toArray)(hb:IsTup s.heap b ws.toArray)(hv:vs≠[])(h1:ws=[]->Q (.ref t) s)(h2:ws≠[]->Q (.ref s.heap.objs.size) { s with heap:=s.heap.push { cls:=.type "tuple",data:=.seq (vs++ws).toArray } })(hsz:vs.length+ws.length<=AB):wpAny (model prog w) A (Dh .Add (.ref t) (.ref b)) Q E s:=by
 obtain ⟨⟨cls,dd,data,sl⟩,ho,hc,n,hd⟩:=id ht;obtain ⟨⟨cls2,dd2,data2,sl2⟩,ho2,hc2,n2,hd2⟩:=id hb;simp only at hc hd hc2 hd2;subst hc hd hc2 hd2;have e:vs.toArray++ws.toArray=(vs++ws).toArray:=by simp
 by_cases hw:ws=[]
 ·exact concat_meets ⟨_,ho,rfl⟩ ⟨_,ho2,rfl⟩ noFill_tuple_add seq_tuple_add PySem.F.slot_tuple_add Eb (DX _ _)
   (tuple_addW1 t b vs.toArray ws.toArray n n2 dd dd2 sl sl2 (by simpa using hv) (by simp [hw])) ⟨ho,ho2,h1 hw⟩
 ·refine concat_meets ⟨_,ho,rfl⟩ ⟨_,ho2,rfl⟩ noFill_tuple_add seq_tuple_add PySem.F.slot_tuple_add Eb (DX _ _)
   (tuple_addW2 t b vs.toArray ws.toArray n n2 dd dd2 sl sl2 (by simpa using hv) (by simpa using hw) (by rw [Ay,Ay];exact hsz)) ⟨ho,ho2,?_⟩
  rw [e];exact h2 hw
def sIx (n d:Nat):Option Int->Nat
 |none=>d
 |some v=>if v<0 then (v+(n:Int)).toNat else min v.toNat n
end
end HT
namespace L2
open PySem PySem.Spec PyProof.Rows
abbrev TO:=St->Hp->(Option Int->Hp->Prop)->Prop
def PO (X:Cx)(e:Option Expr)(t:TO):Prop:=
 ∀ (pins:List (Addr×Obj)) (s:Shared) (σ:St) (H:Hp) (Q:Option Int->Hp->Prop),Inv X pins σ H s->t σ H Q ->
  wpAny (model X.prog X.w) X.A (evalPart e X.env) (λu s'=>∃ o H',Inv X pins σ H' s'/\IsPart u o/\Q o H') X.xe s
def aAw:TO:=λ_ H Q=>Q none H
def aF0 (t:TE):TO:=λσ H Q=>t σ H λx H1=>∃ i,x=.int i/\Q (some i) H1
def intsAre_of {ns:List Int}:∀ {us:List Value},Vals (ns.map V.int) us->IntsAre us ns:=by
 induction ns with
 |nil=>intro us r;rw [List.map_nil] at r;cases r;exact .nil
 |cons n ns ih=>
  intro us r;rw [Ao] at r;cases r with
  |cons r1 r2=>
   obtain ⟨t,e⟩:=r1;subst e;exact .cons n t (ih r2)
section
variable {X:Cx}{e:Expr}{te:TE}{lo hi:Option Expr}{tl th:TO}{pos p2:Pos}
def lZ:PO X none aAw:=by
 intro pins s σ H Q I h;rw [evalPart_none];exact AM ⟨none,H,I,.none,h⟩
def gJ (h:PE X e te):PO X (some e) (aF0 te):=by
 intro pins s σ H Q I hw;rw [evalPart_some];refine thn (h pins s σ H _ I hw) λu s1 ⟨x,H1,I1,r1,q1⟩=>?_;obtain ⟨i,rfl,q⟩:=q1;obtain ⟨t,rfl⟩:=r1;exact ⟨some i,H1,I1,.int i t,q⟩
def SlR (X:Cx)(r:V->Option Int->Option Int->Hp->VK->Prop):Prop:=
 ∀ (pins:List (Addr×Obj)) (s:Shared) (σ:St) (H:Hp) (x:V) (v vl vu:Value) (lo hi:Option Int) (sl:Addr) (Q:VK),Inv X pins σ H s->RelV x v->s.heap.IsSliceOf sl vl vu .none->IsPart vl lo->IsPart vu hi->r x lo hi H Q ->
  ∃ T id,typeLookup (.type T) "__getitem__" = pure (some (.builtin id))/\s.TypeIs v T/\wpAny (model X.prog X.w) X.A (getItem v (.ref sl)) (EP X pins σ Q) X.xe s
def tSl (r:V->Option Int->Option Int->Hp->VK->Prop)(te:TE)(tl th:TO):TE:=λσ H Q=>te σ H λx H1=>tl σ H1 λl H2=>th σ H2 λu H3=>r x l u H3 Q
def gW {r:V->Option Int->Option Int->Hp->VK->Prop}(hr:SlR X r)(he:PE X e te)(hl:PO X lo tl)(hu:PO X hi th):PE X (.Subscript e (.Slice lo hi none p2) pos) (tSl r te tl th):=by
 intro pins s σ H Q I h;refine Subscript_ (thn (he pins s σ H _ I h) λv s1 ⟨x,H1,I1,r1,q1⟩=>?_);refine wpAny_Slice (thn (hl pins s1 σ H1 _ I1 q1) λvl s2 ⟨l,H2,I2,pl,q2⟩=>thn (hu pins s2 σ H2 _ I2 q2) λvu s3 ⟨u,H3,I3,pu,q3⟩=>?_);rw [evalPart_none];refine AM ?_;have I4:Inv X pins σ H3 { s3 with heap:=s3.heap.push { cls:=.type "slice",data:=.fields #[vl,vu,.none] } }:=I3.kept (t':=s3.toks) λb ob q=>Av _ q;obtain ⟨T,id,hT,ht,hg⟩:=hr pins { s3 with heap:=s3.heap.push { cls:=.type "slice",data:=.fields #[vl,vu,.none] } } σ H3 x v vl vu l u s3.heap.objs.size Q I4 r1 (Heap.IsSliceOf.new ..) pl pu q3;show wpAny (model X.prog X.w) X.A (subscriptTail e (.Slice lo hi none p2) v (.ref s3.heap.objs.size)) (EP X pins σ Q) X.xe { s3 with heap:=s3.heap.push { cls:=.type "slice",data:=.fields #[vl,vu,.none] } };exact tail_any (ops:=[.ref s3.heap.objs.size,v]) ht hT hg (by with_unfolding_all rfl)
def cutV (xs:List V)(lo hi:Option Int):List V:=(xs.drop (HT.sIx xs.length 0 lo)).take (HT.sIx xs.length xs.length hi-HT.sIx xs.length 0 lo)
def kJ (xs:List V)(lo hi:Option Int):(cutV xs lo hi).length<=xs.length:=by
 unfold cutV;rw [Bn,List.length_drop];omega
def rSlT (K:Aa):V->Option Int->Option Int->Hp->VK->Prop:=λx lo hi H Q=>∃ a xs,x=.ref a/\SqT K H a xs /\
 ¬ (HT.sIx xs.length 0 lo=0/\HT.sIx xs.length xs.length hi=xs.length)/\∀ p,H p=none->Q (.ref p) (upd H p (.tup (cutV xs lo hi)))
def rLtT (K:Aa):R2:=λx y H Q=>∃ a b ns ms,x=.ref a/\y=.ref b/\SqT K H a (ns.map V.int)/\SqT K H b (ms.map V.int)/\Q (.bl (HT.lexLt ns ms)) H
def aEf (K:Aa):R2:=λx y H Q=>∃ a b xs ys,x=.ref a/\y=.ref b/\SqT K H a xs/\SqT K H b ys/\xs≠[]/\xs.length+ys.length<=AB /\
 (ys=[]->Q (.ref a) H)/\(ys≠[]->∀ p,H p=none->Q (.ref p) (upd H p (.tup (xs++ys))))
def Vals.nil_iff (r:Vals xs us):us=[]↔xs=[]:=by
 cases r with
 |nil=>simp
 |cons _ _=>simp
def aBv:OpR X (Dh .Add) (aEf X.K):=by
 intro pins s σ H x y v u Q I rx ry h;obtain ⟨a,b,xs,ys,rfl,rfl,ha,hb,hx,hz,q1,q2⟩:=h;cases rx;cases ry;obtain ⟨its,r1,p1,_⟩:=I.tuple ha;obtain ⟨its2,r2,p2,_⟩:=I.tuple hb;refine HT.cat_tup p1 p2 (λz=>hx (r1.nil_iff.mp z)) (λz=>⟨.ref a,H,I,rfl,q1 (r2.nil_iff.mp z)⟩) (λz=>?_) (by rw [<- r1.length,<- r2.length];exact hz);refine ⟨.ref s.heap.objs.size,_,I.laid (t':=s.toks) (o:=.tup (xs++ys)) (λb ob q=>Av _ q) (Ak _) ?_,rfl,q2 (λw=>z (r2.nil_iff.mpr w)) _ (I.hok.fresh (Ak _))⟩;exact ⟨⟨by rw [Az];exact hz,_,AK _ rfl,rfl⟩,_,r1.append r2,IsTup.new _ _⟩
end
def ixN (n:Nat)(i:Int):Option Nat:=if 0<=i then (if i<n then some i.toNat else none) else if -(n:Int)<=i then some (i+n).toNat else none
def atI {α:Type}(xs:List α)(i:Int):Option α:=(ixN xs.length i).bind λj=>xs[j]?
def aCu {n:Nat}{i:Int}{j:Nat}(h:ixN n i=some j):seqIndex? i n=some j/\j<n/\-(n:Int)<=i/\i<n:=by
 unfold ixN at h
 by_cases h0:0<=i
 ·rw [if_pos h0] at h
  by_cases h1:i<n
  ·rw [if_pos h1] at h
   have e:i.toNat=j:=AF h;exact ⟨by rw [seqIndex_of h0 h1,e],by omega,by omega,h1⟩
  ·rw [if_neg h1] at h;cases h
 ·rw [if_neg h0] at h
  by_cases h1:-(n:Int)<=i
  ·rw [if_pos h1] at h
   have e:(i+n).toNat=j:=AF h;exact ⟨by rw [seqIndex_neg (by omega) h1,e],by omega,h1,by omega⟩
  ·rw [if_neg h1] at h;cases h
def pM {α:Type}{xs:List α}{i:Int}{v:α}(h:atI xs i=some v):∃ j,seqIndex? i xs.length=some j/\xs[j]?=some v/\j<xs.length/\-(xs.length:Int)<=i/\i<xs.length:=by
 unfold atI at h;cases e:ixN xs.length i with
 |none=>rw [e] at h;cases h
 |some j=>
  rw [e] at h;obtain ⟨h1,h2,h3,h4⟩:=aCu e;exact ⟨j,h1,h,h2,h3,h4⟩
def iK {α:Type}{xs:List α}{j:Nat}{v:α}(h:xs[j]?=some v):atI xs (j:Int)=some v:=by
 have hj:j<xs.length:=(Ad.mp h).1;have e:ixN xs.length (j:Int)=some j:=by
  unfold ixN;rw [if_pos (by omega),if_pos (by omega)];simp
 unfold atI;rw [e];exact h
def zJ {α:Type}(xs:List α)(v:α):atI (xs++[v]) (-1)=some v:=by
 have hl:(xs++[v]).length=xs.length+1:=by simp
 have e:ixN (xs++[v]).length (-1)=some xs.length:=by
  unfold ixN;rw [hl,if_neg (by decide),if_pos (by omega)]
  congr 1
  omega
 unfold atI;rw [e];show (xs++[v])[xs.length]?=some v;simp
def aC8 (b:Expr):Prop:=∀ o i,subscripted b false o i=operate [o,i] (getItem o i)
def IxR (X:Cx)(r:R2):Prop:=
 ∀ (value slice:Expr) (pins:List (Addr×Obj)) (s:Shared) (σ:St) (H:Hp) (x y:V) (v u:Value) (Q:VK),Inv X pins σ H s->RelV x v->RelV y u->r x y H Q ->
  subscripted slice false v u=operate [v,u] (getItem v u)->wpAny (model X.prog X.w) X.A (subscriptTail value slice v u) (EP X pins σ Q) X.xe s
def MtR (X:Cx)(id:String)(r:V->List V->Hp->VK->Prop):Prop:=
 ∀ (pins:List (Addr×Obj)) (s:Shared) (σ:St) (H:Hp) (x:V) (xs:List V) (v:Value) (us:List Value) (Q:VK),Inv X pins σ H s->RelV x v->Vals xs us->r x xs H Q ->
  wpAny (model X.prog X.w) X.A (call (.builtin id) (v::us)) (EP X pins σ Q) X.xe s
section
variable {X:Cx}{a b:Expr}{ta tb:TE}{pos:Pos}
def cR {r:R2}(hr:IxR X r)(ha:PE X a ta)(hb:PE X b tb)(hs:aC8 b):PE X (.Subscript a b pos) (tOp r ta tb):=by
 intro pins s σ H Q I h;exact Subscript_ (binT ha hb I h λv u s2 x y H2 I2 rx ry q=>hr a b pins s2 σ H2 x y v u Q I2 rx ry q (hs _ _))
def rIxL (K:Aa):R2:=λx y H Q=>∃ p xs i v,x=.ref p/\y=.int i/\SqL K H p xs/\atI xs i=some v/\Q v H
def rIxT (K:Aa):R2:=λx y H Q=>∃ p xs i v,x=.ref p/\y=.int i/\SqT K H p xs/\atI xs i=some v/\Q v H
def rIxS:R2:=λx y H Q=>∃ z i c,x=.str z/\y=.int i/\z.length<=AB/\atI z.cps.toList i=some c/\Q (.str ⟨#[c]⟩) H
def dO:IxR X (rIxL X.K):=by
 intro value slice pins s σ H x y v u Q I rx ry h hs;obtain ⟨p,xs,i,z,rfl,rfl,hq,he,q⟩:=h;cases rx;obtain ⟨t,rfl⟩:=ry;obtain ⟨its,r,pl,hz⟩:=I.list hq;obtain ⟨j,h1,h2,h3,h4,h5⟩:=pM he;obtain ⟨w,ew,rw'⟩:=r.get h2;have hl:=r.length;have hn:=nS;have fin:EP X pins σ Q w s:=⟨z,H,I,rw',q⟩
 by_cases h0:0<=i
 ·have hj:i.toNat=j:=by
   rw [seqIndex_of h0 h5] at h1;exact AF h1
  exact item_listR pl.isList h0 (by omega) (by rw [hj];simpa using ew) fin hs
 ·have hj:(i+(its.toArray.size:Int)).toNat=j:=by
   rw [seqIndex_neg (by omega) h4] at h1;rw [Ay,<- hl];exact AF h1
  exact subscriptTail_builtinR (x:=w) pl.isList.typeIs slot_list_getitem.lookup
   (wpAny_getItem_list_neg (Q:=λr s'=>r=w/\EP X pins σ Q r s') pl.isList (by omega) (by rw [Ay]<;>omega) (by omega) (by rw [hj];simpa using ew) ⟨rfl,fin⟩) hs
def gY:IxR X (rIxT X.K):=by
 intro value slice pins s σ H x y v u Q I rx ry h hs;obtain ⟨p,xs,i,z,rfl,rfl,hq,he,q⟩:=h;cases rx;obtain ⟨t,rfl⟩:=ry;obtain ⟨its,r,pl,hz⟩:=I.tuple hq;obtain ⟨j,h1,h2,h3,h4,h5⟩:=pM he;obtain ⟨w,ew,rw'⟩:=r.get h2;have hl:=r.length;have hn:=nS;have fin:EP X pins σ Q w s:=⟨z,H,I,rw',q⟩;exact subscriptTail_builtinR (x:=w) pl.typeIs slot_tuple_getitem.lookup
  (getItem_tuple (j:=j) (Q:=λr s'=>r=w/\EP X pins σ Q r s') pl (by omega) (by omega) (by rw [Ay,<- hl];exact h1) (by simpa using ew) ⟨rfl,fin⟩) hs
def vE:IxR X rIxS:=by
 intro value slice pins s σ H x y v u Q I rx ry h hs;obtain ⟨z,i,c,rfl,rfl,hz,he,q⟩:=h;obtain ⟨t,rfl⟩:=rx;obtain ⟨t',rfl⟩:=ry;obtain ⟨j,h1,h2,h3,h4,h5⟩:=pM he;have hl:z.cps.toList.length=z.length:=by simp [Str.length]
 rw [hl] at h1 h4 h5;have hn:=nS;exact tail_any (typeIs_str s z t) slot_str_getitem.lookup (getItem_str (c:=c) (by
  have e1:decide (i < -(2^63:Int))=false:=decide_eq_false (by omega);have e2:decide (i ≥ 2^63)=false:=decide_eq_false (by omega);rw [e1,e2,Bool.or_false]) (by rw [h1];simpa using h2) ⟨.str ⟨#[c]⟩,H,I.tok _,⟨_,rfl⟩,q⟩) hs
def rIx (K:Aa):R2:=λx y H Q=>rIxL K x y H Q\/rIxT K x y H Q\/rIxS x y H Q
def rSetL:V->V->V->Hp->(Hp->Prop)->Prop:=λo i v H Q=>∃ p xs k j,o=.ref p/\i=.int k/\H p=some (.lst xs)/\ixN xs.length k=some j/\Q (upd H p (.lst (xs.set j v)))
def nJ (lo hi:Option Int)(n:Nat):(sliceBounds lo hi none n).1=((HT.sIx n 0 lo:Nat):Int)/\(sliceBounds lo hi none n).2.1=((HT.sIx n n hi:Nat):Int)/\(sliceBounds lo hi none n).2.2=1:=by
 refine ⟨?_,?_,rfl⟩
 ·cases lo with
  |none=>simp [sliceBounds,HT.sIx]
  |some i=>
   simp only [sliceBounds,HT.sIx,Option.getD_none,show (1:Int) > 0 by decide,if_true]
   by_cases h:i<0
   ·simp only [h,if_true]<;>omega
   ·simp only [h,if_false]<;>omega
 ·cases hi with
  |none=>simp [sliceBounds,HT.sIx]
  |some i=>
   simp only [sliceBounds,HT.sIx,Option.getD_none,show (1:Int) > 0 by decide,if_true]
   by_cases h:i<0
   ·simp only [h,if_true]<;>omega
   ·simp only [h,if_false]<;>omega
theorem lR (its:List Value)(lo hi:Option Int):slicePick its.toArray lo hi none=((its.drop (HT.sIx its.length 0 lo)).take (HT.sIx its.length its.length hi-HT.sIx its.length 0 lo)).toArray:=by
 obtain ⟨h1,h2,h3⟩:=nJ lo hi its.toArray.size;unfold slicePick;rw [h1,h2,h3];simp only [sliceRange_one,pick_run,Ay]<;>rfl
def rSlL (K:Aa):V->Option Int->Option Int->Hp->VK->Prop:=λx lo hi H Q=>∃ a xs,x=.ref a/\SqL K H a xs/\∀ p,H p=none->Q (.ref p) (upd H p (.lst (cutV xs lo hi)))
def aA7:SlR X (rSlL X.K):=by
 intro pins s σ H x v vl vu lo hi sl Q I rx hs pl pu h;obtain ⟨a,xs,rfl,hx,q⟩:=h;cases rx;obtain ⟨its,r,ht,hz⟩:=I.list hx;have hlen:=r.length;refine ⟨"list",_,slot_list_getitem.lookup,ht.isList.typeIs,?_⟩;refine wpAny_getItem_list_slice ht.isList hs pl pu .none (by simp) ?_ (by rw [Ay]<;>omega);rw [lR,<- hlen];refine ⟨.ref s.heap.objs.size,_,I.laid (t':=s.toks) (o:=.lst (cutV xs lo hi)) (λb ob q=>Av _ q) (Ak _) ?_,rfl,q _ (I.hok.fresh (Ak _))⟩;exact ⟨AX (kJ xs lo hi) hz,_,0,(r.drop (HT.sIx xs.length 0 lo)).take (HT.sIx xs.length xs.length hi-HT.sIx xs.length 0 lo),AK _ rfl⟩
def fK:V->Bool
 |.non=>true
 |.bl _=>true
 |.int _=>true
 |.str _=>true
 |_=>false
def eqV:V->V->Bool
 |.non,.non=>true
 |.bl a,.bl b=>a==b
 |.bl a,.int b=>(if a then 1 else 0)==b
 |.int a,.bl b=>a==(if b then 1 else 0)
 |.int a,.int b=>a==b
 |.str a,.str b=>a==b
 |_,_=>false
def aAl (ry:RelV y u)(rx:RelV x v)(fy:fK y=true)(fx:fK x=true):Bg A s u v (eqV y x):=by
 cases y with
 |non=>
  cases ry;cases x with
  |non=>cases rx;exact Bg.same _
  |bl b=>cases rx;exact Bg.none_bool b
  |int b=>obtain ⟨t,rfl⟩:=rx;exact Bg.none_int b t
  |str b=>obtain ⟨t,rfl⟩:=rx;exact Bg.none_str b t
  |_=>exact absurd (show false=true from fx) AH
 |bl a=>
  cases ry;cases x with
  |non=>cases rx;exact Bg.bool_none a
  |bl b=>cases rx;exact Bg.bool_bool a b
  |int b=>obtain ⟨t,rfl⟩:=rx;exact Bg.bool_int a b t
  |str b=>obtain ⟨t,rfl⟩:=rx;exact Bg.bool_str a b t
  |_=>exact absurd (show false=true from fx) AH
 |int a=>
  obtain ⟨t',rfl⟩:=ry;cases x with
  |non=>cases rx;exact Bg.int_none a t'
  |bl b=>cases rx;exact Bg.int_bool a t' b
  |int b=>obtain ⟨t,rfl⟩:=rx;exact Bg.int_int a t' b t
  |str b=>obtain ⟨t,rfl⟩:=rx;exact Bg.int_str a t' b t
  |_=>exact absurd (show false=true from fx) AH
 |str a=>
  obtain ⟨t',rfl⟩:=ry;cases x with
  |non=>cases rx;exact Bg.str_none a t'
  |bl b=>cases rx;exact Bg.str_bool a t' b
  |int b=>obtain ⟨t,rfl⟩:=rx;exact Bg.str_int a t' b t
  |str b=>obtain ⟨t,rfl⟩:=rx;exact Bg.str_str a t' b t
  |_=>exact absurd (show false=true from fx) AH
 |_=>exact absurd (show false=true from fy) AH
def eqU (x:V)(u:Value):Bool:=match u with
 |.none=>eqV .non x
 |.bool b=>eqV (.bl b) x
 |.int i _=>eqV (.int i) x
 |.str z _=>eqV (.str z) x
 |_=>false
theorem aAk (r:RelV y u)(f:fK y=true):eqU x u=eqV y x:=by
 cases y with
 |non=>cases r;rfl
 |bl b=>cases r;rfl
 |int i=>obtain ⟨t,rfl⟩:=r;rfl
 |str z=>obtain ⟨t,rfl⟩:=r;rfl
 |_=>exact absurd (show false=true from f) AH
theorem pN :∀ {xs:List V} {us:List Value},Vals xs us->xs.all fK=true->us.any (eqU x)=xs.any λy=>eqV y x
 |_,_,.nil,_=>rfl
 |y::xs,u::us,.cons r t,f=>by
  rw [List.all_cons,Cq] at f;rw [List.any_cons,List.any_cons,aAk r f.1,pN t f.2]
theorem mI (rx:RelV x v)(fx:fK x=true):∀ {xs:List V} {us:List Value},Vals xs us->xs.all fK=true->∀ u∈us,Bg A s u v (eqU x u)
 |_,_,.nil,_=>λu hu=>by cases hu
 |y::xs,u::us,.cons r t,f=>λu' hu=>by
  rw [List.all_cons,Cq] at f
  rcases Ae.mp hu with rfl|hu
  ·rw [aAk r f.1];exact aAl r rx f.1 fx
  ·exact mI rx fx t f.2 u' hu
def inV (x:V)(xs:List V):Bool:=xs.any λy=>eqV y x
def rIn (K:Aa)(neg:Bool):R2:=λx y H Q=>∃ p xs,y=.ref p/\(SqL K H p xs\/SqT K H p xs)/\fK x=true/\xs.all fK=true/\Q (.bl (if neg then !inV x xs else inV x xs)) H
def uB:OpR X (Bi .In) (rIn X.K false):=by
 intro pins s σ H x y v u Q I rx ry h;obtain ⟨p,xs,rfl,hq,fx,fs,q⟩:=h;cases ry
 rcases hq with hq|hq
 ·obtain ⟨its,r,pl,hz⟩:=I.list hq
  refine SeqAt.in_listAt (eqU x) pl.isList (λw hw=>mI rx fx r fs w (by simpa using hw)) ⟨.bl _,H,I,rfl,?_⟩;rw [show its.toArray.any (eqU x)=its.any (eqU x) by simp,pN r fs];exact q
 ·obtain ⟨its,r,pl,hz⟩:=I.tuple hq
  refine SeqAt.in_tupleAt (eqU x) pl (λw hw=>mI rx fx r fs w (by simpa using hw)) ⟨.bl _,H,I,rfl,?_⟩;rw [show its.toArray.any (eqU x)=its.any (eqU x) by simp,pN r fs];exact q
def bA:eT X (.builtin "len") (λxs H Q=>∃ p ys,xs=[.ref p]/\(SqL X.K H p ys\/SqT X.K H p ys)/\Q (.int ys.length) H):=by
 intro pins s σ H xs us Q I r h;obtain ⟨p,ys,rfl,hq,q⟩:=h;obtain ⟨u,rfl,rx⟩:=vals1 r;cases rx;have hn:=nS
 rcases hq with hq|hq
 ·obtain ⟨its,r',pl,hz⟩:=I.list hq
  have hlen:=r'.length;exact Calls.call_len_list pl.isList (by simp only [Ay]<;>omega) ⟨.int ys.length,H,I.tok _,⟨s.toks+1,by rw [Ay,hlen]⟩,q⟩
 ·obtain ⟨its,r',pl,hz⟩:=I.tuple hq
  have hlen:=r'.length;exact len_tuple pl (by simp only [Ay]<;>omega) ⟨.int ys.length,H,I.tok _,⟨s.toks+1,by rw [Ay,hlen]⟩,q⟩
def oG:eT X (.builtin "len") (λxs H Q=>∃ z,xs=[.str z]/\z.length<=AB/\Q (.int z.length) H):=by
 intro pins s σ H xs us Q I r h;obtain ⟨z,rfl,hz,q⟩:=h;obtain ⟨u,rfl,t,rfl⟩:=vals1 r;have hn:=nS;exact len_str (by omega) ⟨.int z.length,H,I.tok _,⟨_,rfl⟩,q⟩
def iQ:eT X (.type "list") (λxs H Q=>∃ p ys,xs=[.ref p]/\(SqL X.K H p ys\/SqT X.K H p ys)/\∀ l,H l=none->Q (.ref l) (upd H l (.lst ys))):=by
 intro pins s σ H xs us Q I r h;obtain ⟨p,ys,rfl,hq,q⟩:=h;obtain ⟨u,rfl,rx⟩:=vals1 r;cases rx;have fin:∀ (its:List Value),Vals ys its->ys.length<=AB->∀ (h':Heap) (c':Nat),(∀ b o',s.heap.get? b=some o'->h'.get? b=some o') ->
   h'.get? s.heap.objs.size=some { cls:=.type "list",dict:=none,data:=.seq its.toArray c',slots:=#[] }->EP X pins σ Q (.ref s.heap.objs.size) { s with heap:=h' }:=λits r' hz h' c' kp e=>
  ⟨.ref s.heap.objs.size,_,I.laid (t':=s.toks) kp (Ak _) (show ObjOk X.prog X.w _ h' _ (.lst ys) from ⟨hz,its,c',r',e⟩),rfl,q _ (I.hok.fresh (Ak _))⟩
 rcases hq with hq|hq
 ·obtain ⟨its,r',pl,hz⟩:=I.list hq
  have hlen:=r'.length;obtain ⟨o,ho,hc,n,hd⟩:=pl.isList;exact call_list_seq p (.inl rfl) ho hc hd (λh' c' kp e=>fin its r' hz h' c' kp e) (by simp only [Ay]<;>omega)
 ·obtain ⟨its,r',pl,hz⟩:=I.tuple hq
  have hlen:=r'.length;obtain ⟨o,ho,hc,n,hd⟩:=pl;exact call_list_seq p (.inr rfl) ho hc hd (λh' c' kp e=>fin its r' hz h' c' kp e) (by simp only [Ay]<;>omega)
def tyV (K:Aa)(T:String)(x:V)(H:Hp):Prop:=match x with
 |.str _=>T = "str"
 |.int _=>T = "int"
 |.ref p=>(T = "list" /\ ∃ xs,SqL K H p xs)\/(T = "tuple" /\ ∃ o,K.lookup p=some o/\o.cls=.type "tuple" /\ o.dict=none) \/
   (T = "dict" /\ ((∃ kvs,H p=some (.dK kvs))\/∃ kvs,H p=some (.dT kvs)))\/(T = "set" /\ ∃ S n,H p=some (.set S n))
 |_=>False
def zQ {σ:St}(I:Inv X pins σ H s)(r:RelV x v)(ty:tyV X.K T x H) :
  s.TypeIs v T/\∀ a,v=.ref a->∃ ob,s.heap.get? a=some ob/\ob.dict=none:=by
 cases x with
 |str z=>
  obtain ⟨t,rfl⟩:=r;cases (show T = "str" from ty);exact ⟨typeIs_str s z t,λ_ e=>nomatch e⟩
 |int i=>
  obtain ⟨t,rfl⟩:=r;cases (show T = "int" from ty);exact ⟨typeIs_int s i t,λ_ e=>nomatch e⟩
 |ref p=>
  cases r
  rcases ty with ⟨rfl,xs,hq⟩|⟨rfl,o,hk,hc,hd⟩|⟨rfl,hk⟩|⟨rfl,S,n,hk⟩
  ·obtain ⟨its,_,pl,_⟩:=I.list hq
   refine ⟨pl.isList.typeIs,λa e=>?_⟩;cases e;obtain ⟨o,n,e,c,hd,_⟩:=pl;exact ⟨o,e,hd⟩
  ·refine ⟨⟨o,I.kIn p o hk,hc⟩,λa e=>?_⟩
   cases e;exact ⟨o,I.kIn _ o hk,hd⟩
  ·have z:∃ o,s.heap.get? p=some o/\o.ExactDict:=by
    rcases hk with ⟨kvs,hk⟩|⟨kvs,hk⟩
    ·obtain ⟨_,_,_,_,o,_,_,e,ex,_⟩:=I.hok p _ hk
     exact ⟨o,e,ex⟩
    ·obtain ⟨_,_,_,_,o,_,_,e,ex,_⟩:=I.hok p _ hk
     exact ⟨o,e,ex⟩
   obtain ⟨o,e,ex⟩:=z;refine ⟨⟨o,e,ex.1⟩,λa e2=>?_⟩;cases e2;exact ⟨o,e,ex.2.1⟩
  ·obtain ⟨o,_,_,_,e,ex,_⟩:=I.hok p _ hk
   refine ⟨⟨o,e,ex.1⟩,λa e2=>?_⟩;cases e2;exact ⟨o,e,ex.2.1⟩
 |_=>exact CB ty
def tBM0 (K:Aa)(T:String)(r:V->List V->Hp->VK->Prop)(to:TE):TE:=λσ H Q=>to σ H λx H1=>tyV K T x H1/\r x [] H1 Q
def tBM (K:Aa)(T:String)(r:V->List V->Hp->VK->Prop)(to:TE)(t:TA):TE:=λσ H Q=>to σ H λx H1=>tyV K T x H1/\t σ H1 λxs H2=>r x xs H2 Q
variable {o e:Expr}{es:List Expr}{to:TE}{t:TA}{name:Str}{apos cpos:Pos}{T id:String}{r:V->List V->Hp->VK->Prop}
def qQ (pa:PlainAttrs T)(slot:Slot T name id)(hty:typeOf (.builtin id)=pure (.type "method_descriptor"))(hm:MtR X id r)(ho:PE X o to)
  (hbase:Di o name X.env (eval o X.env)=eval o X.env:=by rfl) (hline:(apos.endLine==cpos.line)=true:=by rfl):PE X (.Call (.Attribute o name apos) [] [] cpos) (tBM0 X.K T r to):=by
 intro pins s σ H Q I h;refine wpAny_Call_method0_late hbase hline (thn (ho pins s σ H _ I h) λv s1 ⟨x,H1,I1,r1,ty,q1⟩=>?_);obtain ⟨h1,h2⟩:=zQ I1 r1 ty;exact ⟨T,id,pa,slot,hty,h1,h2,Cm rfl (PySem.evalArgs_none (hm pins s1 σ H1 x [] v [] Q I1 r1 .nil q1))⟩
def mE (pa:PlainAttrs T)(slot:Slot T name id)(hty:typeOf (.builtin id)=pure (.type "method_descriptor"))(hm:MtR X id r)(ho:PE X o to)(ha:PA X (e::es) t)
  (hbase:Di o name X.env (eval o X.env)=eval o X.env:=by rfl)
  (hfew:((backTo cpos (AY (e::es) X.env)).all (λx=>!x.1)&&(backToKw cpos (De [] X.env)).all (λx=>x.1.isSome)
   && decide ((e::es).length+([]:List Keyword).length+(if ([]:List Keyword).isEmpty then 0 else 1)<30))=true:=by rfl)
  (hline:(apos.endLine==cpos.line)=true:=by rfl) (hs:AY (e::es) X.env=(false,eval e X.env)::AY es X.env:=by rfl) (hplain:(backTo cpos (AY es X.env)).any (·.1)=false:=by rfl) :
  PE X (.Call (.Attribute o name apos) (e::es) [] cpos) (tBM X.K T r to t):=by
 intro pins s σ H Q I h;refine wpAny_Call_method_late hbase hfew hline rfl (thn (ho pins s σ H _ I h) λv s1 ⟨x,H1,I1,r1,ty,q1⟩=>?_);obtain ⟨h1,h2⟩:=zQ I1 r1 ty;refine ⟨T,id,pa,slot,hty,h1,h2,?_⟩;have hA:=ha cpos pins s1 σ H1 _ I1 q1;rw [hs] at hA ⊢;refine Cm (by show (false||(backTo cpos (AY es X.env)).any (·.1))=false;rw [hplain]<;>rfl) (CZ ?_);exact thn hA λus s2 ⟨vs,H2,I2,r2,q2⟩=>hm pins s2 σ H2 x vs v us Q I2 r1 r2 q2
end
def MtM (X:Cx)(id:String)(r:V->List V->Hp->VK->Prop):Prop:=
 ∀ (pins:List (Addr×Obj)) (s:Shared) (σ:St) (H:Hp) (x:V) (xs:List V) (v:Value) (us:List Value) (Q:VK),Inv X pins σ H s->RelV x v->Vals xs us->r x xs H Q ->
  wpAny (model X.prog X.w) X.A (call (.builtin id) (v::us)) (EP X pins σ Q) X.xe s
def Vals.one:∀ {x:V} {us:List Value},Vals [x] us->∃ u,us=[u]/\RelV x u
 |_,_,.cons r .nil=>⟨_,rfl,r⟩
def Vals.zero:∀ {us:List Value},Vals [] us->us=[]
 |_,.nil=>rfl
def Vals.dropLast (h:Vals xs us):Vals xs.dropLast us.dropLast:=by
 induction h with
 |nil=>exact .nil
 |cons r t ih=>
  cases t with
  |nil=>exact .nil
  |cons q t'=>exact .cons r ih
theorem rV {α:Type}(l:List α):l.eraseIdx (l.length-1)=l.dropLast:=by
 induction l with
 |nil=>rfl
 |cons a r ih=>
  cases r with
  |nil=>rfl
  |cons b r=>
   have e:(a::b::r).length-1=((b::r).length-1)+1:=by
    have h1:(a::b::r).length=r.length+2:=rfl;have h2:(b::r).length=r.length+1:=rfl;omega
   rw [e,List.eraseIdx_cons_succ,ih]
   all_goals rfl
section
variable {X:Cx}{pins:List (Addr×Obj)}{σ:St}{H:Hp}{s:Shared}{l b:Addr}{xs ys zs:List V}
def Inv.lset {its its':List Value}{n:Nat}{f:Array Value->Array Value}{t':Nat}(I:Inv X pins σ H s)(hH:H l=some (.lst xs))
  (e:s.heap.get? l=some { cls:=.type "list",data:=.seq its.toArray n }) (hf:f its.toArray=its'.toArray) (hv:Vals ys its') (hz:ys.length<=AB) :
  Inv X pins σ (upd H l (.lst ys)) { s with heap:=s.heap.update l (Dr f),toks:=t' }:=by
 have q:=PySem.IsL.update e f;rw [hf] at q;refine I.write (x:=l) (e:=l) (by rw [hH];exact trivial) (.inl rfl) (λb' u hb hu=>(Bm s.heap (Dr f) (Au hb)).trans hu) ⟨_,q⟩ ?_;exact ⟨hz,its',_,hv,q⟩
def Inv.lnew {t':Nat}(I:Inv X pins σ H s)(hv:Vals ys its)(hz:ys.length<=AB) :
  Inv X pins σ (upd H s.heap.objs.size (.lst ys)) { s with heap:=s.heap.push { cls:=.type "list",data:=.seq its.toArray },toks:=t' }:=
 I.laid (λ_ _ q=>Av _ q) (Ak _) ⟨hz,its,0,hv,AK _ rfl⟩
def Inv.fresh (I:Inv X pins σ H s):H s.heap.objs.size=none:=I.hok.fresh (Ak _)
def Inv.lstM (I:Inv X pins σ H s)(hH:H l=some (.lst xs)):xs.length<=AB/\∃ (its:List Value) (n:Nat),Vals xs its/\xs.length=its.length/\s.heap.get? l=some { cls:=.type "list",data:=.seq its.toArray n }:=by
 obtain ⟨z,its,n,r,e⟩:=I.hok l _ hH;exact ⟨z,its,n,r,r.length,e⟩
end
section
variable {X:Cx}
def aBm:V->List V->Hp->VK->Prop:=λx vs H Q=>∃ l xs y,x=.ref l/\vs=[y]/\H l=some (.lst xs)/\xs.length<AB/\Q .non (upd H l (.lst (xs++[y])))
def dB:MtM X "list.append" aBm:=by
 intro pins s σ H x vs v us Q I rx rv h;obtain ⟨l,xs,y,rfl,rfl,hH,hz,q⟩:=h;cases rx;obtain ⟨u,rfl,ru⟩:=rv.one;obtain ⟨z,its,n,r,hl,e⟩:=I.lstM hH;refine call_meets F.slot_list_append ⟨_,e,rfl⟩ F.entry_list_append (F.args_list_append_2 _ _) (PySem.list_append l its.toArray n u (by rw [Ay];omega)) ⟨e,?_⟩;refine ⟨.non,_,I.lset (its':=its++[u]) hH e (by simp) (r.append (.cons ru .nil)) ?_,rfl,q⟩;rw [Az,List.length_singleton];omega
def rExtend:V->List V->Hp->VK->Prop:=λx vs H Q=>∃ l b xs zs,x=.ref l/\vs=[.ref b]/\H l=some (.lst xs)/\H b=some (.lst zs)/\xs.length+zs.length<=AB/\Q .non (upd H l (.lst (xs++zs)))
def rPop:V->List V->Hp->VK->Prop:=λx vs H Q=>∃ l xs y,x=.ref l/\vs=[]/\H l=some (.lst xs)/\xs[xs.length-1]?=some y/\Q y (upd H l (.lst xs.dropLast))
def qT:MtM X "list.pop" rPop:=by
 intro pins s σ H x vs v us Q I rx rv h;obtain ⟨l,xs,y,rfl,rfl,hH,hy,q⟩:=h;cases rx;have hus:=rv.zero;subst hus;obtain ⟨z,its,n,r,hl,e⟩:=I.lstM hH;obtain ⟨u,hu,ru⟩:=r.get hy;have hy':its.toArray[its.toArray.size-1]?=some u:=by
  show its.toArray[its.length-1]?=some u;rw [<- BI,<- hl];exact hu
 refine call_meets F.slot_list_pop ⟨_,e,rfl⟩ F.entry_list_pop (F.args_list_pop_1 _) (MeetsSeq.list_pop_last l its.toArray n u hy' (by rw [Ay];omega)) ⟨e,?_⟩;refine ⟨y,_,I.lset (its':=its.dropLast) hH e ?_ r.dropLast ?_,ru,q⟩
 ·show its.toArray.eraseIdxIfInBounds (its.toArray.size-1)=its.dropLast.toArray
  rw [Ay,List.eraseIdxIfInBounds_toArray,rV]
 ·rw [List.length_dropLast]
  omega
def rPopAt:V->List V->Hp->VK->Prop:=λx vs H Q=>∃ l xs i k y,x=.ref l/\vs=[.int i]/\H l=some (.lst xs)/\-(2^63)<=i/\i<2^63/\seqIndex? i xs.length=some k/\xs[k]?=some y/\Q y (upd H l (.lst (xs.eraseIdx k)))
def rReverse:V->List V->Hp->VK->Prop:=λx vs H Q=>∃ l xs,x=.ref l/\vs=[]/\H l=some (.lst xs)/\Q .non (upd H l (.lst xs.reverse))
def rClear:V->List V->Hp->VK->Prop:=λx vs H Q=>∃ l xs,x=.ref l/\vs=[]/\H l=some (.lst xs)/\Q .non (upd H l (.lst []))
def rCat:R2:=λx y H Q=>∃ l b xs zs,x=.ref l/\y=.ref b/\H l=some (.lst xs)/\H b=some (.lst zs)/\xs.length+zs.length<=AB/\∀ p,H p=none->Q (.ref p) (upd H p (.lst (xs++zs)))
def aEt:OpR X (Dh .Add) rCat:=by
 intro pins s σ H x y v u Q I rx ry h;obtain ⟨l,b,xs,zs,rfl,rfl,hH,hB,hz,q⟩:=h;cases rx;cases ry;obtain ⟨z,its,n,r,hl,e⟩:=I.lstM hH;obtain ⟨z2,its2,n2,r2,hl2,e2⟩:=I.lstM hB;refine PySem.P.add_list e e2 ?_ (by rw [Ay,Ay];omega);have ea:its.toArray++its2.toArray=(its++its2).toArray:=by simp
 rw [ea];exact ⟨.ref _,_,I.lnew (t':=s.toks) (r.append r2) (by rw [Az];omega),rfl,q _ I.fresh⟩
def rRep:R2:=λx y H Q=>∃ l k xs,x=.ref l/\y=.int k/\H l=some (.lst xs)/\-(2^63)<=k/\k<2^63/\xs.length*k.toNat<=AB /\
 ∀ p,H p=none->Q (.ref p) (upd H p (.lst (Cy k.toNat xs).flatten))
end
section
variable {prog:AE}{w:World}{A:Around}{E:Value->Shared->Prop}{s:Shared}
set_option maxRecDepth 100000 in
end
section
variable {X:Cx}
end
end L2
namespace Att
open PySem PySem.W PySem.Calls PyProof.Rows
def jZ :∀ (ns:List Int) (vs:List Value),WellAll P h vs (ns.map WData.int)->IntsAre vs ns:=by
 intro ns
 induction ns with
 |nil=>
  intro vs w;rw [List.map_nil] at w;cases w;exact .nil
 |cons n ns ih=>
  intro vs w;rw [Ao] at w;cases w with
  |cons a b=>
   cases a;exact .cons _ _ (ih _ b)
def tM {l:OpenLaw}{n:Nat}(hn:l.most=some n){P:Params}{h:Heap}{args:List WData}{vals:List Value}
  (hpre:l.row.toRowW.claim.pre args=true) (hwl:WellAll P h vals args) :
  ∃ a vs ns,vals=[AZ a]/\args=[WData.list (ns.map WData.int)]/\h.get? a=some { cls:=.type "list",data:=.seq vs.toArray }/\IntsAre vs ns/\ns.length<=n:=by
 have hsh:WShape.hasAll [] args [.list .int]=true:=(pre_splitW hpre).1;have hc:l.pre.holds [] { args:=args }=true:=(pre_splitW hpre).2;obtain ⟨d,r,rfl,h1,h2⟩:=hasAllW_cons hsh;obtain rfl:=hasAllW_nil h2;obtain ⟨xs,rfl,h3⟩:=hasW_list h1;obtain ⟨ns,rfl⟩:=items_int h3;have hlen:ns.length<=n:=by
  unfold OpenLaw.pre at hc;have h4:(WTm.not (.lt (.lit (.int (n:Int))) (.len (.arg 0)))).holds [] { args:=[.list (ns.map .int)] }=true:=by
   have h4:=(holds_andW hc).1;rw [hn] at h4;exact h4
  have h5:=condW_of h4 (w_not (w_lt w_lit (w_len_list (w_arg rfl))));rw [Ab] at h5;refine Nat.le_of_not_lt λq=>?_;have q':(n:Int)<((ns.length:Nat):Int):=by omega
  first
   |(rw [decide_eq_true q'] at h5;exact absurd h5 (by decide))
   |(simp at h5;omega)
 cases hwl with
 |cons w1 w2=>
  cases w2;cases w1 with
  |list ho hall=>exact ⟨_,_,ns,rfl,rfl,ho,jZ ns _ hall,hlen⟩
def tU (l:OpenLaw)(args:List WData):l.row.toRowW.claim.post args (.bool true) args=true:=
 postW_of (r:=l.row.toRowW) (X:=(true==true))
  (show WShape.has [] (.bool true) .bool=true by first|rfl|decide|simp [WShape.has,WShape.arms,WShape.armsAll])
  (show (WTm.eq .res (.lit (.bool true))).value [] { args:=args,res:=some (.bool true),after:=args }=some (.bool (true==true)) from w_eq_bool (w_res rfl) w_lit) rfl
def attach_call {l:OpenLaw}{n:Nat}{q:AE}{loose:List Str}{XP:(Str->Option Value)->Heap->Prop}{YP:World->Heap->Prop}{d:DefRec}
  (hn:l.most=some n) (hdf:d.params.defaults=[])
  (call:∀ (w:World) (s₀ s₁:Shared) (mg mb:Str->Option Value) (fa:Addr) (o:Obj) (pm cd doc:Value) (a:Addr) (vs:List Value) (ns:List Int),
   Ground q loose [] XP w s₀ mg mb s₁.heap->YP w s₁.heap ->
   s₁.heap.get? fa=some o->o.data=.func (docDef d.name d.params d.body d.scope pm cd doc)->s₁.heap.CodeRec cd d.name->mg d.name=some (.ref fa) ->
   s₁.heap.get? a=some { cls:=.type "list",data:=.seq vs.toArray }->IntsAre vs ns->ns.length<=n->s₁.gens=#[] ->
   DP (model l.prog w) callerA (.call (.ref fa) ⟨[.ref a],[]⟩) (λr s'=>r=.ok (.ret (.bool true))/\OldK s₁.heap s'.heap/\s'.os=s₁.os/\AllBare s'.gens) s₁) :
  WalkO q loose XP YP l.row.toRowW d [] (λf vs=>PySem.call f vs):=by
 intro w s₀ s₁ mg mb G Y fa o pm cd doc dV kV ho hd hcd hD hmg hg args vals as hpre hlay hrd hwl hlo;obtain rfl:dV=.none:=Dflts.none hD hdf;obtain rfl:kV=.none:=Dflts.noKw hD;obtain ⟨a,vs,ns,rfl,rfl,hobj,hints,hlen⟩:=tM hn hpre hwl;refine enter_call (codeAny_mono (call w s₀ s₁ mg mb fa o pm cd doc a vs ns G Y ho (fd_plain hd) hcd hmg hobj hints hlen hg) λr s' hq=>?_);obtain ⟨rfl,h2,h3,h4⟩:=hq;exact ⟨.inl ⟨.bool true,.bool true,[],rfl,λ_=>rfl,.bool true,tU l _,λ_=>⟨BW.nil,λ_ hm=>(nomatch hm)⟩⟩,h2,h3,h4⟩
section
variable {prog:AE}{w:World}{A:Around}{E:Value->Shared->Prop}{s:Shared}{K:Frag}
def noObjs (h:Heap):Heap:={ h with objs:=#[] }
def ledger (h:Heap)(L d:Addr):List (Addr×Obj):=(Bl h.objs.size).filterMap λa=>if a=L\/a=d then none else (h.get? a).map λo=>(a,o)
end
end Att
namespace L2
open PySem PySem.Spec PyProof.Rows
theorem mZ:∀ {vs:List Value} {ns:List Int},IntsAre vs ns->Vals (ns.map V.int) vs
 |_,_,.nil=>.nil
 |_,_,.cons n t h=>.cons ⟨t,rfl⟩ (mZ h)
def Only (H:Hp):Prop:=∀ b,H b=none\/∃ o xs,H b=some (.frz o (.lst xs))
def yS {P:AE}{w:World}{K:Aa}{mg mb:Str->Option Value}{CX:CXT}{k:Nat}{fa a:Addr}{fd:Bj}{x:Str}{sp:Sp}{s₁:Shared}{vs:List Value}{ns:List Int}
  (KX:K.In s₁.heap) (hns:s₁.heap.Ns Aq mg) (hb:s₁.heap.Ns builtinsNs mb) (hbb:∀ x:Str,x ≠ "__name__" -> mb x=BU x) (hlim:s₁.heap.NoLimit) (hg:s₁.gens=#[])
  (ha:s₁.heap.get? a=some { cls:=.type "list",data:=.seq vs.toArray }) (hi:IntsAre vs ns) (hl:ns.length<=AB) (hr:Room k callerA)
  (F:∀ base:Heap,K.In base->base.Ns Aq mg->FnOk P w K mg base CX k fa fd [x] sp) (hbind:∀ (s:Shared) (u:Value),BindsTo s fd ⟨[u],[]⟩ [(x,u)])
  (hsp:∀ H:Hp,Only H->SqL K H a (ns.map V.int)->sp [.ref a] H (λv _=>v=.bl true) λ_ _ _=>False)
  (hCX:∀ H e s',CX [] H s₁ (λ_ _ _=>False) e s'->False) :
  DP (model P w) callerA (.call (.ref fa) ⟨[.ref a],[]⟩) (λr s'=>r=.ok (.ret (.bool true))/\OldK s₁.heap s'.heap/\s'.os=s₁.os/\AllBare s'.gens) s₁:=by
 have rv:=mZ hi;have lenV:=hi.length;have core:∀ H:Hp,Only H->SqL K H a (ns.map V.int)->HOk P w H s₁.heap->(∀ b,H b≠none->b=a)->(H a≠none->K.lookup a=none) ->
   DP (model P w) callerA (.call (.ref fa) ⟨[.ref a],[]⟩) (λr s'=>r=.ok (.ret (.bool true))/\OldK s₁.heap s'.heap/\s'.os=s₁.os/\AllBare s'.gens) s₁:=by
  intro H hO hS hok hA hK;have base_of:∀ {b:Addr} {o:Obj},s₁.heap.get? b=some o->H b=none->(hidT s₁.heap H).get? b=some o:=λe n=>yY e n;have noA:∀ {b:Addr} {o:Obj} {es:Array DictEntry} {ep:Nat},s₁.heap.get? b=some o->o.data=.dict es ep->H b=none:=λ{b o es ep} e d=>by
   cases q:H b with
   |none=>rfl
   |some u=>
    have e':b=a:=hA b (by rw [q];simp);subst e';rw [ha] at e;cases e;have d':Data.seq vs.toArray _=Data.dict es ep:=d;cases d'
  have nsK:∀ {b:Addr} {m:Str->Option Value},s₁.heap.Ns b m->(hidT s₁.heap H).Ns b m:=λ{b m} ⟨o,es,ep,e,d,r⟩=>⟨o,es,ep,base_of e (noA e d),d,r⟩;have hKb:K.In (hidT s₁.heap H):=λb o e=>base_of (KX b o e) (by
   cases q:H b with
   |none=>rfl
   |some u=>
    have e':b=a:=hA b (by rw [q];simp);subst e';rw [hK (by rw [q];simp)] at e;cases e)
  have hM:Mod K mg (hidT s₁.heap H):=⟨hKb,nsK hns,⟨mb,nsK hb,hbb⟩,let ⟨mc,h1,h2⟩:=hlim;⟨mc,nsK h1,h2⟩⟩;have e0:Env0 P w K mg (hidT s₁.heap H) callerA [] s₁ H:=⟨rfl,hM,λb o e=>aCl e,Nat.le_of_eq (vJ _ _),trivial,λb hb=>absurd (show b∈([]:List Addr) from hb) (by simp),hok,.of_eq hg⟩;refine codeAny_mono ((F _ hKb (nsK hns)).run callerA [] s₁ H ⟨[.ref a],[]⟩ [.ref a] [.ref a] _ _ hr e0 (hbind s₁ (.ref a)) (.cons rfl .nil) (hsp H hO hS)) λr s' h=>?_;cases r with
  |error e=>exact (hCX H e s' h).elim
  |ok fl=>
   cases fl with
   |next=>exact CB h
   |brk=>exact CB h
   |cont=>exact CB h
   |ret u=>
    obtain ⟨v,H',os,bare,un,hok',r',q⟩:=h;have q':v=.bl true:=q;subst q';obtain rfl:u=Value.bool true:=r';refine ⟨rfl,OldK.of_keep λb o e=>?_,os,bare⟩;cases q:H b with
    |none=>exact un.keep b o e q (by intro z;exact absurd (show b∈([]:List Addr) from z) (by simp)) (by simp)
    |some u=>
     rcases hO b with z|⟨ob,xs,z⟩
     ·rw [q] at z;cases z
     ·have z2:=un.frzs b ob _ z
      obtain ⟨e1,_⟩:=hok b _ z;obtain ⟨e2,_⟩:=hok' b _ z2;rw [e] at e1;cases e1;exact e2
 cases hk:K.lookup a with
 |some o=>
  have e:=KX a o hk;rw [ha] at e;cases e;refine core (λ_=>none) (λ_=>.inl rfl) (.inr ⟨_,vs.toArray,_,hk,rfl,rfl,rfl,by rw [Ay,lenV];exact hl,by simpa using rv⟩) (λb u z=>by have z':(none:Option HO)=some u:=z;cases z') (λb z=>absurd rfl z) λz=>absurd rfl z
 |none=>
  refine core (λb=>if b=a then some (.frz { cls:=.type "list",data:=.seq vs.toArray } (.lst (ns.map V.int))) else none) (λb=>?_) (.inl (.inr ⟨{ cls:=.type "list",data:=.seq vs.toArray },if_pos rfl⟩)) (λb u z=>?_) (λb z=>?_) λ_=>hk
  ·by_cases hb:b=a
   ·exact .inr ⟨_,_,if_pos hb⟩
   ·exact .inl (if_neg hb)
  ·by_cases hb:b=a
   ·have z':=(if_pos hb).symm.trans z
    cases z';subst hb;exact ⟨ha,by rw [Ab];exact hl,vs,_,rv,ha⟩
   ·have z':=(if_neg hb).symm.trans z
    cases z'
  ·by_cases hb:b=a
   ·exact hb
   ·exact absurd (if_neg hb) z
abbrev KOf {K:Aa}{h:Heap}(_:K.In h):Aa:=K
def walk_of {l:PySem.W.OpenLaw}{n k:Nat}{q:AE}{loose:List Str}{XP:(Str->Option Value)->Heap->Prop}{YP:World->Heap->Prop}{d:DefRec}{K:Params->Aa}{CX:World->CXT}{sp:World->Sp}{x:Str}
  (hn:l.most=some n) (hn2:n<=AB) (hdf:d.params.defaults=[]) (hr:Room k callerA)
  (hY:∀ (w:World) (h:Heap),YP w h->(K w.params).In h)
  (F:∀ (w:World) (mg:Str->Option Value) (fa:Addr) (h:Heap),(K w.params).In h->h.Ns Aq mg->mg d.name=some (.ref fa) ->
   ∃ fd:Bj,(∀ (s:Shared) (u:Value),BindsTo s fd ⟨[u],[]⟩ [(x,u)]) /\
    ∀ base:Heap,(K w.params).In base->base.Ns Aq mg->FnOk l.prog w (K w.params) mg base (CX w) k fa fd [x] (sp w))
  (hsp:∀ (w:World) (H:Hp) (a:Addr) (ns:List Int),ns.length<=n->Only H->SqL (K w.params) H a (ns.map V.int)->sp w [.ref a] H (λv _=>v=.bl true) λ_ _ _=>False)
  (hCX:∀ (w:World) (H:Hp) (s:Shared) (e:Value) (s':Shared),CX w [] H s (λ_ _ _=>False) e s'->False) :
  PySem.W.WalkO q loose XP YP l.row.toRowW d [] (λf vs=>PySem.call f vs):=by
 refine Att.attach_call hn hdf λw s₀ s₁ mg mb fa o pm cd doc a vs ns G Y ho hd hcd hmg hobj hints hlen hg=>?_;have KX:=hY w _ Y;obtain ⟨fd,hb,hF⟩:=F w mg fa _ KX G.T.g hmg;exact yS KX G.T.g G.T.b G.T.builtins G.T.nolimit hg hobj hints (AX hlen hn2) hr hF hb (λH hO hS=>hsp w H a ns hlen hO hS) λH e s'=>hCX w H s₁ e s'
def inClass (s:Stmt)(j:Nat):Stmt:=match s with
 |.ClassDef _ _ _ body _ _ _ _ _ _ _=>body.getD j (.Pass ⟨0,0,0,0⟩)
 |_=>.Pass ⟨0,0,0,0⟩
def eS (s:Stmt):Arguments:=match s with
 |.FunctionDef _ a _ _ _ _ _ _ _ _=>a
 |_=>{ posonlyargs:=[],args:=[],vararg:=none,kwonlyargs:=[],kw_defaults:=[],kwarg:=none,defaults:=[] }
def dZ (s:Stmt):List Stmt:=match s with
 |.FunctionDef _ _ b _ _ _ _ _ _ _=>b
 |_=>[]
def aG (s:Stmt):Scope:=match s with
 |.FunctionDef _ _ _ _ _ _ sc _ _ _=>sc
 |_=>{ kind:=.function,names:=[],isGenerator:=false,isCoroutine:=false }
abbrev CX0:CXT:=λ_ _ _ _ _ _=>False
abbrev E0:XK:=λ_ _ _=>False
def aR :fX CX0 X E0:=λ_ _ _ _ _ _ _ h=>h.elim
structure Fun (K:Aa)(x qual:Str)(st:Stmt)(f:Addr)(fd:Bj):Prop where
 ex:∃ (oc:Value) (od:Option Addr) (kV doc pm:Value) (an:Option Addr) (cdv ct:Value) (osl:Array (Option Value)),
  fd=Ce x qual (eS st) (dZ st) (aG st) .none kV doc pm an cdv ct/\K.lookup f=some ⟨oc,od,.func fd,osl⟩/\Dy K cdv qual=true
 kp:BR K (.ref f)=true
section
variable {P:AE}{w:World}{K:Aa}{mg:Str->Option Value}{base:Heap}
def Fun.ok {x qual:Str}{st:Stmt}{f:Addr}{fd:Bj}{N ps:List Str}{k:Nat}{sp:Sp}(F:Fun K x qual st f fd)(S:FnScope N ps (aG st))(len:∀ vs H Q E,sp vs H Q E->vs.length=ps.length)
  (hbody:∀ (cdv:Value) (A:Around) (outer:List Env) (s:Shared) (H:Hp) (vs:List V) (Q:VK) (E:XK),Room k (A.deeper (envOfC qual (aG st) s.heap.objs.size f cdv))->sp vs H Q E ->
   ∃ t,PSs (cxOf CX0 P w K mg base N qual (aG st) f cdv A outer s H E).nox (dZ st) t/\t { nx:=λ_ H'=>Q .non H',rt:=Q } (start N vs) H):FnOk P w K mg base CX0 (k+1) f fd ps sp:=by
 obtain ⟨oc,od,kV,doc,pm,an,cdv,ct,osl,rfl,lk,hcd⟩:=F.ex;refine aFn lk hcd S len λA outer s H vs Q E hr hsp=>?_;obtain ⟨t,h,q⟩:=hbody cdv A outer s H vs Q E hr hsp;exact ⟨t,h.nox,q⟩
def Fun.binds {x qual:Str}{st:Stmt}{f:Addr}{fd:Bj}{ps:List Str}(F:Fun K x qual st f fd)
  (h:∀ (kV doc pm:Value) (an:Option Addr) (cdv ct:Value) (us:List Value),us.length=ps.length->bindArgs (Ce x qual (eS st) (dZ st) (aG st) .none kV doc pm an cdv ct) ⟨us,[]⟩=pure (ps.zip us)):Binds K fd ps []:=by
 obtain ⟨oc,od,kV,doc,pm,an,cdv,ct,osl,rfl,lk,hcd⟩:=F.ex;exact .all (h kV doc pm an cdv ct)
def nY {x qual:Str}{st:Stmt}{f:Addr}{oc:Value}{od an:Option Addr}{osl:Array (Option Value)}{kV doc pm cdv ct:Value}(l:K.lookup f=some ⟨oc,od,.func (Ce x qual (eS st) (dZ st) (aG st) .none kV doc pm an cdv ct),osl⟩)
  (c:Dy K cdv qual=true) (k:BR K (.ref f)=true):Fun K x qual st f (Ce x qual (eS st) (dZ st) (aG st) .none kV doc pm an cdv ct):=⟨⟨oc,od,kV,doc,pm,an,cdv,ct,osl,rfl,l,c⟩,k⟩
end
def aO {k:Nat}(hr:Room k A):A.units+1<cLine:=Nat.lt_of_le_of_lt (Nat.add_le_add_left (by decide:1<=64) _) hr.units
def aW {n:Nat}(h:n<=1000):n<AB:=Nat.lt_of_le_of_lt h (by decide)
section
variable {X:Cx}
def pv (i:Nat)(hN:X.N[i]?=some x:=by rfl)(hv:Vis X.env.scope x:=by first|exact Or.inl rfl|exact Or.inr (Or.inl rfl)|exact Or.inr (Or.inr rfl))(hd:(x==("__debug__":Str))=false:=by decide)(hcd:(x==("__classdict__":Str))=false:=by decide):PE X (.Name x pos) (tVar i):=tW hN hv hd hcd
end
def iteF {A B:Prop}(h:B):if false=true then A else B:=by
 rw [if_neg AH];exact h
def iteT {A B:Prop}(h:A):if true=true then A else B:=by
 rw [if_pos rfl];exact h
def ite2 {c A B:Prop}[Decidable c](h1:c->A)(h2:¬ c->B):if c then A else B:=by
 by_cases h:c
 ·rw [if_pos h]
  exact h1 h
 ·rw [if_neg h]
  exact h2 h
def Same (H H':Hp):Prop:=∀ b o,H b=some o->H' b=some o
def Same.refl (H:Hp):Same H H:=λ_ _ h=>h
theorem Same.trans (a:Same H H1)(b:Same H1 H2):Same H H2:=λc o h=>b c o (a c o h)
def Same.seq {K:Aa}{H H':Hp}{a:Addr}{xs:List V}(e:Same H H')(h:SqL K H a xs):SqL K H' a xs:=by
 rcases h with (h|⟨o,h⟩)|h
 ·exact .inl (.inl (e _ _ h))
 ·exact .inl (.inr ⟨o,e _ _ h⟩)
 ·exact .inr h
end L2
namespace GM
def G (a b:Int):Int:=(Int.gcd a b:Int)
theorem aFv {a:Int}(h:0<=a):G a 0=a:=by
 unfold G;rw [Int.gcd_zero_right];omega
theorem aFw (a b:Int):G b (a%b)=G a b:=by
 unfold G
 congr 1
 have e:a%b=a-b*(a/b):=by
  have:=Int.emod_add_mul_ediv a b;omega
 rw [e,Int.gcd_sub_mul_left_right,Int.gcd_comm]
def aC9 {a b:Int}(h:0<b):0<G a b:=by
 unfold G;have:0<Int.gcd a b:=Int.gcd_pos_of_ne_zero_right a (by omega);omega
def aDa (a b:Int):G a b∣a:=Int.gcd_dvd_left a b
def pP (a b:Int):G a b∣b:=Int.gcd_dvd_right a b
def aFx {a b:Int}(h:0<b):G a b<=b:=Int.le_of_dvd h (pP a b)
structure Amt (t b:Int):Prop where
 t0:0<=t
 b1:1<=b
 g:G t b=1
def jR {t b:Int}(h0:0<=t)(h1:1<=b):Amt (t/G t b) (b/G t b):=by
 have gp:=aC9 (a:=t) (b:=b) (by omega);refine ⟨DV h0 (by omega),Int.ediv_pos_of_pos_of_dvd (by omega) (by omega) (pP t b),?_⟩;unfold G at *
 have:=Int.gcd_ediv_gcd_ediv_gcd (i:=t) (j:=b) (by omega);omega
def aE9 (t b:Int):t/G t b*G t b=t:=Int.ediv_mul_cancel (aDa t b)
def aE8 (t b:Int):b/G t b*G t b=b:=Int.ediv_mul_cancel (pP t b)
def vQ {t b x:Int}(h:Amt t b)(d:b∣t*x):b∣x:=by
 have g1:Int.gcd b t=1:=by have:=h.g;unfold G at this;rw [Int.gcd_comm];omega
 have:=Int.dvd_gcd_mul_iff_dvd_mul.mpr d;rw [g1] at this
 simpa using this
def sE {t b t' b':Int}(h:Amt t b)(h':Amt t' b')(e:t*b'=t'*b):t=t'/\b=b':=by
 have d1:b∣b':=vQ h ⟨t',by rw [e,CJ]⟩;have d2:b'∣b:=vQ h' ⟨t,by rw [<- e,CJ]⟩;have p:=h.b1;have p':=h'.b1;have eb:b=b':=Int.dvd_antisymm (by omega) (by omega) d1 d2;subst eb;exact ⟨Bp (by omega) e,rfl⟩
def fU (t b:Int):t/G t b*b=t*(b/G t b):=by
 have e1:=aE9 t b;have e2:=aE8 t b
 calc t/G t b*b=t/G t b*(b/G t b*G t b):=by rw [e2]
  _=t/G t b*G t b*(b/G t b):=by rw [CJ (b/G t b),Cv]
  _=t*(b/G t b):=by rw [e1]
def mW {t:Int}(h:0<=t):Amt t 1:=by
 refine ⟨h,by omega,?_⟩;unfold G;rw [Int.gcd_one_right];rfl
def kY {t b x y:Int}(h0:0<=t)(h1:1<=b)(h:Amt x y)(e:x*b=t*y):t/G t b=x/\b/G t b=y:=by
 have a:=jR h0 h1;refine sE a h ?_;have c:=fU t b;have gp:=aC9 (a:=t) (b:=b) (by omega);have e1:=aE9 t b;have e2:=aE8 t b;refine Bp (a:=G t b) (by omega) ?_
 calc t/G t b*y*G t b=t/G t b*G t b*y:=by rw [Cv,CJ y,<- Cv]
  _=x*b:=by rw [e1,e]
  _=x*(b/G t b)*G t b:=by rw [Cv,e2]
end GM
namespace L2
open PySem PySem.Spec PyProof.Rows
inductive Isi (K:Aa)(H:Hp):V->String->Bool->Prop where
 |int_int {n}:Isi K H (.int n) "int" true
 |int_bool {n}:Isi K H (.int n) "bool" false
 |int_tuple {n}:Isi K H (.int n) "tuple" false
 |int_str {n}:Isi K H (.int n) "str" false
 |int_list {n}:Isi K H (.int n) "list" false
 |bl_int {b}:Isi K H (.bl b) "int" true
 |bl_bool {b}:Isi K H (.bl b) "bool" true
 |bl_tuple {b}:Isi K H (.bl b) "tuple" false
 |bl_str {b}:Isi K H (.bl b) "str" false
 |str_int {x}:Isi K H (.str x) "int" false
 |str_bool {x}:Isi K H (.str x) "bool" false
 |str_tuple {x}:Isi K H (.str x) "tuple" false
 |str_str {x}:Isi K H (.str x) "str" true
 |non_int:Isi K H .non "int" false
 |non_str:Isi K H .non "str" false
 |non_tuple:Isi K H .non "tuple" false
 |tup_tuple {a xs}:SqT K H a xs->Isi K H (.ref a) "tuple" true
 |tup_int {a xs}:SqT K H a xs->Isi K H (.ref a) "int" false
 |tup_str {a xs}:SqT K H a xs->Isi K H (.ref a) "str" false
 |tup_list {a xs}:SqT K H a xs->Isi K H (.ref a) "list" false
 |lst_tuple {a xs}:SqL K H a xs->Isi K H (.ref a) "tuple" false
 |lst_int {a xs}:SqL K H a xs->Isi K H (.ref a) "int" false
 |lst_str {a xs}:SqL K H a xs->Isi K H (.ref a) "str" false
 |lst_list {a xs}:SqL K H a xs->Isi K H (.ref a) "list" true
section
variable {X:Cx}
def jF:eT X (.builtin "isinstance") (λxs H Q=>∃ x T b,xs=[x,.ty T]/\Isi X.K H x T b/\Q (.bl b) H):=by
 intro pins s σ H xs us Q I r h;obtain ⟨x,T,b,rfl,hi,q⟩:=h;obtain ⟨u,w',rfl,rx,ry⟩:=vals2 r;cases ry;have f1:EP X pins σ Q (.bool b) s:=⟨.bl b,H,I,rfl,q⟩;have f2:EP X pins σ Q (.bool b) { s with toks:=s.toks+1 }:=⟨.bl b,H,I.tok _,rfl,q⟩;cases hi with
 |int_int=>obtain ⟨t,rfl⟩:=rx;exact IsiPair.int_int f1
 |int_bool=>obtain ⟨t,rfl⟩:=rx;exact IsiPair.int_bool f2
 |int_tuple=>obtain ⟨t,rfl⟩:=rx;exact IsiPair.int_tuple f2
 |int_str=>obtain ⟨t,rfl⟩:=rx;exact IsiPair.int_str f2
 |int_list=>obtain ⟨t,rfl⟩:=rx;exact IsiPair.int_list f2
 |bl_int=>cases rx;exact IsiPair.bool_int f1
 |bl_bool=>cases rx;exact IsiPair.bool_bool f1
 |bl_tuple=>cases rx;exact IsiPair.bool_tuple f2
 |bl_str=>cases rx;exact IsiPair.bool_str f2
 |str_int=>obtain ⟨t,rfl⟩:=rx;exact IsiPair.str_int f2
 |str_bool=>obtain ⟨t,rfl⟩:=rx;exact IsiPair.str_bool f2
 |str_tuple=>obtain ⟨t,rfl⟩:=rx;exact IsiPair.str_tuple f2
 |str_str=>obtain ⟨t,rfl⟩:=rx;exact IsiPair.str_str f1
 |non_int=>cases rx;exact IsiPair.NoneType_int f2
 |non_str=>cases rx;exact IsiPair.NoneType_str f2
 |non_tuple=>cases rx;exact IsiPair.NoneType_tuple f2
 |tup_tuple hq=>cases rx;obtain ⟨its,_,⟨o,e,c,_⟩,_⟩:=I.tuple hq;exact IsiPair.tuple_tuple e c f1
 |tup_int hq=>cases rx;obtain ⟨its,_,⟨o,e,c,_⟩,_⟩:=I.tuple hq;exact IsiPair.tuple_int e c f2
 |tup_str hq=>cases rx;obtain ⟨its,_,⟨o,e,c,_⟩,_⟩:=I.tuple hq;exact IsiPair.tuple_str e c f2
 |tup_list hq=>cases rx;obtain ⟨its,_,⟨o,e,c,_⟩,_⟩:=I.tuple hq;exact IsiPair.tuple_list e c f2
 |lst_tuple hq=>cases rx;obtain ⟨its,_,⟨o,n,e,c,_⟩,_⟩:=I.list hq;exact IsiPair.list_tuple e c f2
 |lst_int hq=>cases rx;obtain ⟨its,_,⟨o,n,e,c,_⟩,_⟩:=I.list hq;exact IsiPair.list_int e c f2
 |lst_str hq=>cases rx;obtain ⟨its,_,⟨o,n,e,c,_⟩,_⟩:=I.list hq;exact IsiPair.list_str e c f2
 |lst_list hq=>cases rx;obtain ⟨its,_,⟨o,n,e,c,_⟩,_⟩:=I.list hq;exact IsiPair.list_list e c f1
inductive DEq (K:Aa)(H:Hp):Nat->V->V->Bool->Prop where
 |flat {n x y}:fK x=true->fK y=true->DEq K H n x y (eqV x y)
 |same {n a}:DEq K H n (.ref a) (.ref a) true
 |tup {n a b xs ys} {e:Nat->Bool}:a≠b->SqT K H a xs->SqT K H b ys->(∀ (j:Nat) x y,xs[j]?=some x->ys[j]?=some y->DEq K H n x y (e j)) ->
   DEq K H (n+1) (.ref a) (.ref b) ((Bl (min xs.length ys.length)).all e&&xs.length==ys.length)
 |lst {n a b xs ys} {e:Nat->Bool}:a≠b->SqL K H a xs->SqL K H b ys->(∀ (j:Nat) x y,xs[j]?=some x->ys[j]?=some y->DEq K H n x y (e j)) ->
   DEq K H (n+1) (.ref a) (.ref b) ((Bl (min xs.length ys.length)).all e&&xs.length==ys.length)
def sL {σ:St}(I:Inv X pins σ H s)(hx:SqT X.K H a xs)(hy:SqT X.K H b ys)(hu:A.units<cLine)(hd:∀ (j:Nat) x y u v,xs[j]?=some x->ys[j]?=some y->RelV x u->RelV y v->Bg A.in1 s u v (e j)) :
  SeqAt.RcAt A s (.ref a) (.ref b) ((Bl (min xs.length ys.length)).all e&&xs.length==ys.length):=by
 obtain ⟨its,r,tx,_⟩:=I.tuple hx;obtain ⟨its',r',ty,_⟩:=I.tuple hy;have l1:=r.length;have l2:=r'.length;have q:=SeqAt.RcAt.tuples (A:=A) (e:=e) tx ty hu (λj h1 h2=>?_)
 ·rw [Ay,Ay,<- l1,<- l2] at q
  exact q
 ·rw [Ay] at h1 h2
  obtain ⟨x,hxj⟩:∃ x,xs[j]?=some x:=⟨_,Al (by omega)⟩;obtain ⟨y,hyj⟩:∃ y,ys[j]?=some y:=⟨_,Al (by omega)⟩;obtain ⟨u1,hu1,ru1⟩:=r.get hxj;obtain ⟨u2,hu2,ru2⟩:=r'.get hyj;have e1:its.toArray[j]=u1:=by
   have:=(Ad.mp hu1).2
   simpa using this
  have e2:its'.toArray[j]=u2:=by
   have:=(Ad.mp hu2).2
   simpa using this
  rw [e1,e2];exact hd j x y u1 u2 hxj hyj ru1 ru2
def dX (p:PlainL h a its):h.IsList a its:=by
 obtain ⟨o,n,e,c,_,d⟩:=p;exact ⟨o,e,c,n,d⟩
def uV {σ:St}(I:Inv X pins σ H s)(hx:SqL X.K H a xs)(hy:SqL X.K H b ys)(hu:A.units<cLine)(hd:∀ (j:Nat) x y u v,xs[j]?=some x->ys[j]?=some y->RelV x u->RelV y v->Bg A.in1 s u v (e j)) :
  SeqAt.RcAt A s (.ref a) (.ref b) ((Bl (min xs.length ys.length)).all e&&xs.length==ys.length):=by
 obtain ⟨its,r,tx,_⟩:=I.list hx;obtain ⟨its',r',ty,_⟩:=I.list hy;have l1:=r.length;have l2:=r'.length
 by_cases hl:xs.length=ys.length
 ·have q:=SeqAt.RcAt.lists (A:=A) (e:=e) (dX tx) (dX ty) (by rw [Ay,Ay];omega) hu (λj h1 h2=>?_)
  ·rw [Ay,<- l1] at q
   have e1:((Bl (min xs.length ys.length)).all e&&xs.length==ys.length)=(Bl xs.length).all e:=by
    rw [<- hl,Nat.min_self,beq_self_eq_true,Bool.and_true]
   rw [e1];exact q
  ·rw [Ay] at h1 h2
   obtain ⟨x,hxj⟩:∃ x,xs[j]?=some x:=⟨_,Al (by omega)⟩;obtain ⟨y,hyj⟩:∃ y,ys[j]?=some y:=⟨_,Al (by omega)⟩;obtain ⟨u1,hu1,ru1⟩:=r.get hxj;obtain ⟨u2,hu2,ru2⟩:=r'.get hyj;have e1:its.toArray[j]=u1:=by
    have:=(Ad.mp hu1).2
    simpa using this
   have e2:its'.toArray[j]=u2:=by
    have:=(Ad.mp hu2).2
    simpa using this
   rw [e1,e2];exact hd j x y u1 u2 hxj hyj ru1 ru2
 ·have q:=SeqAt.RcAt.lists_lengths (A:=A) (dX tx) (dX ty) (by rw [Ay,Ay,<- l1,<- l2,bne_iff_ne];exact hl) hu
  have e1:((Bl (min xs.length ys.length)).all e&&xs.length==ys.length)=false:=by
   rw [beq_eq_false_iff_ne.mpr hl,Bool.and_false]
  rw [e1];exact q
theorem DEq.at {σ:St}(I:Inv X pins σ H s){n:Nat}{k:Bool}(d:DEq X.K H n x y k):∀ {A:Around} {u v:Value},A.units+n<cLine->RelV x u->RelV y v->Bg A s u v k:=by
 induction d with
 |flat fx fy=>intro A u v _ rx ry;exact aAl rx ry fx fy
 |same=>intro A u v _ rx ry;cases rx;cases ry;exact Bg.same _
 |@tup n a b xs ys e hne hx hy hd ih=>
  intro A u v hu rx ry;cases rx;cases ry;exact Bg.of_refs hne (sL I hx hy (by omega) λj x y u v h1 h2 r1 r2=>ih j x y h1 h2 (by show A.units+1+n<cLine;omega) r1 r2)
 |@lst n a b xs ys e hne hx hy hd ih=>
  intro A u v hu rx ry;cases rx;cases ry;exact Bg.of_refs hne (uV I hx hy (by omega) λj x y u v h1 h2 r1 r2=>ih j x y h1 h2 (by show A.units+1+n<cLine;omega) r1 r2)
def rEqT (K:Aa):R2:=λx y H Q=>∃ a b xs ys,∃ e:Nat->Bool,x=.ref a/\y=.ref b/\SqT K H a xs/\SqT K H b ys/\(∀ (j:Nat) x y,xs[j]?=some x->ys[j]?=some y->DEq K H 40 x y (e j)) /\
 Q (.bl ((Bl (min xs.length ys.length)).all e&&xs.length==ys.length)) H
def rNeT (K:Aa):R2:=λx y H Q=>∃ a b xs ys,∃ e:Nat->Bool,x=.ref a/\y=.ref b/\SqT K H a xs/\SqT K H b ys/\(∀ (j:Nat) x y,xs[j]?=some x->ys[j]?=some y->DEq K H 40 x y (e j)) /\
 Q (.bl (!((Bl (min xs.length ys.length)).all e&&xs.length==ys.length))) H
def aEr (hu:X.A.units+64<cLine):OpR X (Bi .Eq) (rEqT X.K):=by
 intro pins s σ H x y v u Q I rx ry h;obtain ⟨a,b,xs,ys,e,rfl,rfl,hx,hy,hd,q⟩:=h;cases rx;cases ry;exact sL I hx hy (by omega) (λj x y u v h1 h2 r1 r2=>(hd j x y h1 h2).at I (by show X.A.units+1+40<cLine;omega) r1 r2) X.prog X.w X.xe _ ⟨.bl _,H,I,rfl,q⟩
end
def iP (I:Nat->Shared->Prop)(turn:∀ n s,I n s->wpAny (model prog w) A (pyNext it) (λr s₁=>match r with
   |none=>R (.ok .next) s₁
   |some v=>wpAny (model prog w) A (DZ target it v) (λ_ s₁'=>wpAny (model prog w) A (assign target env v) (λ_ s₂=>
     wpAny (model prog w) A (forIn ifs true λc r=>if r=true then do let ok <- isTrue c env (eval c env);pure (Cw ok) else pure (Cw r)) (λok s₃=>
      if ok=true then wpAny (model prog w) A (eval elt env) (λx s₄=>
       wpAny (model prog w) A (call (.builtin "list.append") [acc,x]) (λ_ s₅=>∃ m,m<n/\I m s₅) (λ_ _=>False) s₄) (λ_ _=>False) s₃
      else ∃ m,m<n/\I m s₃) (λ_ _=>False) s₂) (λ_ _=>False) s₁') (λ_ _=>False) s₁) (λ_ _=>False) s)(n:Nat)(h:I n s):DP (model prog w) A (.compLoop (.ListComp elt [⟨target,iter,ifs,0⟩] scope pos) 0 it acc env) R s:=by
 refine codeAny_loop rfl I (λn s hI=>?_) n h;show wpAny _ A ((compTurn (.ListComp elt [⟨target,iter,ifs,0⟩] scope pos) 0 it acc env).onRaise (λx=>do noteFrame x env;theTreesLotGoes x)) _ _ s;refine wpAny_noted ?_;rw [compTurn_list];refine Aw (wpAny_standAt (Aw (BZ (turn n s hI) (λr s₁ h₁=>?_) λ_ _ z=>z.elim)));cases r with
 |none=>exact AM h₁
 |some v=>
  refine Aw (BZ h₁ (λ_ s₁' h₁'=>?_) λ_ _ z=>z.elim);refine Aw (BZ h₁' (λ_ s₂ h₂=>Aw (BZ h₂ (λok s₃ h₃=>?_) λ_ _ z=>z.elim)) λ_ _ z=>z.elim);cases ok with
  |false=>exact AM ⟨rfl,h₃⟩
  |true=>
   exact Aw (Aw (BZ h₃ (λx s₄ h₄=>Aw (BZ h₄ (λ_ s₅ h₅=>AM (AM ⟨rfl,h₅⟩)) λ_ _ z=>z.elim)) λ_ _ z=>z.elim))
def blk (X:Cx)(N':List Str)(scope:Scope)(cl:List (Str×Addr))(C:Addr)(s₀:Shared)(H₀:Hp)(ex:List Addr)(pn:List (Addr×Obj)):Cx where
 prog:=X.prog
 w:=X.w
 K:=X.K
 mg:=X.mg
 base:=X.base
 A:=X.A
 N:=N'
 s₀:=s₀
 H₀:=H₀
 env:=compEnvC scope cl C X.env
 outer:=X.stack
 stack:=X.stack
 ex:=ex
 fn:=λ_=>false
 calm:=X.calm
 pn:=pn
 xe:=λ_ _=>False
structure ClOk (X:Cx)(scope:Scope)(cl:List (Str×Addr)):Prop where
 run:closureFor scope X.env=pure cl
 sub:∀ x c,cl.lookup x=some c->X.env.cells.lookup x=some c
 has:∀ x,((relabel scope X.env).names.lookup x=some .cell\/(relabel scope X.env).names.lookup x=some .free)->∃ c,cl.lookup x=some c
structure BlkN (X:Cx)(N':List Str)(scope:Scope)(cl:List (Str×Addr))(σ σ':St):Prop where
 len:σ'.length=N'.length
 from':∀ (i:Nat) (x:Str) (v:V),N'[i]?=some x->σ'[i]?=some (some v)->∃ j:Nat,X.N[j]?=some x/\σ[j]?=some (some v)/\Vis X.env.scope x/\X.env.kindOf x≠some .local /\
  ((relabel scope X.env).names.lookup x=some .cell\/(relabel scope X.env).names.lookup x=some .free)
section
variable {X:Cx}{pins:List (Addr×Obj)}{σ σ':St}{H:Hp}{s:Shared}
def oH {t':Nat}(I:Inv X pins σ H s)(hkind:scope.kind=.function)(hcl:ClOk X scope cl)(hN:BlkN X N' scope cl σ σ')(hf:∀ b∈fp,FpOk X pins H b)(hfo:∀ b∈fp,b<s.heap.objs.size)(hns:h₁.Ns s.heap.objs.size (λ_=>none))(hk:∀ b o,s.heap.get? b=some o->h₁.get? b=some o) :
  Inv (blk X N' scope cl s.heap.objs.size s H fp (X.pn++pins)) [] σ' H { s with heap:=h₁,toks:=t' }:=by
 have hfs:∀ b,b∉(X.env.locals::X.fs)->b∉frs X.stack:=λb hb z=>hb (I.stkSub b z);refine ⟨⟨I.ok.mod,hkind,I.ok.glob,I.ok.blt,Ak _,?_,hcl.has,λ_ _ h=>absurd h (by intro z;cases z),I.ok.hd,I.ok.frames,.inl rfl,?_,I.bs,AX I.ok.bsz I.sz,?_,?_,I.stack,I.stkFree⟩,
  rfl,I.bare,Un.kept hk,⟨_,hns,?_⟩,?_,I.hok.fresh (Ak _),λx c e=>I.freeC x c (hcl.sub x c e),?_,I.hok.kept hk,hN.len⟩
 ·intro x y c h1 h2
  exact I.ok.inj x y c (hcl.sub x c h1) (hcl.sub y c h2)
 ·intro b hb
  exact ⟨AJ (hfo b hb),λx c e=>(hf b hb).2.2.2.2.1 x c (hcl.sub x c e)⟩
 ·intro b o e hb
  rcases (hf b hb).2.2.2.1 with q|q
  ·exact I.ok.noex b o e q
  ·exact absurd (AQ (AD e) (AX I.ok.bsz q)) (BP _)
 ·intro b hb
  refine hfs b λz=>?_
  rcases Ae.mp z with z|z
  ·exact (hf b hb).2.1 z
  ·exact (hf b hb).2.2.1 z
 ·intro i x v h1 h2 _
  obtain ⟨j,hj,hσ,hv,hnl,hk'⟩:=hN.from' i x v h1 h2;obtain ⟨m,hn,hl⟩:=I.loc;obtain ⟨u,r,l⟩:=hl j x v hj hσ hv;refine ⟨u,r,.inr ⟨hk',?_⟩⟩;obtain ⟨c,hc⟩:=hcl.has x hk'
  rcases l with ⟨hloc,_⟩|⟨_,c',hc',hcell⟩
  ·exact absurd hloc hnl
  ·have e:=hcl.sub x c hc
   rw [hc'] at e;cases e;obtain ⟨o,ho,hd⟩:=hcell;exact ⟨_,hc,o,hk _ _ ho,hd⟩
 ·intro x c e
  obtain ⟨v,o,ho,hd⟩:=I.cell x c (hcl.sub x c e);exact ⟨v,o,hk _ _ ho,hd⟩
 ·intro p hp
  rw [show (blk X N' scope cl s.heap.objs.size s H fp (X.pn++pins)).pn=X.pn++pins from rfl,Ck] at hp;obtain ⟨a1,a2,a3,a4,a5⟩:=I.pin p hp;refine ⟨hk _ _ a1,a2,AJ (AD a1),hfs _ λz=>?_,a5⟩
  rcases Ae.mp z with z|z
  ·exact a3 z
  ·exact a4 z
def wI (I:Inv X pins σ H s)(hf:∀ b∈fp,FpOk X pins H b)(J:Inv (blk X N' scope cl s.heap.objs.size s H fp (X.pn++pins)) pl σ' H' s')(hs:Heap.SameBut s.heap.objs.size s'.heap h''):Inv X pins σ H' { s' with heap:=h'' }:=by
 have hne:∀ b o,s.heap.get? b=some o->b≠s.heap.objs.size:=λb o e=>AJ (AD e);have hC:H' s.heap.objs.size=none:=J.free;have ub:Un (frs X.stack) fp H H' s.heap s'.heap:=J.base;have u:Un (frs X.stack) fp H H' s.heap h'':={
  keep:=λb o e n hb hx=>hs.extBut b o (hne b o e) (ub.keep b o e n hb hx)
  slot:=λb o e n hb hx=>by
   obtain ⟨sl,q⟩:=ub.slot b o e n hb hx;exact ⟨sl,hs.extBut b _ (hne b o e) q⟩
  free:=ub.free
  there:=λb o e hx=>by
   obtain ⟨o',q⟩:=ub.there b o e hx;exact ⟨o',hs.extBut b _ (hne b o e) q⟩
  tups:=ub.tups
  frzs:=ub.frzs
  tbls:=ub.tbls }
 have hok:HOk X.prog X.w H' h'':=λa o e=>(J.hok a o e).stay (λb ob hb q=>hs.extBut b ob (λz=>by
  rw [z] at hb
  rcases hb with hb|hb
  ·rw [<- hb,hC] at e;cases e
  ·rw [hC] at hb;cases hb) q) (λ_ h=>h) (λ_ _ h=>h)
 exact I.call' (s':={ s' with heap:=h'' }) J.os u hok J.bare λb hb=>by
  obtain ⟨f0,f1,f2,f3,f4,f5⟩:=hf b hb;exact ⟨f3,f1,f4,f5⟩
end
def PIfs (X:Cx)(ifs:List Expr)(t:TT):Prop:=
 ∀ (pins:List (Addr×Obj)) (s:Shared) (σ:St) (H:Hp) (Q:Bool->Hp->Prop),Inv X pins σ H s->t σ H Q ->
  wpAny (model X.prog X.w) X.A (forIn ifs true λc r=>if r=true then do let ok <- isTrue c X.env (eval c X.env);pure (Cw ok) else pure (Cw r)) (TP X pins σ Q) X.xe s
def wO:TT:=λ_ H Q=>Q true H
def dE :PIfs X [] wO:=λ_ _ _ H _ I h=>wpAny_tests_nil ⟨H,I,h⟩
def gB (h:PT X c t):PIfs X [c] t:=λpins s σ H Q I hw=>wpAny_tests_one (h pins s σ H Q I hw)
structure Keep (σa σb:St):Prop where
 len:σb.length=σa.length
 at':∀ (i:Nat) (v:V),σa[i]?=some (some v)->σb[i]?=some (some v)
def Keep.refl (σ:St):Keep σ σ:=⟨rfl,λ_ _ h=>h⟩
def Keep.set {σa σb:St}{i:Nat}(k:Keep σa σb)(h:σa[i]?=some none):Keep σa (σb.set i (some v)):=by
 refine ⟨by rw [List.length_set];exact k.len,λj u e=>?_⟩;have hj:i≠j:=by
  rintro rfl
  rw [h] at e;cases e
 rw [CA hj];exact k.at' j u e
def wR (σf:St->St)(wi:TI)(g:TG)(tt:TT)(te:TE):TE:=λσ H Q=>wi σ H λJ H1=>∀ D,H1 D=none->∃ W:Nat->Nat->List V->Hp->Prop,(∃ m,W 0 m [] (upd H1 D (.lst []))) /\
 ∀ i m ys H,W i m ys H->H D=some (.lst ys)/\ys.length<AB /\
  ((J.stop i H/\Q (.ref D) H)\/(J.go i H/\∀ x H',J.yld i H x H'->g x (σf σ) H' λσ2 H2=>Keep (σf σ) σ2/\tt σ2 H2 λb H3=>
   if b=true then te σ2 H3 λy H4=>H4 D=some (.lst ys)/\∃ m',m'<m/\W (i+1) m' (ys++[y]) (upd H4 D (.lst (ys++[y]))) else ∃ m',m'<m/\W (i+1) m' ys H3))
def iD (σf:St->St)(hc:X.calm=true)(hkind:scope.kind=.function)(hcell:∀ y∈scope.names,y.2≠.cell)(hnames:∀ y∈scope.names,y.2=.local->scope.names.lookup y.1=some .local)(hcl:ClOk X scope cl)(hN:∀ σ:St,σ.length=X.N.length->BlkN X N' scope cl σ (σf σ))(hi:PI X tg iter wi)(hg:∀ C s₀ H₀ ex pn,PG (blk X N' scope cl C s₀ H₀ ex pn) tg g)(ht:∀ C s₀ H₀ ex pn,PIfs (blk X N' scope cl C s₀ H₀ ex pn) ifs tt)(he:∀ C s₀ H₀ ex pn,PE (blk X N' scope cl C s₀ H₀ ex pn) elt te)(hs:∀ x,DO iter X.env x=pure x:=by intro _;rfl):PE X (.ListComp elt [⟨tg,iter,ifs,0⟩] scope pos) (wR σf wi g tt te):=by
 intro pins s σ H Q I h;rw [eval_ListComp];refine wpAny_comprehension_free (use:=none) rfl hs hcl.run hkind hnames (thn (hi pins s σ H _ I h) λv s1 h1=>thn h1 λitv s2 h2=>?_);obtain ⟨it,fp,tn,J,H2,rfl,I2,T,st2,f2,q⟩:=h2;refine wpAny_newObj_type (wpAny_newFunctionEnv hcell (by intro y hy;simp at hy) (λh₁ hns₁ hsb₁=>?_) hkind);dsimp only at hns₁ hsb₁ ⊢;have hfo:∀ b∈fp,b<s2.heap.objs.size:=λb hb=>by
  obtain ⟨o,e,_⟩:=T.obj _ _ st2 b hb;exact AD e
 have hDf:H2 s2.heap.objs.size=none:=I2.hok.fresh (Ak _);obtain ⟨W,⟨m0,w0⟩,turn⟩:=q s2.heap.objs.size hDf;have I3:Inv X pins σ (upd H2 s2.heap.objs.size (.lst [])) { s2 with heap:=s2.heap.push { cls:=.type "list",data:=.seq ([]:List Value).toArray } }:=I2.lnew (its:=[]) (t':=s2.toks) .nil (Bv _);have f3:∀ b∈fp,FpOk X pins (upd H2 s2.heap.objs.size (.lst [])) b:=λb hb=>⟨by rw [aD (AJ (hfo b hb))];exact (f2 b hb).1,(f2 b hb).2⟩;generalize hD:s2.heap.objs.size=D at *
 generalize hs3:({ s2 with heap:=s2.heap.push { cls:=.type "list",data:=.seq ([]:List Value).toArray } }:Shared)=s3 at *
 have hh3:s3.heap=s2.heap.push { cls:=.type "list",data:=.seq ([]:List Value).toArray }:=by rw [<- hs3]
 have hsz3:s2.heap.objs.size<s3.heap.objs.size:=by rw [hh3,Heap.size_push];exact DS _
 have e3:∀ h t,({ s2 with heap:=h,toks:=t }:Shared)={ s3 with heap:=h,toks:=t }:=λh t=>by rw [<- hs3]
 rw [<- hh3] at hns₁ hsb₁ ⊢;have hk3:∀ b o,s3.heap.get? b=some o->h₁.get? b=some o:=λb o e=>hsb₁.extBut b o (AJ (AD e)) (Av _ e);have I4:=oH (t':=s3.toks) I3 hkind hcl (hN σ I.len) f3 (λb hb=>Nat.lt_trans (hfo b hb) (hD▸hsz3)) (hns:=by simpa using hns₁) hk3;generalize hB:blk X N' scope cl s3.heap.objs.size s3 (upd H2 D (.lst [])) fp (X.pn++pins)=B at *
 have hBp:B.prog=X.prog:=by rw [<- hB];rfl
 have hBw:B.w=X.w:=by rw [<- hB];rfl
 have hBK:B.K=X.K:=by rw [<- hB];rfl
 have hBA:B.A=X.A:=by rw [<- hB];rfl
 have hBc:B.calm=true:=by rw [<- hB];exact hc
 have hBe:B.env=compEnvC scope cl s3.heap.objs.size X.env:=by rw [<- hB];rfl
 have hBx:B.xe=λ_ _=>False:=by rw [<- hB];rfl
 have hGB:PG B tg g:=hB▸hg _ _ _ _ _;have hTB:PIfs B ifs tt:=hB▸ht _ _ _ _ _;have hEB:PE B elt te:=hB▸he _ _ _ _ _;have stat:∀ {H':Hp},(∀ b∈fp,H' b=none)->∀ b∈fp,FpOk B [] H' b:=λ{H'} hn b hb=>by
  obtain ⟨f0,f1,f2',f3',f4,f5⟩:=f3 b hb;rw [<- hB];refine ⟨hn b hb,AJ (Nat.lt_trans (hfo b hb) (hD▸hsz3)),λz=>?_,.inl hb,λx c e=>f4 x c (hcl.sub x c e),λp hp=>?_⟩
  ·rcases Ae.mp (I.stkSub b z) with z|z
   ·exact f1 z
   ·exact f2' z
  ·rw [show (blk X N' scope cl s3.heap.objs.size s3 (upd H2 D (.lst [])) fp (X.pn++pins)).pn=X.pn++pins from rfl,Ck] at hp
   exact f5 p hp
 have loop:∀ s4:Shared,Inv B [] (σf σ) (upd H2 D (.lst [])) s4->tn 0 s4.heap ->
   DP (model X.prog X.w) X.A (.compLoop (.ListComp elt [⟨tg,iter,ifs,0⟩] scope pos) 0 (.ref it) (.ref D) (compEnvC scope cl s3.heap.objs.size X.env)) (compPost (model X.prog X.w) X.A X.xe none (EP X pins σ Q) (.ref D) s3.heap.objs.size) s4:=by
  intro s4 I4 st4;refine iP (I:=λn s'=>∃ i ys H',Inv B [] (σf σ) H' s'/\tn i s'.heap/\(∀ b∈fp,H' b=none)/\W i n ys H') ?_ m0 ⟨0,[],_,I4,st4,λb hb=>(f3 b hb).1,w0⟩
  rintro n s5 ⟨i,ys,H5,I5,st5,fr5,w5⟩
  obtain ⟨hD5,hlen5,alt⟩:=turn i n ys H5 w5
  rcases alt with ⟨stop,qn⟩|⟨go,step⟩
  ·have z:=T.done B hBp hBw hBK hBc i [] s5 (σf σ) H5 (λ_ _=>False) I5 (stat fr5) st5 stop
   rw [hBA] at z;refine thn z λr s6 ⟨hr,I6⟩=>?_;subst hr;obtain ⟨m6,hn6,_⟩:=I6.loc;rw [hBe] at hn6;refine ⟨m6,hn6,λh' hs'=>?_⟩;subst hB;exact ⟨.ref D,H5,wI I3 f3 I6 hs',rfl,qn⟩
  ·have z:=T.item B hBp hBw hBK hBc i [] s5 (σf σ) H5 (λ_ _=>False) I5 (stat fr5) st5 go
   rw [hBA] at z;refine thn z λr s6 ⟨u,hr,h6⟩=>?_;subst hr;refine thn h6 λ_ s7 ⟨x,H7,I7,r7,y7,st7,fr7⟩=>?_;have I7':=I7.pinned (stat fr7) (T.obj _ _ st7);have z8:=hGB _ s7 (σf σ) H7 x u _ I7' r7 (step x H7 y7);rw [hBp,hBw,hBA,hBe,hBx] at z8;refine thn z8 λ_ s8 ⟨σ8,H8,I8,k8,q8⟩=>?_;have z9:=hTB _ s8 σ8 H8 _ I8 q8;rw [hBp,hBw,hBA,hBe,hBx] at z9;refine thn z9 λok s9 ⟨H9,I9,q9⟩=>?_;have again:∀ {ys':List V} {H':Hp} {s':Shared},Inv B ([]++kU fp s7.heap) σ8 H' s'->(∃ m',m'<n/\W (i+1) m' ys' H')->∃ m,m<n/\∃ i ys H',Inv B [] (σf σ) H' s'/\tn i s'.heap/\(∀ b∈fp,H' b=none)/\W i m ys H':=λ{ys' H' s'} J ⟨m',hm,w'⟩=>by
    refine ⟨m',hm,i+1,ys',H',J.unpinned.weak k8.len.symm k8.at',T.keep _ _ _ st7 λb hb o e=>(J.pin (b,o) (Ac _ (Ac _ (dQ hb e)))).1,λb hb=>?_,w'⟩;obtain ⟨o,e,d⟩:=T.obj _ _ st7 b hb;exact (J.pin (b,o) (Ac _ (Ac _ (dQ hb e)))).2.1
   cases ok with
   |false=>exact again I9 q9
   |true=>
    have z10:=hEB _ s9 σ8 H9 _ I9 q9;rw [hBp,hBw,hBA,hBe,hBx] at z10;refine thn z10 λy10 s10 ⟨y,H10,I10,r10,hD10,q10⟩=>?_;have z11:=dB (X:=B) _ s10 σ8 H10 (.ref D) [y] (.ref D) [y10] (λ_ H'=>∃ m',m'<n/\W (i+1) m' (ys++[y]) H') I10 rfl (.cons r10 .nil) ⟨D,ys,y,rfl,rfl,hD10,hlen5,q10⟩;rw [hBp,hBw,hBA,hBx] at z11;refine thn z11 λ_ s11 ⟨_,H11,I11,_,q11⟩=>again I11 q11
 have st4:tn 0 ({ s3 with heap:=h₁,toks:=s3.toks }:Shared).heap:=T.keep _ _ _ st2 λb hb o e=>hk3 b o (by rw [hh3];exact Av _ e);have L4:=loop _ I4 st4;subst hs3;exact codeAny_compStart_list L4 (T.self _ 0 _ _ _ st4 L4)
def Bt (n:Nat)(x:Int):Prop:=x.natAbs<2^n
def Bt.bits {n:Nat}{x:Int}(h:Bt n x):Builtin.Int.intBits x<=n:=intBits_le_iff.mpr h
def Bt.of_bits {n:Nat}{x:Int}(h:Builtin.Int.intBits x<=n):Bt n x:=intBits_le_iff.mp h
def Bt.mono {m n:Nat}{x:Int}(h:Bt m x)(hn:m<=n):Bt n x:=AQ h (Nat.pow_le_pow_right (by decide) hn)
def Bt.mul {m n:Nat}{x y:Int}(h:Bt m x)(h':Bt n y):Bt (m+n) (x*y):=.of_bits (intBits_mul_le h.bits h'.bits)
def Bt.add {m:Nat}{x y:Int}(h:Bt m x)(h':Bt m y):Bt (m+1) (x+y):=.of_bits (by have:=intBits_add_le h.bits h'.bits;rwa [Nat.max_self] at this)
def Bt.le {m:Nat}{x y:Int}(h:Bt m y)(h0:0<=x)(hy:x<=y):Bt m x:=by
 unfold Bt at *
 omega
def aFc {n:Nat}{x:Int}(h:Bt n x)(hp:0<x)(hn:n<=9000):x.natAbs.log2<9000:=by
 have:x.natAbs.log2<n:=(Nat.log2_lt (by omega)).mpr h;omega
def aG2 (i j:Int):Prop:=Bt 1000000 i/\Bt 1000000 j
def aG3 (_i j:Int):Prop:=0<j/\Bt 9000 j
def aG1 (i j:Int):Prop:=0<=j/\j<=1000/\Bt 1000 i
section
variable {X:Cx}
def bL:OpR X (Dh .Mult) (rI aG2 λi j=>.int (i*j)):=opI λ_ _ _ _ _ _ _ hc q=>mul_int q (.of_bits (AX hc.1.bits (by decide)) (AX hc.2.bits (by decide)))
def bB:OpR X (Dh .FloorDiv) (rI aG3 λi j=>.int (i/j)):=opI λi j _ _ _ _ _ hc q=>by
 have h1:(0:Int)<j:=hc.1;rw [<- Int.fdiv_eq_ediv_of_nonneg i (Int.le_of_lt h1)] at q;exact floordiv_int (by omega) q (.inl (PyProof.noPylong_of_log2 (aFc hc.2 h1 (Ak _))))
def iE:OpR X (Dh .Pow) (rI aG1 λi j=>.int (i^j.toNat)):=opI λi j _ _ _ _ _ hc q=>by
 obtain ⟨h0,h1,h2⟩:=hc;refine PyProof.Rows.pow_int h0 ?_ q;have b:=h2.bits;have e:(2:Int)^27=134217728:=by decide
 have:=DH (show (Builtin.Int.intBits i:Int)<=1000 by omega) h1 h0 (by decide);omega
def qZ {K:Aa}{H:Hp}{n:Nat}(ns ms:List Int):∀ (j:Nat) x y,(ns.map V.int)[j]?=some x->(ms.map V.int)[j]?=some y->DEq K H n x y (ns[j]?==ms[j]?):=by
 intro j x y h1 h2;rw [Ah] at h1 h2;cases e1:ns[j]? with
 |none=>rw [e1] at h1;cases h1
 |some a=>
  cases e2:ms[j]? with
  |none=>rw [e2] at h2;cases h2
  |some b=>
   rw [e1] at h1;rw [e2] at h2;cases h1;cases h2;have:(some a==some b)=eqV (V.int a) (V.int b):=by
    show (a==b)=(a==b);rfl
   rw [this];exact DEq.flat rfl rfl
theorem all_ints:∀ (ns ms:List Int),((Bl (min ns.length ms.length)).all (λj=>ns[j]?==ms[j]?)&&ns.length==ms.length)=decide (ns=ms):=by
 intro ns ms;rw [CO];simp only [Cq,Cd,DG,beq_iff_eq,decide_eq_true_eq];constructor
 ·rintro ⟨h,hl⟩
  refine List.ext_getElem? λi=>?_
  by_cases hi:i<ns.length
  ·exact h i (by omega)
  ·rw [Cs (by omega),Cs (by omega)]
 ·rintro rfl
  exact ⟨λ_ _=>rfl,rfl⟩
def rEqI (K:Aa):R2:=λx y H Q=>∃ a b,∃ ns ms:List Int,x=.ref a/\y=.ref b/\SqT K H a (ns.map V.int)/\SqT K H b (ms.map V.int)/\Q (.bl (decide (ns=ms))) H
def rNeI (K:Aa):R2:=λx y H Q=>∃ a b,∃ ns ms:List Int,x=.ref a/\y=.ref b/\SqT K H a (ns.map V.int)/\SqT K H b (ms.map V.int)/\Q (.bl (!decide (ns=ms))) H
def aAc (hu:X.A.units+64<cLine):OpR X (Bi .Eq) (rEqI X.K):=by
 intro pins s σ H x y v u Q I rx ry h;obtain ⟨a,b,ns,ms,rfl,rfl,hx,hy,q⟩:=h;refine aEr hu pins s σ H _ _ v u Q I rx ry ⟨a,b,_,_,λj=>ns[j]?==ms[j]?,rfl,rfl,hx,hy,qZ ns ms,?_⟩;rw [Ab,Ab,all_ints];exact q
def aE5 {σ:St}(I:Inv X pins σ H s)(hx:SqT X.K H a xs)(hy:SqT X.K H b ys)(hu:A.units<cLine)(hd:∀ (j:Nat) x y u v,xs[j]?=some x->ys[j]?=some y->RelV x u->RelV y v->Bg A.in1 s u v (e j)) :
  DE A s (.ref a) (.ref b) (!((Bl (min xs.length ys.length)).all e&&xs.length==ys.length)):=by
 obtain ⟨its,r,tx,_⟩:=I.tuple hx;obtain ⟨its',r',ty,_⟩:=I.tuple hy;have l1:=r.length;have l2:=r'.length;have q:=DE.tuples (A:=A) (e:=e) tx ty hu (λj h1 h2=>?_)
 ·rw [Ay,Ay,<- l1,<- l2] at q
  exact q
 ·rw [Ay] at h1 h2
  obtain ⟨x,hxj⟩:∃ x,xs[j]?=some x:=⟨_,Al (by omega)⟩;obtain ⟨y,hyj⟩:∃ y,ys[j]?=some y:=⟨_,Al (by omega)⟩;obtain ⟨u1,hu1,ru1⟩:=r.get hxj;obtain ⟨u2,hu2,ru2⟩:=r'.get hyj;have e1:its.toArray[j]=u1:=by
   have:=(Ad.mp hu1).2
   simpa using this
  have e2:its'.toArray[j]=u2:=by
   have:=(Ad.mp hu2).2
   simpa using this
  rw [e1,e2];exact hd j x y u1 u2 hxj hyj ru1 ru2
def zZ (hu:X.A.units+64<cLine):OpR X (Bi .NotEq) (rNeT X.K):=by
 intro pins s σ H x y v u Q I rx ry h;obtain ⟨a,b,xs,ys,e,rfl,rfl,hx,hy,hd,q⟩:=h;cases rx;cases ry;exact aE5 I hx hy (by omega) (λj x y u v h1 h2 r1 r2=>(hd j x y h1 h2).at I (by show X.A.units+1+40<cLine;omega) r1 r2) X.prog X.w X.xe _ ⟨.bl _,H,I,rfl,q⟩
def aEn (hu:X.A.units+64<cLine):OpR X (Bi .NotEq) (rNeI X.K):=by
 intro pins s σ H x y v u Q I rx ry h;obtain ⟨a,b,ns,ms,rfl,rfl,hx,hy,q⟩:=h;refine zZ hu pins s σ H _ _ v u Q I rx ry ⟨a,b,_,_,λj=>ns[j]?==ms[j]?,rfl,rfl,hx,hy,qZ ns ms,?_⟩;rw [Ab,Ab,all_ints];exact q
end
section
variable {X:Cx}
def zH (hc:X.calm=true):eT X (.builtin "sum") (λxs H Q=>∃ p,∃ ns:List Int,xs=[.ref p]/\SqL X.K H p (ns.map V.int)/\Q (.int ns.sum) H):=by
 intro pins s σ H xs us Q I r h;obtain ⟨p,ns,rfl,hq,q⟩:=h;obtain ⟨u,rfl,rx⟩:=vals1 r;cases rx;obtain ⟨its,r',pl,hz⟩:=I.list hq;have hi:=intsAre_of r';obtain ⟨ys,e⟩:=(hi.allInts).items;have hl:s.heap.IsList p (intItems ys):=e▸pl.isList;refine sum_intListG (I.ok.hd hc) hl λh' tk t' hk=>?_;refine ⟨.int ns.sum,H,I.kept hk,⟨t',?_⟩,q⟩;have e1:numsOf its=ns:=hi.numsOf;have e2:numsOf (intItems ys).toList=numsOf its:=by rw [<- e]
 rw [nums_intItems,e1] at e2;rw [preSum_eq,DB (by simp),e2]
def tIt (K:Aa)(i k:Nat):TE:=λσ H Q=>∃ p xs v,σ[i]?=some (some (.ref p))/\SqT K H p xs/\xs[k]?=some v/\Q v H
def pit (i k:Nat){j:Nat}(hN:X.N[i]?=some x:=by rfl)(hv:Vis X.env.scope x:=by first|exact Or.inl rfl|exact Or.inr (Or.inl rfl)|exact Or.inr (Or.inr rfl))(hd:(x==("__debug__":Str))=false:=by decide)(hcd:(x==("__classdict__":Str))=false:=by decide):PE X (.Subscript (.Name x p) (.Constant (.int (k:Int)) j q) pos) (tIt X.K i k):=by
 intro pins s σ H Q I h;obtain ⟨a,xs,v,e,hs,hk,q⟩:=h;exact cR gY (tW hN hv hd hcd) aH (λ_ _=>rfl) pins s σ H Q I ⟨_,e,a,xs,(k:Int),v,rfl,rfl,hs,iK hk,q⟩
structure Cal (P:AE)(w:World)(K:Aa)(mg:Str->Option Value)(base:Heap)(CX:CXT)(k:Nat)(x:Str)(ps:List Str)(sp:Sp):Prop where
 ex:∃ (f:Addr) (fd:Bj),mg x=some (.ref f)/\BR K (.ref f)=true/\Binds K fd ps []/\FnOk P w K mg base CX k f fd ps sp
def aV {k:Nat}(C:Cal X.prog X.w X.K X.mg X.base CX k x ps sp)(hr:Room k X.A)(hg:Gl X x)(hx:fX CX X E)(ha:PA X (e::es) t)(hdb:(x==("__debug__":Str))=false:=by decide)(he:AY (e::es) X.env=(false,eval e X.env)::AY es X.env:=by rfl)(hpl:(backTo pos (AY es X.env)).any (·.1)=false:=by rfl) :
  PE X (.Call (.Name x p) (e::es) [] pos) (aDo sp [] E t):=by
 obtain ⟨f,fd,hm,hk,hb,F⟩:=C.ex;exact aBq F hr hg hm hk hb .nil hx ha hdb he hpl
def Cal.mono {P:AE}{w:World}{K:Aa}{mg:Str->Option Value}{base:Heap}{CX:CXT}{j k:Nat}{x:Str}{ps:List Str}{sp:Sp}(C:Cal P w K mg base CX j x ps sp)(h:j<=k):Cal P w K mg base CX k x ps sp:=by
 obtain ⟨f,fd,hm,hk,hb,F⟩:=C.ex;exact ⟨f,fd,hm,hk,hb,F.mono h⟩
end
def Same.tup {K:Aa}{H H':Hp}{a:Addr}{xs:List V}(e:Same H H')(h:SqT K H a xs):SqT K H' a xs:=by
 rcases h with (h|⟨o,h⟩)|h
 ·exact .inl (.inl (e _ _ h))
 ·exact .inl (.inr ⟨o,e _ _ h⟩)
 ·exact .inr h
theorem Same.upd (h:H a=none):Same H (upd H a o):=λb u e=>by
 rw [aD (aX e h)];exact e
def RetT (H:Hp)(Q:VK)(ns:List Int):Prop:=∀ p H',Same H H'->H' p=some (.tup (ns.map V.int))->Q (.ref p) H'
end L2
namespace L2
open PySem PySem.Spec PyProof.Rows PySem.W
structure ExK (K:Frag)(C:Addr):Prop where
 ga:findIn K (.ref C) "__getattribute__" = some (some (.builtin "BaseException.__getattribute__"))
 gt:findIn K (.ref C) "__getattr__" = some none
 cl:findIn K (.ref C) "__class__" = some (some (.builtin "object.__class__"))
 sb:subIn K (.ref C) (.type "BaseException")=some true
 so:subIn K (.ref C) (.type "object")=some true
 ci:(clsIn K C).isSome=true
structure ExAt (h:Heap)(a:Addr)(o:Obj)(C:Addr):Prop where
 at_:h.get? a=some o
 cls:o.cls=.ref C
def ExAt.type (I:ExAt h a o C):Looks M h (typeOf (.ref a)) (.ref C):=by
 rw [<- I.cls];exact (Looks.ld I.at_).andThen .now
section
variable {prog:AE}{w:World}{A:Around}{E:Value->Shared->Prop}{h:Heap}{g:Array GenState}{d:Drawn}{t:Nat}{os:OsState}{a C:Addr}{o:Obj}{K:Frag}
def mQ (X:K.In h)(F:ExK K C)(I:ExAt h a o C)(hq:R (.ok (.ret (.ref C))) ⟨h,g,d,t,os⟩) :
  DP (model prog w) A (.call (.builtin "getset_descriptor.__get__") ⟨[.builtin "object.__class__",.ref a,.ref C],[]⟩) R ⟨h,g,d,t,os⟩:=by
 have hT5:(⟨h,g,d,t,os⟩:Shared).TypeIs (.builtin "object.__class__") "getset_descriptor":=DR;have hx:=I.at_;have hc:=I.cls;have L1:=looks_subIn (M:=model prog w) X F.so;rw [<- PySem.F.owner_object_class] at L1;refine codeAny_call_builtin PySem.F.slot_gs_get.plain PySem.F.entry_gs_get (PySem.F.slot_gs_get.check _ _ _ _ _ _ _ _ hT5 (PySem.F.args_gs_get _ _ _) ?_)
 repeat (any_goals (first|assumption|(with_reducible refine DN hx ?_;rw [hc])|with_reducible refine L1.at ?_|wp_step))
 refine ⟨Code.quiet_builtin _ (by decide +kernel),Ea PySem.F.entry_object_class ?_⟩
 repeat (any_goals (first|assumption|(with_reducible refine DN hx ?_;rw [hc])|wp_step))
def kH {tk:Tok}(X:K.In h)(F:ExK K C)(I:ExAt h a o C)(hq:Q (.done (.ret (.ref C))) ⟨h,g,d,t,os⟩) :
  wpAny (model prog w) A (Builtin.«object.__getattribute__» ⟨[.ref a,.str "__class__" tk],[]⟩) Q E ⟨h,g,d,t,os⟩:=by
 have L1:=looks_findIn (M:=model prog w) X F.cl;have hT5:(⟨h,g,d,t,os⟩:Shared).TypeIs (.builtin "object.__class__") "getset_descriptor":=DR;have f5:=DR;have f6:=PySem.F.slot_gs_get.lookup;have f7:=PySem.F.slot_gs_set.lookup;have hx:=I.at_;have hc:=I.cls
 repeat (any_goals (first|assumption|(with_reducible refine DN hx ?_;rw [hc])|with_reducible refine L1.at ?_|wp_step))
 refine mQ X F I ?_
 repeat (any_goals (first|assumption|wp_step))
def oB (X:K.In h)(F:ExK K C)(I:ExAt h a o C)(hq:Q () ⟨h,g,d,t,os⟩):wpAny M A (checkBuiltinCall "BaseException.__getattribute__" ⟨[.ref a,nameV],[]⟩) Q E ⟨h,g,d,t,os⟩:=by
 have hk:builtinKind "BaseException.__getattribute__" = some .slot:=by decide +kernel
 have hsplit:splitId "BaseException.__getattribute__" = some ("BaseException","__getattribute__"):=by decide +kernel
 have L2':=looks_subIn (M:=M) X F.sb;have ha:=PySem.F.args_bexc_ga (.ref a) nameV;have hx:=I.at_;have hc:=I.cls;simp only [checkBuiltinCall,hk,hsplit];refine Aw ?_
 ·unfold isInstance
  repeat (first|(with_reducible refine DN hx ?_;rw [hc])|with_reducible refine L2'.at ?_|wp_step)
  exact hq
def kO {tk:Tok}(X:K.In h)(F:ExK K C)(I:ExAt h a o C)(hq:R (.ok (.ret (.ref C))) ⟨h,g,d,t,os⟩) :
  DP (model prog w) A (.call (.builtin "BaseException.__getattribute__") ⟨[.ref a,.str "__class__" tk],[]⟩) R ⟨h,g,d,t,os⟩:=
 codeAny_call_builtin PySem.F.attr_ValueError.ga.plain PySem.F.entry_bexc_ga (oB X F I (kH X F I hq))
def oA {tk:Tok}{fill expr:Bool}(X:K.In h)(F:ExK K C)(I:ExAt h a o C)(hq:Q (.ref C) ⟨h,g,d,t,os⟩) :
  wpAny (model prog w) A (getAttrBy (.ref a) (.str "__class__" tk) fill expr) Q E ⟨h,g,d,t,os⟩:=by
 have f3:=PySem.F.attr_ValueError.ga.bind (.ref a);have hx0:(expr&&onTheHeap (Value.builtin "BaseException.__getattribute__"))=false:=by cases expr<;>rfl
 have hx2:(Value.builtin "BaseException.__getattribute__" == Value.builtin "object.__getattribute__")=false:=by decide +kernel
 have hx1:(onTheHeap (AZ C)&&Value.builtin "BaseException.__getattribute__" == Value.builtin "object.__getattribute__")=false:=by rw [hx2];rfl
 have L1:=looks_findIn (M:=model prog w) X F.ga;have L2':=looks_findIn (M:=model prog w) X F.gt;have hx:=I.at_;have hc:=I.cls
 repeat (any_goals (first|assumption|(with_reducible refine DN hx ?_;rw [hc])|with_reducible refine L1.at ?_|with_reducible refine L2'.at ?_|wp_step))
 refine kO X F I ?_
 repeat (any_goals (first|assumption|wp_step))
def kP (X:K.In h)(F:ExK K C)(I:ExAt h a o C)(hq:Q (some (.ref C)) ⟨h,g,d,t+1,os⟩) :
  wpAny (model prog w) A (getAttr? (.ref a) "__class__") Q E ⟨h,g,d,t,os⟩:=by
 unfold getAttr? getAttrBy?
 repeat (any_goals (first|assumption|with_reducible apply oA X F I|wp_step))
end
def yT {K:Frag}{a C:Addr}{o:Obj}(F:ExK K C):KitX K (.ref a) (.ref C) (λh=>ExAt h a o C) where
 ty:=λM h X I=>I.type
 it:=λM h X I=>by
  have hcD:=F.ci;unfold clsIn at hcD;split at hcD
  ·rename_i c' d' cd' sl' ho
   intro A' Q' E' s' k q;unfold isType loadHead;exact Aw (wpAny_loadPart (k _ _ (X _ _ ho)) (AM q))
  ·cases hcD
 ne:=λh tp dd its n sl X htp=>by
  have hcD:=F.ci;refine Bool.eq_false_iff.mpr λq=>?_;have e:C=tp:=AZ.inj (beq_iff_eq.mp q);subst e;unfold clsIn at hcD;split at hcD
  ·rename_i c' d' cd' sl' ho
   have:=X _ _ ho;rw [htp] at this;cases this
  ·cases hcD
 ca:=λ{prog w A E Q s} X I hq=>by
  obtain ⟨hh,g,d,t,os⟩:=s;exact kP X F I hq
def excO (a C:Addr):HO:=.ext λh=>∃ o,ExAt h a o C
section
variable {X:Cx}
end
def aCz (o:Obj)(f:Array Value->Array Value):(Obj.mapFields f o).dict=o.dict:=by
 unfold Obj.mapFields;split<;>rfl
def TrD (h base:Heap)(e:Addr)(cls:Value)(dd:Option Addr)(fl:Value):Prop:=
 ∃ (ob tb:Obj) (us ts:Array Value) (T:Addr),(h.get? e=some ob/\ob.data=.fields us/\ob.cls=cls/\ob.dict=dd)/\us[1]?=some (.ref T)/\(base.get? T=none/\T≠e)/\h.get? T=some tb/\tb.data=.fields ts/\ts[3]?=some fl
structure FlyD (base:Heap)(l:List Env)(e:Addr)(cls:Value)(dd:Option Addr)(fl:Value)(h:Heap):Prop where
 st:base.StaysIn h
 no:base.get? e=none
 fr:h.FunFrames base l
 tr:TrD h base e cls dd fl
theorem FlyD.at (x:FlyD base l e cls dd fl h):∃ ob us,h.get? e=some ob/\ob.cls=cls/\ob.dict=dd/\ob.data=.fields us:=by
 obtain ⟨ob,_,us,_,_,⟨a,b,c,d⟩,_⟩:=x.tr;exact ⟨ob,us,a,c,d,b⟩
section
variable {M:Model}{A:Around}{E:Value->Shared->Prop}{s:Shared}{base:Heap}{env:Env}{outer:List Env}{L e:Addr}{Q:Unit->Shared->Prop}{cls:Value}{dd:Option Addr}
def aAm {had:Bool}(frs:A.frames=some (env::outer))(ff:s.heap.FunFrames base (env::outer))(fL:env.frame=some L)(ge:s.heap.get? e=some ob)(st:base.StaysIn s.heap)(no:base.get? e=none)(du:ob.data=.fields us)(sz:1<us.size)(k:∀ h',FlyD base (env::outer) e ob.cls ob.dict (rawInt L) h'->s.heap.UpToSlots h'->Q () { s with heap:=h' }) :
  wpAny M A (do let fo <- frameOf env;let pl <- entryPlaceOf L had;let row <- EntryCells.newEntry head fo .none (rawInt L) .none pl;setField (.ref e) 1 row) Q E s:=by
 have eNot:e∉(env::outer).filterMap (·.frame):=λmem=>by
  obtain ⟨_,o',g',nf⟩:=ff.mem mem;cases ge.symm.trans g';exact nf us du
 refine Aw (wpAny_frameOf_fun frs ff fL λh1 only=>Aw (wpAny_entryPlaceOf λpl plOk=>?_));unfold EntryCells.newEntry newFields;refine Aw (wpAny_newObj_type ?_ (plOk.sizeOk5 _ _ _ _ _));have g1:h1.get? e=some ob:=(only.2.1 e eNot).trans ge;have st1:base.StaysIn h1:=λb o q=>(only.2.1 b λmem=>by
  rw [(ff.mem mem).1] at q;cases q).trans (st b o q)
 generalize hrow:({ cls:=.type "traceback",dict:=none,data:=.fields ([head,.ref L,.none,rawInt L,.none]++(if pl.isEmpty then Cy 6 CP else pl)).toArray }:Obj)=row;have g2:(h1.push row).get? e=some ob:=Av row g1;have Tne:h1.objs.size≠e:=Nat.ne_of_gt (AD g1);have du':=Obj.data_mapFields du (·.setIfInBounds 1 (AZ h1.objs.size));have gT:(h1.push row).get? h1.objs.size=some row:=AK h1 (by rw [<- hrow];rfl);have old:∀ b o,b≠e->h1.get? b=some o->((h1.push row).update e (Obj.mapFields (·.setIfInBounds 1 (AZ h1.objs.size)))).get? b=some o:=λb o nb q=>by
  rw [Bm _ _ (Au nb)];exact Av row q
 have nofld:∀ b o,s.heap.get? b=some o->(∀ vs,o.data≠.fields vs)->b≠e:=λb o q nf z=>by
  subst z;cases ge.symm.trans q;exact nf us du
 refine wpAny_setField g2 du sz (k _ ⟨λb o q=>old b o ?_ (st1 b o q),no,ff.of_keeps λb o q nf=>?_,?_⟩ λb o q nf=>?_)
 ·rintro rfl
  rw [no] at q;cases q
 ·obtain ⟨sl,z⟩:=only.2.2 b o q
  exact ⟨_,old b _ (nofld b o q nf) z,rfl⟩
 ·refine ⟨_,row,_,([head,.ref L,.none,rawInt L,.none]++(if pl.isEmpty then Cy 6 CP else pl)).toArray,h1.objs.size,⟨DI _ g2 (Obj.isFreed_of_fields du'),du',Obj.cls_mapFields _ _,aCz _ _⟩,by simp [sz],⟨?_,Tne⟩,?_,by rw [<- hrow],by simp⟩
  ·cases z:base.get? h1.objs.size with
   |none=>rfl
   |some o=>exact absurd (AD (st1 _ _ z)) (BP _)
  ·rw [Bm _ _ (Au Tne)]
   exact gT
 ·obtain ⟨sl,z⟩:=only.2.2 b o q
  exact ⟨sl,old b _ (nofld b o q nf) z⟩
def pJ (F:FlyD base l e cls dd fl s.heap)(k:∀ h',FlyD base l e cls dd .none h'->s.heap.UpToSlots h'->Q () { s with heap:=h' }):wpAny M A (setFlight (.ref e) none) Q E s:=by
 obtain ⟨st,no,ff,ob,tb,us,ts,T,⟨ge,du,cc,cd⟩,u1,⟨nT,Tne⟩,gT,dt,t3⟩:=F;unfold setFlight;refine Aw (wpAny_field ge du u1 ?_);rw [if_pos (show (AZ T != CP)=true from rfl)];have z3:3<ts.size:=(CY.mp t3).1;have dt':=Obj.data_mapFields dt (·.setIfInBounds 3 ((none:Option Addr).elim CP λf=>rawInt f));have old:∀ b,b≠T->(s.heap.update T (Obj.mapFields (·.setIfInBounds 3 ((none:Option Addr).elim CP λf=>rawInt f)))).get? b=s.heap.get? b:=λb nb=>Bm _ _ (Au nb);have nofld:∀ b o,s.heap.get? b=some o->(∀ vs,o.data≠.fields vs)->b≠T:=λb o q nf z=>by
  subst z;cases gT.symm.trans q;exact nf ts dt
 refine wpAny_setField gT dt z3 (k _ ⟨λb o q=>?_,no,ff.of_keeps λb o q nf=>⟨o,(old b (nofld b o q nf)).trans q,rfl⟩,?_⟩ λb o q nf=>⟨o.slots,(old b (nofld b o q nf)).trans q⟩)
 ·refine (old b ?_).trans (st b o q)
  rintro rfl
  rw [nT] at q;cases q
 ·exact ⟨ob,_,us,_,T,⟨(old e (Au Tne)).trans ge,du,cc,cd⟩,u1,⟨nT,Tne⟩,DI _ gT (Obj.isFreed_of_fields dt'),dt',by simp [z3]⟩
def aE3 (frs:A.frames=some (env::outer))(ff:s.heap.FunFrames base (env::outer))(fL:env.frame=some L)(ge:s.heap.get? e=some ob)(st:base.StaysIn s.heap)(no:base.get? e=none)(du:ob.data=.fields us)(u1:us[1]?=some .none)(k:∀ h',FlyD base (env::outer) e ob.cls ob.dict (rawInt L) h'->s.heap.UpToSlots h'->Q () { s with heap:=h' }):wpAny M A (noteFrame (.ref e) env) Q E s:=by
 unfold noteFrame;simp only [fL];refine Aw (wpAny_field ge du u1 ?_);rw [if_neg (by decide)];exact aAm frs ff fL ge st no du (CY.mp u1).1 k
def aGm (frs:A.frames=some (env::outer))(fL:env.frame=some L)(F:FlyD base (env::outer) e cls dd .none s.heap)
  (k:∀ h',FlyD base (env::outer) e cls dd (rawInt L) h'->s.heap.UpToSlots h'->Q () { s with heap:=h' }):wpAny M A (noteFrame (.ref e) env) Q E s:=by
 obtain ⟨st,no,ff,ob,tb,us,ts,T,⟨ge,du,cc,cd⟩,u1,⟨nT,Tne⟩,gT,dt,t3⟩:=F;subst cc cd;unfold noteFrame;simp only [fL];refine Aw (wpAny_field ge du u1 ?_);rw [if_pos (show (AZ T != CP)=true from rfl)];refine Aw (wpAny_field gT dt t3 ?_);rw [if_neg (show ¬ ((CP==rawInt L)=true) from by simp [rawInt])];have z3:3<ts.size:=(CY.mp t3).1;have old:∀ b,b≠T->(s.heap.update T (Obj.mapFields (·.setIfInBounds 3 CP))).get? b=s.heap.get? b:=λb nb=>Bm _ _ (Au nb);have nofld:∀ b o,s.heap.get? b=some o->(∀ vs,o.data≠.fields vs)->b≠T:=λb o q nf z=>by
  subst z;cases gT.symm.trans q;exact nf ts dt
 refine Aw (wpAny_setField gT dt z3 ?_);refine aAm frs (ff.of_keeps λb o q nf=>⟨o,(old b (nofld b o q nf)).trans q,rfl⟩) fL ((old e (Au Tne)).trans ge) (λb o q=>?_) no du (CY.mp u1).1 λh' F' up=>k h' F' λb o q nf=>up b o ((old b (nofld b o q nf)).trans q) nf;refine (old b ?_).trans (st b o q)
 rintro rfl
 rw [nT] at q;cases q
def FlyD.tail (F:FlyD base (env::outer) e cls dd fl h):FlyD base outer e cls dd fl h:=⟨F.st,F.no,F.fr.2.2,F.tr⟩
def aCs (frs:A.frames=some (env::outer))(ff:s.heap.FunFrames base (env::outer))(fL:env.frame=some L)(ge:s.heap.get? e=some ob)(st:base.StaysIn s.heap)(no:base.get? e=none)(du:ob.data=.fields us)(u1:us[1]?=some .none)(k:∀ h',FlyD base outer e ob.cls ob.dict .none h'->s.heap.UpToSlots h'->Q () { s with heap:=h' }):wpAny M A (leaving env (.ref e)) Q E s:=by
 unfold leaving;exact Aw (aE3 frs ff fL ge st no du u1 λh' F' up=>pJ F' λh'' F'' up'=>k h'' F''.tail (up.trans up'))
end
structure Flx (P:AE)(w:World)(outer:List Env)(H:Hp)(s:Shared)(H':Hp)(ea:Addr)(cls:Value)(dd:Option Addr)(s':Shared):Prop where
 os:s'.os=s.os
 bare:AllBare s'.gens
 un:Un (frs outer) [] H H' s.heap s'.heap
 fl:∃ B:Heap,HOk P w H' B/\FlyD B outer ea cls dd .none s'.heap/\(∀ b o,s.heap.get? b=some o->H b=none->b∉frs outer->B.get? b=some o)/\(∀ b o,s.heap.get? b=some o->b∉frs outer->∃ o',B.get? b=some o')
def CXg (P:AE)(w:World):CXT:=λouter H s E e s'=>∃ (ea C:Addr) (dd:Option Addr) (H':Hp),e=.ref ea/\Flx P w outer H s H' ea (.ref C) dd s'/\E (.ref C) dd H'
structure OwnF (X:Cx):Prop where
 stk:X.stack=X.env::X.outer
 fr:X.env.frame=some X.env.locals
 ex:X.ex=[]
section
variable {X:Cx}{pins:List (Addr×Obj)}{σ:St}{H H':Hp}{s s':Shared}
def aAd (O:OwnF X)(I:Inv X pins σ H s)(e:X.s₀.heap.get? b=some o)(hb:b∉frs X.outer):b∉frs X.stack:=by
 rw [O.stk];intro z;unfold frs at z hb;rw [Dm,O.fr] at z
 rcases Ae.mp z with z|z
 ·exact absurd (AQ (AD e) I.ok.above) (by rw [z];exact BP _)
 ·exact hb z
def aGp (O:OwnF X)(hb:b∈frs X.outer):b∈frs X.stack:=by
 rw [O.stk];unfold frs at *
 rw [Dm,O.fr];exact AL _ hb
def aFy (O:OwnF X)(I:Inv X pins σ H s){B h':Heap}(u:Un (frs X.stack) [] H H' s.heap s'.heap)(bk:∀ b o,X.s₀.heap.get? b=some o->X.H₀ b=none->b∉frs X.outer->B.get? b=some o)
  (th:∀ b o,X.s₀.heap.get? b=some o->b∉frs X.outer->∃ o',B.get? b=some o') (st:B.StaysIn h') (up:s'.heap.UpToSlots h'):Un (frs X.outer) [] X.H₀ H' X.s₀.heap h':=by
 have noex:∀ b:Addr,b∉X.ex:=λb z=>by rw [O.ex] at z;cases z
 have slot:∀ b o,X.s₀.heap.get? b=some o->X.H₀ b=none->b∈frs X.outer->∃ sl,h'.get? b=some { o with slots:=sl }:=λb o e n hb=>by
  obtain ⟨sl,e1⟩:=I.base.slot b o e n hb (noex b);have n1:=I.base.free b o e n (noex b);obtain ⟨sl2,e2⟩:=u.slot b _ e1 n1 (aGp O hb) (by simp);obtain ⟨_,o',ho',hnf⟩:=I.ok.funs.mem hb;rw [e] at ho';cases ho';obtain ⟨sl3,e3⟩:=up b _ e2 (λvs q=>hnf vs q);exact ⟨sl3,e3⟩
 refine ⟨λb o e n hb _=>st b o (bk b o e n hb),λb o e n hb _=>slot b o e n hb,λb o e n _=>?_,λb o e _=>?_,λb xs e=>u.tups _ _ (I.base.tups _ _ e),λb o x e=>u.frzs _ _ _ (I.base.frzs _ _ _ e),λb ps e=>?_⟩
 ·obtain ⟨o1,e1⟩:=I.base.there b o e (noex b)
  exact u.free b o1 e1 (I.base.free b o e n (noex b)) (by simp)
 ·by_cases hb:b∈frs X.outer
  ·obtain ⟨sl,q⟩:=slot b o e (I.ok.frf b hb) hb
   exact ⟨_,q⟩
  ·obtain ⟨o2,e2⟩:=th b o e hb
   exact ⟨o2,st b o2 e2⟩
 ·obtain ⟨m1,e1⟩:=I.base.tbls b ps e
  obtain ⟨m2,e2⟩:=u.tbls _ _ e1;exact ⟨m1++m2,by rw [e2,Array.append_assoc]⟩
def aGv (I:Inv X pins σ H s)(hea:H ea=none):HOk X.prog X.w H (hideAll s.heap (ea::frs X.stack)):=λa o e=>(I.hok a o e).stay (λb u hb q=>hideAll_get _ q λz=>by
 have n:H b=none:=by
  rcases Ae.mp z with z|z
  ·rw [z];exact hea
  ·exact I.stkFree b z
 rcases hb with hb|hb
 ·rw [<- hb] at e;rw [e] at n;cases n
 ·rw [hb] at n;cases n) (λ_ h=>h) (λ_ _ h=>h)
def vN (O:OwnF X)(I:Inv X pins σ H s){ea C:Addr}{dd:Option Addr}{ob:Obj}{us:Array Value}{E':Value->Shared->Prop}{Q:Unit->Shared->Prop}(hea:H ea=none)(n0:X.s₀.heap.get? ea=none)(ge:s.heap.get? ea=some ob)
  (hc:ob.cls=.ref C) (hdd:ob.dict=dd) (du:ob.data=.fields us) (u1:us[1]?=some .none)
  (k:∀ h',Flx X.prog X.w X.outer X.H₀ X.s₀ H ea (.ref C) dd { s with heap:=h' }->Q () { s with heap:=h' }):wpAny (model X.prog X.w) X.A (leaving X.env (.ref ea)) Q E' s:=by
 have nfr:ea∉frs X.stack:=λz=>by
  obtain ⟨_,o',ho',hnf⟩:=I.stack.mem z;rw [ge] at ho';cases ho';exact hnf us du
 have hin:∀ env∈X.stack,∀ b,env.frame=some b->b∈ea::frs X.stack:=λenv he b hb=>AL _ (List.mem_filterMap.mpr ⟨env,he,hb⟩);have hfr:X.A.frames=some (X.env::X.outer):=by rw [<- O.stk];exact I.ok.frames
 have hl:s.heap.FunFrames (hideAll s.heap (ea::frs X.stack)) (X.env::X.outer):=by rw [<- O.stk];exact funFrames_hide I.stack hin
 have nB:(hideAll s.heap (ea::frs X.stack)).get? ea=none:=hideAll_none _ (AO ..);have bk:∀ b o,X.s₀.heap.get? b=some o->X.H₀ b=none->b∉frs X.outer->(hideAll s.heap (ea::frs X.stack)).get? b=some o:=λb o e n hb=>by
  refine hideAll_get _ (I.base.keep b o e n hb (by rw [O.ex];simp)) λz=>?_
  rcases Ae.mp z with z|z
  ·rw [z,n0] at e;cases e
  ·exact aAd O I e hb z
 have th:∀ b o,X.s₀.heap.get? b=some o->b∉frs X.outer->∃ o',(hideAll s.heap (ea::frs X.stack)).get? b=some o':=λb o e hb=>by
  obtain ⟨o1,e1⟩:=I.base.there b o e (by rw [O.ex];simp);refine ⟨o1,hideAll_get _ e1 λz=>?_⟩
  rcases Ae.mp z with z|z
  ·rw [z,n0] at e;cases e
  ·exact aAd O I e hb z
 refine aCs (base:=hideAll s.heap (ea::frs X.stack)) hfr hl O.fr ge (λb o q=>of_hideAll _ q) nB du u1 λh' F' up=>k h' ⟨I.os,I.bare,?_,hideAll s.heap (ea::frs X.stack),aGv I hea,by rw [<- hc,<- hdd];exact F',bk,th⟩;exact aFy (s':=s) O I Un.refl bk th F'.st up
end
abbrev cxF (P:AE)(w:World)(K:Frag)(mg:Str->Option Value)(base:Heap)(N:List Str)(qual:Str)(scope:Scope)(f:Addr)(cd:Value)(A:Around)(outer:List Env)(s:Shared)(H:Hp)(E:XK):Cx:=cxOf (CXg P w) P w K mg base N qual scope f cd A outer s H E
section
variable {P:AE}{w:World}{K:Frag}{mg:Str->Option Value}{base:Heap}{N:List Str}{qual:Str}{scope:Scope}{f:Addr}{cd:Value}{A:Around}{outer:List Env}{s:Shared}{H:Hp}{E:XK}
def aBr:OwnF (cxF P w K mg base N qual scope f cd A outer s H E):=⟨rfl,rfl,rfl⟩
def XeOk (X:Cx)(E:XK):Prop:=∀ (pins:List (Addr×Obj)) (σ:St) (H:Hp) (s:Shared) (ea C:Addr) (ob:Obj) (us:Array Value),Inv X pins σ H s->H ea=none->X.s₀.heap.get? ea=none->s.heap.get? ea=some ob->ob.cls=.ref C->ob.data=.fields us->us[1]?=some .none->E (.ref C) ob.dict H->X.xe (.ref ea) s
def xe_f:XeOk (cxF P w K mg base N qual scope f cd A outer s H E) E:=by
 intro pins σ Hc sc ea C ob us I hea n0 ge hc du u1 hE;exact vN (X:=cxF P w K mg base N qual scope f cd A outer s H E) aBr I hea n0 ge hc rfl du u1 λh'' F'=>⟨ea,C,ob.dict,Hc,rfl,F',hE⟩
def Fun.okF {x:Str}{st:Stmt}{fd:Bj}{ps:List Str}{k:Nat}{sp:Sp}(F:Fun K x qual st f fd)(S:FnScope N ps (aG st))(len:∀ vs H Q E,sp vs H Q E->vs.length=ps.length)
  (hbody:∀ (cdv:Value) (A:Around) (outer:List Env) (s:Shared) (H:Hp) (vs:List V) (Q:VK) (E:XK),Room k (A.deeper (envOfC qual (aG st) s.heap.objs.size f cdv))->sp vs H Q E ->
   ∃ t,PSs (cxF P w K mg base N qual (aG st) f cdv A outer s H E) (dZ st) t/\t { nx:=λ_ H'=>Q .non H',rt:=Q } (start N vs) H):FnOk P w K mg base (CXg P w) (k+1) f fd ps sp:=by
 obtain ⟨oc,od,kV,doc,pm,an,cdv,ct,osl,rfl,lk,hcd⟩:=F.ex;exact aFn lk hcd S len λA outer s H vs Q E hr hsp=>hbody cdv A outer s H vs Q E hr hsp
end
structure CtK (K:Frag)(D:Addr):Prop where
 ty:typeIn K (.ref D)=some (.type "type")
 ci:(clsIn K D).isSome=true
 sb:subIn K (.ref D) (.type "BaseException")=some true
def pK {M:Model}{A:Around}{E:Value->Shared->Prop}{h:Heap}{g:Array GenState}{d:Drawn}{t:Nat}{os:OsState}{e C D:Addr}{o:Obj}{K:Frag}{Q:Bool->Shared->Prop}(X:K.In h)(I:ExAt h e o C)(F:CtK K D)(hs:subIn K (.ref C) (.ref D)=some true)
  (hq:Q true ⟨h,g,d,t,os⟩):wpAny M A (excMatches (.ref e) (.ref D)) Q E ⟨h,g,d,t,os⟩:=by
 have L1:=looks_typeIn (M:=M) X F.ty;have L2':Looks M h (isType (.ref D)) true:=by
  have hcD:=F.ci;unfold clsIn at hcD;split at hcD
  ·rename_i c' d' cd' sl' ho
   intro A' Q' E' s' k q;unfold isType loadHead;exact Aw (wpAny_loadPart (k _ _ (X _ _ ho)) (AM q))
  ·cases hcD
 have L3:=looks_subIn (M:=M) X F.sb;have L4:=looks_subIn (M:=M) X hs;have L5:=I.type (M:=M);have f:=tc_notTuple;unfold excMatches isInstance
 repeat (first|with_reducible refine L1.at ?_|with_reducible refine L2'.at ?_|with_reducible refine L3.at ?_|with_reducible refine L4.at ?_|with_reducible refine L5.at ?_|wp_step)
 exact hq
abbrev bmV:List Value:=[.type "ValueError",.type "Exception",.type "BaseException",.type "object"]
structure ClsObj (h:Heap)(C:Addr)(bmB:List Value)(newId:String):Prop where
 ex:∃ (nm q:Str) (N:Addr) (bs bm:List Value) (hdct:Bool) (sn:List Str) (sub:List Value) (ab:Bool) (col:Option Bool) (dd:Option Addr) (k0 k1 k2 k3 k5:Option Value) (mN:Str->Option Value),
  h.get? C=some (excClassObj nm q C N bs bm hdct sn sub ab col dd k0 k1 k2 k3 k5 newId)/\h.Ns N mN/\mN "__init__" = none/\OwnTail h bmB bm
def wA {K:Frag}{h:Heap}{C:Addr}{bmB:List Value}{newId:String}(X:K.In h)(q:excIn K C bmB newId=true):ClsObj h C bmB newId:=by
 unfold excIn at q;split at q
 case h_2=>cases q
 case h_1 dd cd sl ho=>
  split at q
  case h_2=>cases q
  case h_1 C' bm k0 k1 k2 k3 n k5 hm hs=>
   simp only [Cq,beq_iff_eq,Bool.not_eq_true'] at q;obtain ⟨⟨⟨⟨⟨e1,e2⟩,hdel⟩,ht⟩,hok⟩,hni⟩:=q;cases e1;cases e2;obtain ⟨nm,bs,mro,ns,qn,hd,sn,sub,ab,col,del⟩:=cd;obtain ⟨sl⟩:=sl;dsimp only at hm hdel hok hni hs;subst hm hdel hs;exact ⟨nm,qn,ns,bs,bm,hd,sn,sub,ab,col,dd,k0,k1,k2,k3,k5,_,X _ _ ho,.of_isNs (isNs_of_in X hok),nsMap_none_of_in X hok hni,tail_of_in X ht⟩
def qS (x:ObjOk P w H h a o):∃ ob,h.get? a=some ob:=by
 cases o with
 |lst xs=>obtain ⟨_,_,_,_,e⟩:=x;exact ⟨_,e⟩
 |tup xs=>obtain ⟨_,_,_,ob,e,_⟩:=x;exact ⟨_,e⟩
 |dK kvs=>obtain ⟨_,_,_,_,ob,_,_,e,_⟩:=x;exact ⟨_,e⟩
 |dT kvs=>obtain ⟨_,_,_,_,ob,_,_,e,_⟩:=x;exact ⟨_,e⟩
 |set S n=>obtain ⟨ob,_,_,_,e,_⟩:=x;exact ⟨_,e⟩
 |ins C dx fs=>obtain ⟨_,_,_,e,_⟩:=x;exact ⟨_,e⟩
 |own y=>obtain ⟨_,e⟩:=x;exact ⟨_,e⟩
 |xd fs=>obtain ⟨_,⟨_,_,_,e,_⟩,_⟩:=x;exact ⟨_,e⟩
 |rng lo hi=>obtain ⟨_,_,_,e⟩:=x;exact ⟨_,e⟩
 |frz ob u=>obtain ⟨e,_⟩:=x;exact ⟨_,e⟩
 |tbl ps=>exact ⟨_,(show h.get? a=some _ from x)⟩
 |met f y=>exact ⟨_,(show h.get? a=some _ from x)⟩
 |ext φ=>obtain ⟨_,⟨_,e⟩,_⟩:=x;exact ⟨_,e⟩
def excD (a C:Addr)(dd:Option Addr):HO:=.ext λh=>∃ o,ExAt h a o C/\o.dict=dd/\∃ us,o.data=.fields us
def Inv.absent {σ:St}(I:Inv X pins σ H s)(n:s.heap.get? e=none):H e=none:=by
 cases q:H e with
 |none=>rfl
 |some o=>
  obtain ⟨ob,z⟩:=qS (I.hok e o q);rw [n] at z;cases z
def Inv.absent0 {σ:St}(I:Inv X pins σ H s)(hex:X.ex=[])(n:s.heap.get? e=none):X.s₀.heap.get? e=none:=by
 cases q:X.s₀.heap.get? e with
 |none=>rfl
 |some o=>
  obtain ⟨ob,z⟩:=I.base.there e o q (by rw [hex];simp);rw [n] at z;cases z
def aDi (C:Addr)(E:XK)(t:TA):TS:=λ_ σ H=>t σ H λvs H1=>vs.length<=AB/\E (.ref C) none H1
section
variable {X:Cx}
def xO {x:Str}{C:Addr}{e₀:Expr}{es:List Expr}{t:TA}{E:XK}{np cpos pos:Pos}(hex:X.ex=[])(hX:XeOk X E)(hc:X.calm=true)(hg:Gl X x)(hm:X.mg x=some (.ref C))(hei:excIn X.K C bmV "ValueError.__new__" = true)(ha:PA X (e₀::es) t)
  (hdb:(x==("__debug__":Str))=false:=by decide) (he:AY (e₀::es) X.env=(false,eval e₀ X.env)::AY es X.env:=by rfl) (hplain:(backTo cpos (AY es X.env)).any (·.1)=false:=by rfl) :
  PS X (.Raise (some (.Call (.Name x np) (e₀::es) [] cpos)) none pos) (aDi C E t):=by
 intro pins s σ H D I h;obtain ⟨nm,q,N,bs,bm,hdct,sn,sub,ab,col,dd,k0,k1,k2,k3,k5,mN,hC,hN,hni,T⟩:=(wA I.ok.mod.kin hei).ex;have FB:=PySem.F.excBase_ValueError;refine wpAny_Raise_call_subU (C:=C) (nm:=nm) (q:=q) (N:=N) (bs:=bs) (bm:=bm) (hdct:=hdct) (sn:=sn) (sub:=sub) (ab:=ab) (col:=col) (dd:=dd) (k0:=k0) (k1:=k1) (k2:=k2) (k3:=k3) (k5:=k5) FB FB.hasB FB (mN:=mN)
  (T.hasType FB.hasBase) (I.ok.hd hc) (by rw [he];show (false||(backTo cpos (AY es X.env)).any (·.1))=false;rw [hplain];rfl) hni (jU I hg hm ⟨rfl,?_⟩ hdb)
 have z:=ha cpos pins s σ H _ I h;rw [he] at z ⊢;refine CZ (thn z λus s1 ⟨vs,H1,I1,r1,hl,q1⟩=>⟨rfl,?_,I1.bk _ _ hC,hN.keeps I1.bk,T.keeps I1.bk,λh' e hmade=>?_⟩)
 ·show us.length<=AB
  rw [<- r1.length];exact hl
 ·obtain ⟨t',ge,_,_⟩:=hmade.there
  have hn:H1 e=none:=I1.absent hmade.new;have n0:X.s₀.heap.get? e=none:=I1.absent0 hex hmade.new;exact hX pins σ H1 { s1 with heap:=h' } e C _ _ (I1.kept (t':=s1.toks) hmade.keeps) hn n0 ge rfl rfl rfl q1
def hJ:eT X (.builtin "isinstance") (λxs H Q=>∃ a C dd c v b,xs=[.ref a,v]/\H a=some (excD a C dd)/\ExK X.K C/\RelV v c/\kitOne X.K (.ref C) c=some b/\Q (.bl b) H):=by
 intro pins s σ H xs us Q I r h;obtain ⟨a,C,dd,c,v,b,rfl,hH,F,rc,hk,q⟩:=h;obtain ⟨u,w',rfl,rx,ry⟩:=vals2 r;cases rx;obtain ⟨⟨o,hi,_⟩,_⟩:=I.hok a _ hH;have e:w'=c:=by
  have:=ry;cases v with
  |ref z=>cases ry;cases rc;rfl
  |ty z=>cases ry;cases rc;rfl
  |non=>cases ry;cases rc;rfl
  |bl z=>cases ry;cases rc;rfl
  |int z=>obtain ⟨_,rfl⟩:=rc;simp [kitOne,kitCls] at hk
  |str z=>obtain ⟨_,rfl⟩:=rc;simp [kitOne,kitCls] at hk
  |byt z=>obtain ⟨_,rfl⟩:=rc;simp [kitOne,kitCls] at hk
  |flt z=>obtain ⟨_,rfl⟩:=rc;simp [kitOne,kitCls] at hk
 subst e;exact kia_one (yT F) I.kIn hi hk (by intro z;cases z) λtk=>⟨.bl b,H,I.tok _,rfl,q⟩
end
abbrev Cx.within (X:Cx)(v:Value):Cx:={ X with A:=X.A.mark (some v),calm:=false,xe:=λ_ _=>False }
abbrev Cx.trying (X:Cx)(pins:List (Addr×Obj))(E:Value->Shared->Prop):Cx:={ X with pn:=X.pn++pins,xe:=E }
section
variable {X:Cx}{pins:List (Addr×Obj)}{σ:St}{H H':Hp}{s s':Shared}
def Inv.within (I:Inv X pins σ H s)(v:Value):Inv (X.within v) pins σ H s:=
 ⟨⟨I.ok.mod,I.ok.kind,I.ok.glob,I.ok.blt,I.ok.above,I.ok.inj,I.ok.has,I.ok.cab,(λh=>(by cases h)),I.ok.frames,I.ok.stk,I.ok.exf,I.ok.bs,I.ok.bsz,I.ok.noex,I.ok.exfs,I.ok.funs,I.ok.frf⟩,I.os,I.bare,I.base,I.loc,I.cell,I.free,I.freeC,I.pin,I.hok,I.len⟩
theorem Inv.without (ok:X.Ok)(I:Inv (X.within v) pins σ H s):Inv X pins σ H s:=⟨ok,I.os,I.bare,I.base,I.loc,I.cell,I.free,I.freeC,I.pin,I.hok,I.len⟩
def Inv.trying (I:Inv X pins σ H s)(E:Value->Shared->Prop):Inv (X.trying pins E) [] σ H s:=
 ⟨⟨I.ok.mod,I.ok.kind,I.ok.glob,I.ok.blt,I.ok.above,I.ok.inj,I.ok.has,I.ok.cab,I.ok.hd,I.ok.frames,I.ok.stk,I.ok.exf,I.ok.bs,I.ok.bsz,I.ok.noex,I.ok.exfs,I.ok.funs,I.ok.frf⟩,I.os,I.bare,I.base,I.loc,I.cell,I.free,I.freeC,λp hp=>I.pin p (by rwa [Ck] at hp),I.hok,I.len⟩
def Inv.tried (I:Inv (X.trying pins E) pl σ H s):Inv X pins σ H s:=
 ⟨⟨I.ok.mod,I.ok.kind,I.ok.glob,I.ok.blt,I.ok.above,I.ok.inj,I.ok.has,I.ok.cab,I.ok.hd,I.ok.frames,I.ok.stk,I.ok.exf,I.ok.bs,I.ok.bsz,I.ok.noex,I.ok.exfs,I.ok.funs,I.ok.frf⟩,I.os,I.bare,I.base,I.loc,I.cell,I.free,I.freeC,λp hp=>I.pin p (Af _ hp),I.hok,I.len⟩
def SP.tried (h:SP (X.trying pins E) [] D f s):SP X pins D f s:=by
 cases f with
 |next=>obtain ⟨σ',H',I,q⟩:=h;exact ⟨σ',H',I.tried,q⟩
 |brk=>obtain ⟨σ',H',I,q⟩:=h;exact ⟨σ',H',I.tried,q⟩
 |cont=>obtain ⟨σ',H',I,q⟩:=h;exact ⟨σ',H',I.tried,q⟩
 |ret u=>obtain ⟨v,σ',H',I,r,q⟩:=h;exact ⟨v,σ',H',I.tried,r,q⟩
def Inv.track (I:Inv X pins σ H s)(hn:H a=none)(h0:X.s₀.heap.get? a=none)(hL:a≠X.env.locals)(hc:∀ x c,X.env.cells.lookup x=some c->c≠a)(hp:∀ p∈X.pn++pins,p.1≠a)(ok:ObjOk X.prog X.w (upd H a u) s.heap a u):Inv X pins σ (upd H a u) s:=by
 have old:∀ b o,X.s₀.heap.get? b=some o->b≠a:=λb o e z=>by rw [z,h0] at e;cases e
 have trk:∀ b o,H b=some o->b≠a:=λb o e=>aX e hn;refine ⟨I.ok,I.os,I.bare,⟨I.base.keep,I.base.slot,λb o e n hx=>?_,I.base.there,λb xs e=>?_,λb o x e=>?_,λb ps e=>?_⟩,I.loc,I.cell,?_,λx c e=>?_,λp q=>?_,λb o e=>?_,I.len⟩
 ·rw [aD (old b o e)]
  exact I.base.free b o e n hx
 ·have z:=I.base.tups b xs e
  rw [aD (trk _ _ z)];exact z
 ·have z:=I.base.frzs b o x e
  rw [aD (trk _ _ z)];exact z
 ·obtain ⟨m,z⟩:=I.base.tbls b ps e
  exact ⟨m,by rw [aD (trk _ _ z)];exact z⟩
 ·rw [aD (Au hL)]
  exact I.free
 ·rw [aD (hc x c e)]
  exact I.freeC x c e
 ·obtain ⟨a1,a2,a3⟩:=I.pin p q
  exact ⟨a1,by rw [aD (hp p q)];exact a2,a3⟩
 ·by_cases hb:b=a
  ·subst hb
   rw [aB] at e;cases e;exact ok
  ·rw [aD hb] at e
   exact (I.hok b o e).stay (λ_ _ _ q=>q) (λc q=>by rw [aD (trk _ _ q)];exact q) (λc xs q=>by rw [aD (trk _ _ q)];exact q)
def aAu (I:Inv X pins σ H s){B h':Heap}(u:Un (frs X.stack) [] H H' s.heap s'.heap)(bk:∀ b o,s.heap.get? b=some o->H b=none->b∉frs X.stack->B.get? b=some o)
  (th:∀ b o,s.heap.get? b=some o->b∉frs X.stack->∃ o',B.get? b=some o') (st:B.StaysIn h') (up:s'.heap.UpToSlots h'):Un (frs X.stack) [] H H' s.heap h':=by
 have slot:∀ b o,s.heap.get? b=some o->H b=none->b∈frs X.stack->∃ sl,h'.get? b=some { o with slots:=sl }:=λb o e n hb=>by
  obtain ⟨sl,e1⟩:=u.slot b o e n hb (by simp);obtain ⟨_,o',ho',hnf⟩:=I.stack.mem hb;rw [e] at ho';cases ho';obtain ⟨sl3,e3⟩:=up b _ e1 (λvs q=>hnf vs q);exact ⟨sl3,e3⟩
 refine ⟨λb o e n hb _=>st b o (bk b o e n hb),λb o e n hb _=>slot b o e n hb,u.free,λb o e _=>?_,u.tups,u.frzs,u.tbls⟩
 by_cases hb:b∈frs X.stack
 ·obtain ⟨sl,q⟩:=slot b o e (I.stkFree b hb) hb
  exact ⟨_,q⟩
 ·obtain ⟨o2,e2⟩:=th b o e hb
  exact ⟨o2,st b o2 e2⟩
def uS {i:Nat}(I:Inv X pins σ H s)(hN:X.N.Nodup)(hi:X.N[i]?=some n)(hk:X.env.scope.names.lookup n=some .local)(h:∀ s',Inv X pins (σ.set i none) H s'->Q () s'):wpAny M A (do bindName X.env n .none;unbindBehindTheSuite X.env n pos) Q E s:=by
 obtain ⟨m,hn,hl⟩:=id I.loc;have hcls:(X.env.scope.kind==.class||(X.env.scope.kind==.module&&X.env.locals != X.env.globals))=false:=by rw [I.ok.kind];rfl
 have hiσ:i<σ.length:=by rw [I.len];exact (Ad.mp hi).1
 refine wpAny_nameGoes_keeps hk hn hcls λh' v hn' hs=>?_;have ne:∀ b o,X.s₀.heap.get? b=some o->b≠X.env.locals:=λb o e=>AJ (AQ (AD e) I.ok.above);refine h _ ⟨I.ok,I.os,I.bare,⟨λb o e n hb hx=>(hs.2 b (ne b o e)).trans (I.base.keep b o e n hb hx),λb o e n hb hx=>?_,I.base.free,λb o e hx=>?_,I.base.tups,I.base.frzs,I.base.tbls⟩,⟨_,hn',λj y v' e1 e2 e3=>?_⟩,λy c e=>?_,I.free,I.freeC,λp hp=>?_,λb ob e=>?_,by rw [List.length_set];exact I.len⟩
 ·obtain ⟨sl,e1⟩:=I.base.slot b o e n hb hx
  exact ⟨sl,(hs.2 b (ne b o e)).trans e1⟩
 ·obtain ⟨o',e1⟩:=I.base.there b o e hx
  exact ⟨o',(hs.2 b (ne b o e)).trans e1⟩
 ·by_cases hj:j=i
  ·subst hj
   rw [Cn hiσ] at e2;cases e2
  ·rw [CA (Au hj)] at e2
   obtain ⟨u',r',q⟩:=hl j y v' e1 e2 e3;refine ⟨u',r',?_⟩
   rcases q with ⟨k,e⟩|⟨k,c,e,z⟩
   ·refine .inl ⟨k,?_⟩
    have ny:y≠n:=λe=>hj (mF hN e1 (e▸hi));simp [ny,e]
   ·exact .inr ⟨k,c,e,z.sameBut hs (I.cne y c e)⟩
 ·obtain ⟨v',q⟩:=I.cell y c e
  exact ⟨v',q.sameBut hs (I.cne y c e)⟩
 ·obtain ⟨a1,a2,a3,a4⟩:=I.pin p hp
  exact ⟨(hs.2 p.1 a3).trans a1,a2,a3,a4⟩
 ·refine (I.hok b ob e).stay (λc w' hc q=>(hs.2 c ?_).trans q) (λ_ q=>q) λ_ _ q=>q
  intro z;rw [z] at hc
  rcases hc with hc|hc
  ·rw [<- hc,I.free] at e
   cases e
  ·rw [I.free] at hc
   cases hc
def tTry (K:Frag)(N j:Nat)(Dc:Addr)(tb:XK->TS):TS:=λD σ H=>tb (λcls dd H'=>∃ C,cls=.ref C/\ExK K C/\subIn K (.ref C) (.ref Dc)=some true/\∀ a,H' a=none->D.nx ((Cy N none).set j (some (.ref a))) (upd H' a (excD a C dd))) D σ H
def aEg {i j:Nat}(O:OwnF X)(hg:Gl X d)(hm:X.mg d=some (.ref Dc))(F:CtK X.K Dc)(hN:X.N.Nodup)(hi:X.N[i]?=some n)(hki:X.env.scope.names.lookup n=some .local)(hj:X.N[j]?=some y)(hkj:X.env.scope.names.lookup y=some .local)(hij:i≠j)(hb:∀ (pins:List (Addr×Obj)) (E':Value->Shared->Prop) (Ec:XK),fX (CXg X.prog X.w) (X.trying pins E') Ec->PSs (X.trying pins E') body (tb Ec))(hdb:(d==("__debug__":Str))=false:=by decide)(hnb:(n==("__debug__":Str))=false:=by decide)(hnc:(n==("__classdict__":Str))=false:=by decide)(hs:swapsWith (.Name n np) (some (.Name y py)) apos.line X.env=pure false:=by rfl) :
  PS X (.Try body [.ExceptHandler (some (.Name d dp)) (some n) [.Assign [.Name y py] (.Name n np) apos] hpos] [] [] pos) (tTry X.K X.N.length j Dc tb):=by
 intro pins s σ H D I h;refine wpAny_Try_except (BZ (hb pins _ _ ?hp [] s σ H D (I.trying _) h) (λf s1 z=>?_) λ_ _ z=>z)
 case hp=>
  intro pl σ' Hc sc e s' I0 hx;have I1:Inv X pins σ' Hc sc:=I0.tried;obtain ⟨ea,C,dd,H',rfl,Fl,C',e1,FK,hsub,hk⟩:=hx;cases e1;obtain ⟨B,hok,fl,bk,th⟩:=Fl.fl;have hfr:X.A.frames=some (X.env::X.outer):=by rw [<- O.stk];exact I1.ok.frames
  have fl':FlyD B (X.env::X.outer) ea (.ref C) dd .none s'.heap:=by rw [<- O.stk];exact fl
  have hBe:B.get? ea=none:=fl.no;refine aGm hfr O.fr fl' λh4 held4 up4=>?_;refine pJ held4 λh5 fl5 up5=>?_;have mk:∀ h6:Heap,B.StaysIn h6->s'.heap.UpToSlots h6->Inv X pins σ' H' { s' with heap:=h6 }:=λh6 st up=>
   I1.call' (s':={ s' with heap:=h6 }) (ch:=[]) Fl.os (aAu I1 Fl.un bk th st up) (hok.kept st) Fl.bare (by simp)
  have I5:=mk h5 fl5.st (up4.trans up5);obtain ⟨ob,_,hob,hobc,_,_⟩:=fl5.at;refine wpAny_handleBy_cons (codeAny_handlers_test (jU (I5.within (.ref ea)) hg hm ?_ hdb)) (by intro q;cases q);refine pK I5.kIn ⟨hob,hobc⟩ F hsub ?_;refine codeAny_handlers_suite_as ?_;refine pJ fl5 λh6 fl6 up6=>?_;have I6:=mk h6 fl6.st ((up4.trans up5).trans up6);obtain ⟨ob6,ws,hob6,hobc6,hobdd,hobd6⟩:=fl6.at;have nfr:ea∉frs X.stack:=λz=>by
   obtain ⟨_,o',ho',hnf⟩:=I6.stack.mem z;rw [hob6] at ho';cases ho';exact hnf ws hobd6
  have nsc:sc.heap.get? ea=none:=by
   cases q:sc.heap.get? ea with
   |none=>rfl
   |some o=>
    obtain ⟨o',e'⟩:=th ea o q nfr;rw [hBe] at e';cases e'
  have nH:H' ea=none:=by
   cases q:H' ea with
   |none=>rfl
   |some o=>
    exfalso;have lt:=hok.lt q;obtain ⟨o',e'⟩:∃ o',B.get? ea=some o':=by
     exact qS (hok ea o q)
    rw [hBe] at e';cases e'
  have n0:X.s₀.heap.get? ea=none:=by
   cases q:X.s₀.heap.get? ea with
   |none=>rfl
   |some o=>
    obtain ⟨o',e'⟩:=I1.base.there ea o q (by rw [O.ex];simp);rw [nsc] at e';cases e'
  have nL:ea≠X.env.locals:=λz=>by
   obtain ⟨m,⟨oL,_,_,hoL,_⟩,_⟩:=I1.loc;rw [<- z,nsc] at hoL;cases hoL
  have I7:Inv X pins σ' (upd H' ea (excD ea C dd)) { s' with heap:=h6 }:=I6.track nH n0 nL
   (λx c q z=>by obtain ⟨v,o,ho,_⟩:=I1.cell x c q;rw [z,nsc] at ho;cases ho)
   (λp q z=>by have:=(I1.pin p q).1;rw [z,nsc] at this;cases this)
   ⟨⟨ob6,⟨hob6,hobc6⟩,hobdd,_,hobd6⟩,⟨ob6,hob6⟩,λh1 h2 ⟨o,ho,hd⟩ k=>⟨o,⟨k o ho.at_,ho.cls⟩,hd⟩⟩
  have J:=I7.within (.ref ea);refine lD (X:=X.within (.ref ea)) J hN hi (.inl hki) (show RelV (.ref ea) (.ref ea) from rfl) (λs8 I8=>?_) (.inr hki);have hiσ:i<σ'.length:=by rw [I1.len];exact (Ad.mp hi).1
  have z:=aF (aT (X:=X.within (.ref ea)) (pos:=apos) (pos':=py) (i:=j) hN hj (.inl hkj) (tW (X:=X.within (.ref ea)) (pos:=np) hi (.inl hki) hnb hnc) hs (.inr hkj)) pins s8 (σ'.set i (some (.ref ea))) (upd H' ea (excD ea C dd))
   { nx:=λσ9 H9=>σ9=(σ'.set i (some (.ref ea))).set j (some (.ref ea))/\H9=upd H' ea (excD ea C dd),rt:=λ_ _=>False } I8 ⟨_,Cn hiσ,rfl,rfl⟩
  refine BZ z (λf s9 hf=>?_) (λ_ _ q=>q.elim);cases f with
  |next=>
   obtain ⟨σ9,H9,I9,rfl,rfl⟩:=hf;refine uS (I9.without I1.ok) hN hi hki λs10 I10=>?_;refine ⟨(Cy X.N.length none).set j (some (.ref ea)),_,I10.weak ?_ ?_,hk ea nH⟩
   ·simp [I1.len]
   ·intro q v hq
    by_cases hqj:q=j
    ·subst hqj
     have hjl:q<σ'.length:=by rw [I1.len];exact (Ad.mp hj).1
     rw [Cn (by simp;rw [<- I1.len];exact hjl)] at hq;rw [CA hij,Cn (by simpa using hjl)];exact hq
    ·rw [CA (Au hqj),Ee] at hq
     split at hq<;>cases hq
  |brk=>obtain ⟨_,_,_,q⟩:=hf;exact q.elim
  |cont=>obtain ⟨_,_,_,q⟩:=hf;exact q.elim
  |ret u=>obtain ⟨_,_,_,_,_,q⟩:=hf;exact q.elim
 ·have z':=SP.tried z
  cases f with
  |next=>exact DY z'
  |brk=>exact z'
  |cont=>exact z'
  |ret u=>exact z'
end
def xiIn (K:Frag)(C P f:Addr):Bool:=match K.lookup C with
 |some ⟨.type "type",_,.cls cd,sl⟩=>(match cd.mro,sl.toList with
  |.ref C'::.ref P'::bm,[_,_,_,_,some (.builtin n),_]=>C'==C&&P'==P&&n == "ValueError.__new__" && !cd.hasDel&&cd.hasDict&&tailIn K bmV (.ref P'::bm)&&nsOkIn K cd.ns&&nsIn K cd.ns "__init__" == some (some (.ref f))&&bm==bmV
  |_,_=>false)
 |_=>false
structure ClsI (h:Heap)(C P f:Addr):Prop where
 ex:∃ (nm q:Str) (N:Addr) (bs:List Value) (sn:List Str) (sub:List Value) (ab:Bool) (col:Option Bool) (dd:Option Addr) (k0 k1 k2 k3 k5:Option Value) (mN:Str->Option Value),
  h.get? C=some (excClassObj nm q C N bs (.ref P::bmV) true sn sub ab col dd k0 k1 k2 k3 k5 "ValueError.__new__")/\h.Ns N mN/\mN "__init__" = some (.ref f)/\OwnTail h bmV (.ref P::bmV)
section
variable {prog:AE}{w:World}{A:Around}{E:Value->Shared->Prop}{h:Heap}{g:Array GenState}{d:Drawn}{t:Nat}{os:OsState}{K:Frag}{C P f:Addr}
abbrev excNew (h:Heap)(C:Addr)(rest:List Value):Heap:=(h.push { cls:=.type "tuple",data:=.seq rest.toArray }).push { cls:=.ref C,data:=.fields #[.ref h.objs.size,.none,.none,.none,.bool false,.none] }
end
def exN (a C:Addr)(dd:Option Addr):HO:=.ext λh=>∃ o t,(h.get? a=some o/\o.cls=.ref C/\o.dict=dd)/\o.data=.fields #[t,.none,.none,.none,.bool false,.none]
def rem (H:Hp)(a:Addr):Hp:=λb=>if b=a then none else H b
section
variable {X:Cx}{pins:List (Addr×Obj)}{σ:St}{H:Hp}{s:Shared}
end
structure ExI (K:Frag)(C P f:Addr):Prop where
 xi:xiIn K C P f=true
 fn:typeIn K (.ref f)=some (.type "function")
 kp:keepIn K (.ref C)=true
 k:ExK K C
def tRaiseI (C:Addr)(sp:Sp)(E:XK)(t:TA):TS:=λ_ σ H=>t σ H λvs H1=>vs.length<=AB/\∀ e,H1 e=none ->
 sp (.ref e::vs) (upd H1 e (exN e C none)) (λv H2=>v=.non/\∃ dd,H2 e=some (exN e C dd)/\E (.ref C) dd (rem H2 e)) E0
section
variable {X:Cx}
end
end L2
namespace L2
open PySem PySem.Spec PyProof.Rows PySem.W PySem.Builtin PySem.Builtin.ObjectAttr
section
variable {prog:AE}{w:World}{A:Around}{E:Value->Shared->Prop}{h:Heap}{g:Array GenState}{d:Drawn}{t:Nat}{os:OsState}{K:Frag}{C P f a:Addr}{o:Obj}{name:Str}{v:Value}
end
structure ExF (K:Frag)(C P f:Addr)(x:Str):Prop where
 i:ExI K C P f
 sa:findIn K (.ref C) "__setattr__" = some (some (.builtin "object.__setattr__"))
 nn:findIn K (.ref C) x=some none
def xdE (a:Addr)(fs:List (Str×V)):HO:=.ext λh=>∃ mA,h.Ns1 a mA/\(∀ g,RelO (fs.lookup g) (mA g))/\Within mA (fs.map (·.1))
section
variable {X:Cx}{pins:List (Addr×Obj)}{σ:St}{H:Hp}{s:Shared}{o e value:Expr}{x:Str}{pos pos':Pos}{ta tv:TE}{C P f:Addr}
def sExN (K:Frag)(C P f:Addr)(ta tv:TE)(x:Str):TS:=λD σ H=>tv σ H λy H1=>ta σ H1 λz H2=>∃ a,z=.ref a/\H2 a=some (exN a C none)/\ExF K C P f x /\
 ∀ dx,H2 dx=none->dx≠a->D.nx σ (upd (upd H2 a (exN a C (some dx))) dx (xdE dx [(x,y)]))
end
section
variable {prog:AE}{w:World}{A:Around}{E:Value->Shared->Prop}{h:Heap}{g:Array GenState}{d:Drawn}{t:Nat}{os:OsState}{K:Frag}{C P f a:Addr}{o:Obj}{v:Value}
end
structure BaseI (K:Frag)(P:Addr):Prop where
 rd:readsIn K P (.type "type")=true
 fc:findCls K (.ref P) (.type "type") "__init__" = some (.val (.builtin "ValueError.__init__"))
 ga:specialIn K (.ref P) "__getattribute__" = some (some (.builtin "type.__getattribute__"))
section
variable {X:Cx}{C P f:Addr}{x:Str}{p apos pos:Pos}{e₁ e₂:Expr}{t:TA}
def tBInit (K:Frag)(P:Addr)(t:TA):TE:=λσ H Q=>t σ H λvs H1=>∃ a C dd f txt,vs=[.ref a,.str txt]/\H1 a=some (exN a C dd)/\ExI K C P f/\Q .non H1
def tExF (K:Frag)(ta:TE)(x:Str):TE:=λσ H Q=>ta σ H λz H1=>∃ a C P f dx fs v,z=.ref a/\H1 a=some (excD a C (some dx))/\H1 dx=some (xdE dx fs)/\ExF K C P f x/\fs.lookup x=some v/\Q v H1
end
end L2
namespace L2
open PySem PySem.Spec PyProof.Rows PySem.W
def FmtV:V->Str->Prop
 |.int i,x=>i.natAbs.log2<1920/\x=(toString i:String)
 |.str y,x=>y.length<=AB/\x=y
 |.non,x=>x = "None"
 |_,_=>False
def tFmt (ta:TE):TE:=λσ H Q=>ta σ H λv H1=>∃ x,FmtV v x/\Q (.str x) H1
abbrev TJ:=Str->St->Hp->(Str->Hp->Prop)->Prop
def PJ (X:Cx)(es:List Expr)(t:TJ):Prop:=
 ∀ (acc:Str) (pins:List (Addr×Obj)) (s:Shared) (σ:St) (H:Hp) (Q:Str->Hp->Prop),Inv X pins σ H s->t acc σ H Q->wpAny (model X.prog X.w) X.A (joinParts acc (evalEach es X.env)) (EP X pins σ λv H'=>∃ x,v=.str x/\Q x H') X.xe s
def jNil:TJ:=λacc _ H Q=>acc.length<=AB/\Q acc H
def jCons (te:TE)(tr:TJ):TJ:=λacc σ H Q=>te σ H λv H1=>∃ x,v=.str x/\(acc++x).length<=AB/\tr (acc++x) σ H1 Q
def tJoin (t:TJ):TE:=λσ H Q=>t Str.empty σ H λx H'=>Q (.str x) H'
section
variable {X:Cx}{value e e':Expr}{es:List Expr}{ta te:TE}{tr t:TJ}{pos:Pos}
end
def Its (x:Str):It:=⟨λi _=>∃ c,x.cps[i]?=some c,λi H v H'=>H'=H/\∃ c,x.cps[i]?=some c/\v=.str ⟨#[c]⟩,λi _=>x.cps[i]?=none⟩
def wM {P:AE}{w:World}{K:Frag}{tg:Expr}(x:Str)(t:Tok)(it:Addr)(b:Bool) :
  Turn P w K tg (Its x) [it] it (λi h=>h.IsStrIter it (if b then "str_ascii_iterator" else "str_iterator") x t i) where
 mem:=by simp
 obj:=λi h st a ha=>by
  have e:a=it:=by simpa using ha
  subst e;obtain ⟨o,e,c,d⟩:=st;exact ⟨o,e,λv z=>by rw [d] at z;cases z⟩
 keep:=λi h h' ⟨o,e,r⟩ k=>⟨o,k it (by simp) o e,r⟩
 item:=by
  intro X hP hw hK hc i pins s σ H E I hf st hg;subst hP hw hK;obtain ⟨c,hx⟩:=hg;obtain ⟨f0,f1,f2,f3,f4,f5⟩:=hf it (by simp);have go:∀ h',h'.IsStrIter it (if b then "str_ascii_iterator" else "str_iterator") x t (i+1)->Heap.SameBut it s.heap h' ->
    ∃ u,(some (Value.str ⟨#[c]⟩ s.toks))=some u/\wpAny (model X.prog X.w) X.A (DZ tg (.ref it) u) (λ_ s2=>∃ v H',Inv X pins σ H' s2/\RelV v u/\(Its x).yld i H v H'/\s2.heap.IsStrIter it (if b then "str_ascii_iterator" else "str_iterator") x t (i+1)/\∀ b∈[it],H' b=none) E { s with heap:=h',toks:=s.toks+1 }:=by
   intro h' st' sb;have I1:Inv X pins σ H { s with heap:=h',toks:=s.toks+1 }:=I.turned (t':=s.toks+1) (λb o hb e=>(sb.2 b hb).trans e) f0 f1 f3 f4 f5;obtain ⟨o,e,cc,d⟩:=id st';exact ⟨_,rfl,yZ (s:={ s with heap:=h',toks:=s.toks+1 }) e cc d (by cases b<;>decide) ⟨.str ⟨#[c]⟩,H,I1,⟨_,rfl⟩,⟨rfl,c,hx,rfl⟩,st',λb hb=>(hf b hb).1⟩⟩
  cases b with
  |true=>exact wpAny_pyNext_ascii_item st hx go
  |false=>exact wpAny_pyNext_wide_item st hx go
 done:=by
  intro X hP hw hK hc i pins s σ H E I hf st hg;subst hP hw hK;obtain ⟨f0,f1,f2,f3,f4,f5⟩:=hf it (by simp);cases b with
  |true=>exact wpAny_pyNext_ascii_end (I.ok.hd hc) st hg λh' eb=>⟨rfl,I.turned (t':=s.toks) (λb o hb e=>eb b o hb e) f0 f1 f3 f4 f5⟩
  |false=>exact wpAny_pyNext_wide_end (I.ok.hd hc) st hg λh' eb=>⟨rfl,I.turned (t':=s.toks) (λb o hb e=>eb b o hb e) f0 f1 f3 f4 f5⟩
 self:=λ_ _ _ _ _ st h=>by
  cases b with
  |true=>exact wpAny_pyIter_striter_ascii st h
  |false=>exact wpAny_pyIter_striter_wide st h
def iStr (tl:TE):TI:=λσ H R=>tl σ H λv H1=>∃ x,v=.str x/\R (Its x) H1
section
variable {X:Cx}
def aEh {tg l:Expr}{tl:TE}(hl:PE X l tl):PI X tg l (iStr tl):=by
 intro pins s σ H R I h;refine thn (hl pins s σ H _ I h) λv s1 ⟨y,H1,I1,r1,x,ey,q⟩=>?_;subst ey;obtain ⟨t,rfl⟩:=r1;have fin:∀ b:Bool,PIE X pins σ tg R (.ref s1.heap.objs.size) { s1 with heap:=s1.heap.push { cls:=.type (if b then "str_ascii_iterator" else "str_iterator"),data:=.fields #[.str x t,.int 0 0] } }:=by
  intro b;refine ⟨s1.heap.objs.size,[s1.heap.objs.size],_,_,H1,rfl,I1.kept (t':=s1.toks) λb o e=>Av _ e,wM x t _ b,⟨_,AK _ rfl,rfl,rfl⟩,λb hb=>?_,q⟩;have e:b=s1.heap.objs.size:=by simpa using hb
  subst e;exact I1.fpOk (Ak _) (I1.hok.fresh (Ak _))
 cases ha:x.cps.all (·<128) with
 |true=>exact wpAny_pyIter_ascii ha (fin true)
 |false=>exact wpAny_pyIter_wide ha (fin false)
end
def rPart:V->List V->Hp->VK->Prop:=λz vs H Q=>∃ x y,z=.str x/\vs=[.str y]/\(y.length==0)=false/\x.length<=AB/\∀ p,H p=none->Q (.ref p) (upd H p (.tup [.str (Txt.partition x y).1,.str (Txt.partition x y).2.1,.str (Txt.partition x y).2.2]))
def rSplit:V->List V->Hp->VK->Prop:=λz vs H Q=>∃ x y,z=.str x/\vs=[.str y]/\(y.length==0)=false/\x.length+2<=AB/\∀ p,H p=none->Q (.ref p) (upd H p (.lst ((Txt.split x y).map V.str)))
section
variable {X:Cx}
end
section
variable {X:Cx}
def wN {b:Bool}(h:Q b s):wpAny (model prog w) A (truthy (.bool b)) Q E s:=by
 cases b<;>exact AM h
def range_any {bs:List Bool}:(Bl bs.length).any (λi=>bs.getD i false)=bs.any id:=by
 rw [CO];simp only [List.any_eq_true,DG,id];constructor
 ·rintro ⟨i,hi,h⟩
  exact ⟨bs[i],CN hi,by simpa [List.getD,hi] using h⟩
 ·rintro ⟨b,hb,h⟩
  obtain ⟨i,hi,rfl⟩:=List.getElem_of_mem hb;exact ⟨i,hi,by simpa [List.getD,hi] using h⟩
theorem range_all {bs:List Bool}:(Bl bs.length).all (λi=>bs.getD i false)=bs.all id:=by
 rw [CO];simp only [Cd,DG,id];constructor
 ·intro h b hb
  obtain ⟨i,hi,rfl⟩:=List.getElem_of_mem hb
  simpa [List.getD,hi] using h i hi
 ·intro h i hi
  simpa [List.getD,hi] using h bs[i] (CN hi)
def rD {σ:St}(I:Inv X pins σ H s)(hc:X.calm=true){bs:List Bool}(hq:SqL X.K H p (bs.map V.bl)){E:Value->Shared->Prop}{k:(Nat->Bool)->Nat->Bool}(q:Q (.bl (k (λi=>bs.getD i false) bs.length)) H) :
  wpAny (model X.prog X.w) X.A.in1 (pyIter (.ref p)) (λit s₂=>∃ J fp wr n P St tr,it=.ref J/\Walks X.prog X.w X.A.in1 J fp wr n P St/\St 0 s₂.heap/\TruthOf X.prog X.w X.A.in1 P tr /\
   ∀ h' tk,(∀ b o,b∉wr->s₂.heap.get? b=some o->h'.get? b=some o)->EP X pins σ Q (.bool (k tr n)) { s₂ with heap:=h',toks:=tk }) E s:=by
 obtain ⟨its,rv,pl,hz⟩:=I.list hq;have hl:=rv.length;rw [Ab] at hl;have ne:p≠s.heap.objs.size:=by
  obtain ⟨o,n,e,_⟩:=pl;exact AJ (AD e)
 refine wpAny_pyIter_list pl.isList ?_;have keep:∀ b o,s.heap.get? b=some o->(s.heap.push { cls:=.type "list_iterator",data:=.fields #[.ref p,.int 0 0] }).get? b=some o:=λb o e=>Av _ e;refine ⟨s.heap.objs.size,_,_,_,_,_,λi=>bs.getD i false,rfl,Walks.list (A:=X.A.in1) (show X.A.in1.handled=none from I.ok.hd hc) s.heap.objs.size p ne its.toArray,⟨⟨_,AK _ rfl,rfl,rfl⟩,pl.isList.at λo e=>keep p o e⟩,?_,?_⟩
 ·intro i v s' Q' E' hv hQ
  have hv':its[i]?=some v:=by simpa using hv
  have hi:i<bs.length:=by rw [hl];exact (Ad.mp hv').1
  obtain ⟨u,hu,ru⟩:=rv.get (show (bs.map V.bl)[i]?=some (.bl bs[i]) by simp [hi]);rw [hv'] at hu;cases hu;cases ru;have e:bs.getD i false=bs[i]:=by simp [List.getD,hi]
  dsimp only at hQ;rw [e] at hQ;exact wN hQ
 ·intro h' tk kp
  have J:Inv X pins σ H { s with heap:=h',toks:=tk }:=I.kept (t':=tk) λb o e=>kp b o (by
   have lt:=AD e;intro z;have z':b=s.heap.objs.size:=by simpa using z
   rw [z'] at lt;exact BP _ lt) (keep b o e)
  have es:its.toArray.size=bs.length:=by rw [Ay];omega
  rw [es];exact ⟨.bl _,H,J,rfl,q⟩
def wG (hc:X.calm=true):eT X (.builtin "all") (λxs H Q=>∃ p,∃ bs:List Bool,xs=[.ref p]/\SqL X.K H p (bs.map V.bl)/\Q (.bl (bs.all id)) H):=by
 intro pins s σ H xs us Q I r h;obtain ⟨p,bs,rfl,hq,q⟩:=h;obtain ⟨u,rfl,rx⟩:=vals1 r;cases rx;exact call_all_walk (rD I hc hq (k:=λtr n=>(Bl n).all tr) (by rw [range_all];exact q))
def qC:SlR X (λx lo hi H Q=>∃ a,x=.str a/\a.length<=AB/\Q (.str (BO a lo hi)) H):=by
 intro pins s σ H x v vl vu lo hi sl Q I rx hs pl pu h;obtain ⟨a,rfl,hz,q⟩:=h;obtain ⟨t,rfl⟩:=rx;refine ⟨"str",_,PySem.F.slot_str_getitem.lookup,typeIs_str _ _ _,?_⟩;have fin:∀ t' k,EP X pins σ Q (.str (BO a lo hi) t') { s with toks:=k }:=λt' k=>⟨.str _,H,I.tok _,⟨_,rfl⟩,q⟩;cases pl with
 |none=>cases pu with
  |none=>exact DD (l:=none) (u:=none) (st:=none) hs rfl (post_val_or_str ⟨AX (Txt.slice_le a _ _) hz,fin⟩)
  |int j tj=>exact DD (l:=none) (u:=some (j,tj)) (st:=none) hs rfl (post_val_or_str ⟨AX (Txt.slice_le a _ _) hz,fin⟩)
 |int i ti=>cases pu with
  |none=>exact DD (l:=some (i,ti)) (u:=none) (st:=none) hs rfl (post_val_or_str ⟨AX (Txt.slice_le a _ _) hz,fin⟩)
  |int j tj=>exact DD (l:=some (i,ti)) (u:=some (j,tj)) (st:=none) hs rfl (post_val_or_str ⟨AX (Txt.slice_le a _ _) hz,fin⟩)
def jP (hu:X.A.units+64<cLine):OpR X (Bi .Eq) (λx y H Q=>∃ a b xs,x=.ref a/\y=.ref b/\SqL X.K H a xs/\SqL X.K H b []/\Q (.bl xs.isEmpty) H):=by
 intro pins s σ H x y v u Q I rx ry h;obtain ⟨a,b,xs,rfl,rfl,ha,hb,q⟩:=h;cases rx;cases ry;obtain ⟨its,r,p,_⟩:=I.list ha;obtain ⟨its',r',p',_⟩:=I.list hb;cases r';cases r with
 |nil=>exact SeqAt.RcAt.lists (A:=X.A) (e:=λ_=>true) p.isList p'.isList rfl (by omega) (λj h1=>absurd h1 (by simp)) X.prog X.w X.xe _ ⟨.bl _,H,I,rfl,q⟩
 |cons r t=>exact SeqAt.RcAt.lists_lengths (A:=X.A) p.isList p'.isList rfl (by omega) X.prog X.w X.xe _ ⟨.bl _,H,I,rfl,q⟩
def aAb (hu:X.A.units+64<cLine):OpR X (Bi .NotEq) (λx y H Q=>∃ a b xs,x=.ref a/\y=.ref b/\SqL X.K H a xs/\SqL X.K H b []/\Q (.bl (!xs.isEmpty)) H):=by
 intro pins s σ H x y v u Q I rx ry h;obtain ⟨a,b,xs,rfl,rfl,ha,hb,q⟩:=h;cases rx;cases ry;obtain ⟨its,r,p,_⟩:=I.list ha;obtain ⟨its',r',p',_⟩:=I.list hb;cases r';cases r with
 |nil=>exact DE.lists (A:=X.A) (e:=λ_=>true) p.isList p'.isList rfl (by omega) (λj h1=>absurd h1 (by simp)) X.prog X.w X.xe _ ⟨.bl _,H,I,rfl,q⟩
 |cons r t=>exact DE.lists_lengths (A:=X.A) p.isList p'.isList rfl (by omega) X.prog X.w X.xe _ ⟨.bl _,H,I,rfl,q⟩
end
end L2
namespace TM
open PySem PySem.NumText
def dg (n:Nat):List Nat:=(Nat.toDigits 10 n).map Char.toNat
structure Fig (cs:List Nat):Prop where
 ne:cs≠[]
 len:cs.length<=60
 all:AllDigits cs
 no:cs.head?=some 48->cs.length=1
def Reads (L:List Nat)(t b:Nat):Prop:=
 (Fig L/\t=digitsVal L/\b=1)\/∃ p q,L=p++47::q/\Fig p/\Fig q/\t=digitsVal p/\b=digitsVal q/\2<=b/\Nat.gcd t b=1
def showL (t b:Nat):List Nat:=if b=1 then dg t else dg t++47::dg b
end TM
namespace TM
open PySem PySem.StrLaws PySem.Builtin PySem.Builtin.Str
abbrev cps (x:Str):List Nat:=x.cps.toList
abbrev sl:Str:=⟨#[47]⟩
def ext (h:cps x=cps y):x=y:=by
 obtain ⟨⟨a⟩⟩:=x;obtain ⟨⟨b⟩⟩:=y;have h':a=b:=h;rw [h']
theorem eO (x y:Str):cps (x++y)=cps x++cps y:=by
 show (x.cps++y.cps).toList=_;rw [Array.toList_append]
end TM
namespace L2
open PySem PySem.Spec PyProof.Rows PySem.W
def rCount:V->List V->Hp->VK->Prop:=λx vs H Q=>∃ l xs y,x=.ref l/\vs=[y]/\H l=some (.lst xs)/\fK y=true/\xs.all fK=true/\Q (.int ((xs.countP λz=>eqV z y:Nat):Int)) H
def rIndex:V->List V->Hp->VK->Prop:=λx vs H Q=>∃ l xs y,∃ j:Nat,∃ z,x=.ref l/\vs=[y]/\H l=some (.lst xs)/\fK y=true/\xs.all fK=true/\xs[j]?=some z/\eqV z y=true /\
 (∀ m z,m<j->xs[m]?=some z->eqV z y=false)/\Q (.int (j:Int)) H
section
variable {X:Cx}
end
def aFr:BU "ValueError" = some (.type "ValueError"):=by decide +kernel
def Nx (n i:Nat)(P:Prop):Prop:=∃ m',m'<n-i/\m'=n-(i+1)/\i+1<=n/\P
def Nx.mk {n i:Nat}{P:Prop}(h:i<n)(p:P):Nx n i P:=⟨n-(i+1),by omega,rfl,h,p⟩
def fW {σ:St}:BlkN X N' scope cl σ (Cy N'.length none):=by
 refine ⟨by simp,λi x v h1 h2=>?_⟩;rw [Ee] at h2;split at h2<;>cases h2
def zG {D:Addr}{x:Str}{g:TG}{tt:TT}{te:TE}{σ0:St}{QD:Hp->Prop}{H1:Hp}(Pv:Nat->List V->Hp->Prop)(h0:Pv 0 [] (upd H1 D (.lst [])))
  (hl:∀ i ys H,i<=x.cps.toList.length->Pv i ys H->H D=some (.lst ys)/\ys.length<AB)
  (hs:∀ i c ys H,x.cps.toList[i]?=some c->Pv i ys H->g (.str ⟨#[c]⟩) σ0 H λσ2 H2=>Keep σ0 σ2/\tt σ2 H2 λb H3=>if b=true then te σ2 H3 λy H4=>H4 D=some (.lst ys)/\Nx x.cps.toList.length i (Pv (i+1) (ys++[y]) (upd H4 D (.lst (ys++[y])))) else Nx x.cps.toList.length i (Pv (i+1) ys H3))
  (hd:∀ ys H,Pv x.cps.toList.length ys H->QD H) :
  ∃ W:Nat->Nat->List V->Hp->Prop,(∃ m,W 0 m [] (upd H1 D (.lst []))) /\
   ∀ i m ys H,W i m ys H->H D=some (.lst ys)/\ys.length<AB /\
    (((Its x).stop i H/\QD H)\/((Its x).go i H/\∀ v H',(Its x).yld i H v H'->g v σ0 H' λσ2 H2=>Keep σ0 σ2/\tt σ2 H2 λb H3=>
     if b=true then te σ2 H3 λy H4=>H4 D=some (.lst ys)/\∃ m',m'<m/\W (i+1) m' (ys++[y]) (upd H4 D (.lst (ys++[y]))) else ∃ m',m'<m/\W (i+1) m' ys H3)):=by
 refine ⟨λi m ys H=>m=x.cps.toList.length-i/\i<=x.cps.toList.length/\Pv i ys H,⟨x.cps.toList.length,by simp,Bv _,h0⟩,?_⟩
 rintro i m ys H ⟨rfl,hi,p⟩
 obtain ⟨hD,hz⟩:=hl i ys H hi p;refine ⟨hD,hz,?_⟩
 by_cases hlt:i<x.cps.toList.length
 ·have e:x.cps[i]?=some x.cps.toList[i]:=by rw [<- BI];exact Al hlt
  refine .inr ⟨⟨_,e⟩,λv H' y=>?_⟩;obtain ⟨rfl,c,hc,rfl⟩:=y;exact hs i c ys _ (by rw [BI];exact hc) p
 ·have e:i=x.cps.toList.length:=by omega
  subst e;refine .inl ⟨?_,hd ys H p⟩;show x.cps[x.cps.toList.length]?=none;rw [<- BI];exact Cs (Ak _)
end L2
namespace L2
open PySem PySem.Spec PyProof.Rows
def dcE (a:Addr):HO:=.ext λh=>∃ o,h.get? a=some o/\o.cls=.type "dict"
def tDict0:TE:=λ_ H Q=>∀ p,H p=none->Q (.ref p) (upd H p (dcE p))
section
variable {X:Cx}{pos:Pos}
def IsiD (K:Aa)(H:Hp)(v:V)(T:String)(b:Bool):Prop:=Isi K H v T b\/∃ a,v=.ref a/\H a=some (dcE a)/\T = "str" /\ b=false
def wF:eT X (.builtin "isinstance") (λxs H Q=>∃ x T b,xs=[x,.ty T]/\IsiD X.K H x T b/\Q (.bl b) H):=by
 intro pins s σ H xs us Q I r h;obtain ⟨x,T,b,rfl,hi|⟨a,rfl,hH,rfl,rfl⟩,q⟩:=h
 ·exact jF pins s σ H _ us Q I r ⟨x,T,b,rfl,hi,q⟩
 ·obtain ⟨u,w',rfl,rx,ry⟩:=vals2 r
  cases ry;cases rx;obtain ⟨⟨o,e,c⟩,_⟩:=I.hok a _ hH;exact IsiPair.dict_str e c ⟨.bl false,H,I.tok _,rfl,q⟩
end
def rEqL (K:Aa):R2:=λx y H Q=>∃ a b xs ys,∃ e:Nat->Bool,x=.ref a/\y=.ref b/\SqL K H a xs/\SqL K H b ys/\(∀ (j:Nat) x y,xs[j]?=some x->ys[j]?=some y->DEq K H 40 x y (e j)) /\
 Q (.bl ((Bl (min xs.length ys.length)).all e&&xs.length==ys.length)) H
def rNeL (K:Aa):R2:=λx y H Q=>∃ a b xs ys,∃ e:Nat->Bool,x=.ref a/\y=.ref b/\SqL K H a xs/\SqL K H b ys/\(∀ (j:Nat) x y,xs[j]?=some x->ys[j]?=some y->DEq K H 40 x y (e j)) /\
 Q (.bl (!((Bl (min xs.length ys.length)).all e&&xs.length==ys.length))) H
section
variable {X:Cx}
def aEs (hu:X.A.units+64<cLine):OpR X (Bi .Eq) (rEqL X.K):=by
 intro pins s σ H x y v u Q I rx ry h;obtain ⟨a,b,xs,ys,e,rfl,rfl,hx,hy,hd,q⟩:=h;cases rx;cases ry;exact uV I hx hy (by omega) (λj x y u v h1 h2 r1 r2=>(hd j x y h1 h2).at I (by show X.A.units+1+40<cLine;omega) r1 r2) X.prog X.w X.xe _ ⟨.bl _,H,I,rfl,q⟩
def aCn {σ:St}(I:Inv X pins σ H s)(hx:SqL X.K H a xs)(hy:SqL X.K H b ys)(hu:A.units<cLine)(hd:∀ (j:Nat) x y u v,xs[j]?=some x->ys[j]?=some y->RelV x u->RelV y v->Bg A.in1 s u v (e j)) :
  DE A s (.ref a) (.ref b) (!((Bl (min xs.length ys.length)).all e&&xs.length==ys.length)):=by
 obtain ⟨its,r,tx,_⟩:=I.list hx;obtain ⟨its',r',ty,_⟩:=I.list hy;have l1:=r.length;have l2:=r'.length
 by_cases hl:xs.length=ys.length
 ·have q:=DE.lists (A:=A) (e:=e) (dX tx) (dX ty) (by rw [Ay,Ay];omega) hu (λj h1 h2=>?_)
  ·rw [Ay,<- l1] at q
   have e1:((Bl (min xs.length ys.length)).all e&&xs.length==ys.length)=(Bl xs.length).all e:=by
    rw [<- hl,Nat.min_self,beq_self_eq_true,Bool.and_true]
   rw [e1];exact q
  ·rw [Ay] at h1 h2
   obtain ⟨x,hxj⟩:∃ x,xs[j]?=some x:=⟨_,Al (by omega)⟩;obtain ⟨y,hyj⟩:∃ y,ys[j]?=some y:=⟨_,Al (by omega)⟩;obtain ⟨u1,hu1,ru1⟩:=r.get hxj;obtain ⟨u2,hu2,ru2⟩:=r'.get hyj;have e1:its.toArray[j]=u1:=by
    have:=(Ad.mp hu1).2
    simpa using this
   have e2:its'.toArray[j]=u2:=by
    have:=(Ad.mp hu2).2
    simpa using this
   rw [e1,e2];exact hd j x y u1 u2 hxj hyj ru1 ru2
 ·have q:=DE.lists_lengths (A:=A) (dX tx) (dX ty) (by rw [Ay,Ay,<- l1,<- l2,bne_iff_ne];exact hl) hu
  have e1:((Bl (min xs.length ys.length)).all e&&xs.length==ys.length)=false:=by
   rw [beq_eq_false_iff_ne.mpr hl,Bool.and_false]
  rw [e1];exact q
def aAa (hu:X.A.units+64<cLine):OpR X (Bi .NotEq) (rNeL X.K):=by
 intro pins s σ H x y v u Q I rx ry h;obtain ⟨a,b,xs,ys,e,rfl,rfl,hx,hy,hd,q⟩:=h;cases rx;cases ry;exact aCn I hx hy (by omega) (λj x y u v h1 h2 r1 r2=>(hd j x y h1 h2).at I (by show X.A.units+1+40<cLine;omega) r1 r2) X.prog X.w X.xe _ ⟨.bl _,H,I,rfl,q⟩
end
def Sf (v:V):Prop:=fK v=true\/∃ a,v=.ref a
theorem zE (h:fK v=true):eqV v v=true:=by
 cases v<;>simp_all [fK,eqV]
def DEq.self {K:Aa}{H:Hp}{n:Nat}{v:V}(h:Sf v):DEq K H n v v true:=by
 rcases h with h|⟨a,rfl⟩
 ·have:=DEq.flat (K:=K) (H:=H) (n:=n) h h
  rwa [zE h] at this
 ·exact .same
theorem all_true (n:Nat)(m:Nat)(h:n=m):((Bl (min n m)).all (λ_=>true)&&n==m)=true:=by
 subst h;rw [beq_self_eq_true,Bool.and_true,Cd];exact λ_ _=>rfl
def aGd (K:Aa):R2:=λx y H Q=>∃ a b xs,x=.ref a/\y=.ref b/\SqL K H a xs/\SqL K H b xs/\(∀ v∈xs,Sf v)/\Q (.bl false) H
def tZ (hu:X.A.units+64<cLine):OpR X (Bi .NotEq) (aGd X.K):=by
 intro pins s σ H x y v u Q I rx ry h;obtain ⟨a,b,xs,rfl,rfl,hx,hy,hd,q⟩:=h;refine aAa hu pins s σ H _ _ v u Q I rx ry ⟨a,b,xs,xs,λ_=>true,rfl,rfl,hx,hy,λj x y h1 h2=>?_,?_⟩
 ·rw [h1] at h2
  cases h2;exact DEq.self (hd _ (Ar h1))
 ·rw [all_true _ _ rfl]
  exact q
def gO:BU "list" = some (.type "list"):=by decide +kernel
def iJ:BU "dict" = some (.type "dict"):=by decide +kernel
def Tk (H H':Hp):Prop:=∀ b ys,H b=some (.tup ys)->H' b=some (.tup ys)
def Same.tk (s:Same H H'):Tk H H':=λb ys e=>s b _ e
theorem Tk.lst (h:H l=some (.lst xs)):Tk H (upd H l o):=λb ys e=>by
 have ne:b≠l:=λz=>by rw [z,h] at e;cases e
 rw [aD ne];exact e
def fM {n:Nat}(h:n<=1000):n<=AB:=AX h (by decide)
def starFree:Expr->Bool
 |.Starred ..=>false
 |_=>true
inductive Dt where
 |i (n:Int)
 |s (x:Str)
 |b (k:Bool)
 |n
 |t (l:List Dt)
def SqZ (K:Aa)(H:Hp)(a:Addr)(xs:List V):Prop:=H a=some (.tup xs)\/∃ (o:Obj) (its:Array Value) (n:Nat),K.lookup a=some o/\o.cls=.type "tuple" /\ o.data=.seq its n/\its.size<=AB/\Vals xs its.toList
def SqZ.of {K:Aa}{H:Hp}{a:Addr}{xs:List V}(h:H a=some (.tup xs)):SqZ K H a xs:=.inl h
def SqZ.sq {K:Aa}{H:Hp}{a:Addr}{xs:List V}(h:SqZ K H a xs):SqT K H a xs:=by
 rcases h with h|h
 ·exact .inl (.inl h)
 ·exact .inr h
def Tk.sqz {K:Aa}{H H':Hp}{a:Addr}{xs:List V}(e:Tk H H')(h:SqZ K H a xs):SqZ K H' a xs:=by
 rcases h with h|h
 ·exact .inl (e _ _ h)
 ·exact .inr h
inductive Dv (K:Aa)(H:Hp):Nat->V->Dt->Prop where
 |i {n m}:Dv K H n (.int m) (.i m)
 |s {n x}:Dv K H n (.str x) (.s x)
 |b {n k}:Dv K H n (.bl k) (.b k)
 |n {n}:Dv K H n .non .n
 |t {n a xs ds}:SqZ K H a xs->xs.length=ds.length->(∀ (j:Nat) x d,xs[j]?=some x->ds[j]?=some d->Dv K H n x d)->Dv K H (n+1) (.ref a) (.t ds)
def Dv.keep {K:Aa}{H H':Hp}{n:Nat}{v:V}{d:Dt}(h:Dv K H n v d)(k:Tk H H'):Dv K H' n v d:=by
 induction h with
 |i=>exact .i
 |s=>exact .s
 |b=>exact .b
 |n=>exact .n
 |t h1 h2 _ ih=>exact .t (k.sqz h1) h2 ih
def Dv.up {K:Aa}{H:Hp}{n:Nat}{v:V}{d:Dt}(h:Dv K H n v d):Dv K H (n+1) v d:=by
 induction h with
 |i=>exact .i
 |s=>exact .s
 |b=>exact .b
 |n=>exact .n
 |t h1 h2 _ ih=>exact .t h1 h2 ih
def Dv.mono {K:Aa}{H:Hp}{n m:Nat}{v:V}{d:Dt}(h:Dv K H n v d)(hm:n<=m):Dv K H m v d:=by
 induction hm with
 |refl=>exact h
 |step _ ih=>exact ih.up
theorem Dv.eq {K:Aa}{H:Hp}{n:Nat}{x:V}{d:Dt}(h:Dv K H n x d):∀ {m:Nat} {y:V},Dv K H m y d->DEq K H n x y true:=by
 induction h with
 |i=>intro m y k;cases k;exact DEq.self (.inl rfl)
 |s=>intro m y k;cases k;exact DEq.self (.inl rfl)
 |b=>intro m y k;cases k;exact DEq.self (.inl rfl)
 |n=>intro m y k;cases k;exact DEq.self (.inl rfl)
 |@t n a xs ds h1 h2 h3 ih=>
  intro m y k;cases k with
  |@t m b ys _ k1 k2 k3=>
   by_cases e:a=b
   ·subst e
    exact .same
   ·have q:=DEq.tup (n:=n) (e:=λ_=>true) e h1.sq k1.sq λj x y hx hy=>?_
    ·rwa [all_true _ _ (h2.trans k2.symm)] at q
    ·obtain ⟨d,hd⟩:∃ d,ds[j]?=some d:=⟨_,Al (by have:=(Ad.mp hx).1;omega)⟩
     exact ih j x d hx hd (k3 j y d hy hd)
def DL (K:Aa)(H:Hp)(n:Nat)(xs:List V)(ds:List Dt):Prop:=xs.length=ds.length/\∀ (j:Nat) x d,xs[j]?=some x->ds[j]?=some d->Dv K H n x d
def DL.nil {K:Aa}{H:Hp}{n:Nat}:DL K H n [] []:=⟨rfl,λj x d h=>by simp at h⟩
def DL.keep {K:Aa}{H H':Hp}{n:Nat}{xs:List V}{ds:List Dt}(h:DL K H n xs ds)(k:Tk H H'):DL K H' n xs ds:=⟨h.1,λj x d hx hd=>(h.2 j x d hx hd).keep k⟩
def DL.cons {K:Aa}{H:Hp}{n:Nat}{x:V}{d:Dt}{xs:List V}{ds:List Dt}(h:Dv K H n x d)(k:DL K H n xs ds):DL K H n (x::xs) (d::ds):=by
 refine ⟨by rw [Br,Br,k.1],λj y e hy he=>?_⟩;cases j with
 |zero=>
  simp at hy he;subst hy he;exact h
 |succ j=>exact k.2 j y e (by simpa using hy) (by simpa using he)
def DL.append {K:Aa}{H:Hp}{n:Nat}{xs ys:List V}{ds es:List Dt}(h:DL K H n xs ds)(k:DL K H n ys es):DL K H n (xs++ys) (ds++es):=by
 refine ⟨by rw [Az,Az,h.1,k.1],λj x d hx hd=>?_⟩
 by_cases hj:j<xs.length
 ·rw [Bs hj] at hx
  rw [Bs (by rw [<- h.1];exact hj)] at hd;exact h.2 j x d hx hd
 ·rw [BE (by omega)] at hx
  rw [BE (by rw [<- h.1];omega),<- h.1] at hd;exact k.2 _ x d hx hd
def DL.snoc {K:Aa}{H:Hp}{n:Nat}{x:V}{d:Dt}{xs:List V}{ds:List Dt}(k:DL K H n xs ds)(h:Dv K H n x d):DL K H n (xs++[x]) (ds++[d]):=k.append (.cons h .nil)
def Dv.tup {K:Aa}{H:Hp}{n:Nat}{a:Addr}{xs:List V}{ds:List Dt}(h:SqZ K H a xs)(k:DL K H n xs ds):Dv K H (n+1) (.ref a) (.t ds):=.t h k.1 k.2
def Dv.two {K:Aa}{H:Hp}{n:Nat}{a:Addr}{x y:V}{d e:Dt}(h:SqZ K H a [x,y])(h1:Dv K H n x d)(h2:Dv K H n y e):Dv K H (n+1) (.ref a) (.t [d,e]):=.tup h (.cons h1 (.cons h2 .nil))
def aGh (K:Aa):R2:=λx y H Q=>∃ a b xs ys ds,x=.ref a/\y=.ref b/\SqL K H a xs/\SqL K H b ys/\DL K H 40 xs ds/\DL K H 40 ys ds/\Q (.bl true) H
def aGf (K:Aa):R2:=λx y H Q=>∃ a b xs ys ds,x=.ref a/\y=.ref b/\SqL K H a xs/\SqL K H b ys/\DL K H 40 xs ds/\DL K H 40 ys ds/\Q (.bl false) H
def rEqDT (K:Aa):R2:=λx y H Q=>∃ a b xs ys ds,x=.ref a/\y=.ref b/\SqT K H a xs/\SqT K H b ys/\DL K H 40 xs ds/\DL K H 40 ys ds/\Q (.bl true) H
def aGe (K:Aa):R2:=λx y H Q=>∃ a b xs ys ds,x=.ref a/\y=.ref b/\SqT K H a xs/\SqT K H b ys/\DL K H 40 xs ds/\DL K H 40 ys ds/\Q (.bl false) H
def DL.deq {K:Aa}{H:Hp}{n m:Nat}{xs ys:List V}{ds:List Dt}(h:DL K H n xs ds)(k:DL K H m ys ds):∀ (j:Nat) x y,xs[j]?=some x->ys[j]?=some y->DEq K H n x y true:=λj x y hx hy=>by
 obtain ⟨d,hd⟩:∃ d,ds[j]?=some d:=⟨_,Al (by have:=(Ad.mp hx).1;have:=h.1;omega)⟩;exact (h.2 j x d hx hd).eq (k.2 j y d hy hd)
section
variable {X:Cx}
def uC (hu:X.A.units+64<cLine):OpR X (Bi .Eq) (aGh X.K):=by
 intro pins s σ H x y v u Q I rx ry h;obtain ⟨a,b,xs,ys,ds,rfl,rfl,hx,hy,k1,k2,q⟩:=h;refine aEs hu pins s σ H _ _ v u Q I rx ry ⟨a,b,xs,ys,λ_=>true,rfl,rfl,hx,hy,k1.deq k2,?_⟩;rw [all_true _ _ (k1.1.trans k2.1.symm)];exact q
def pB (hu:X.A.units+64<cLine):OpR X (Bi .NotEq) (aGf X.K):=by
 intro pins s σ H x y v u Q I rx ry h;obtain ⟨a,b,xs,ys,ds,rfl,rfl,hx,hy,k1,k2,q⟩:=h;refine aAa hu pins s σ H _ _ v u Q I rx ry ⟨a,b,xs,ys,λ_=>true,rfl,rfl,hx,hy,k1.deq k2,?_⟩;rw [all_true _ _ (k1.1.trans k2.1.symm)];exact q
def aBs (hu:X.A.units+64<cLine):OpR X (Bi .NotEq) (aGe X.K):=by
 intro pins s σ H x y v u Q I rx ry h;obtain ⟨a,b,xs,ys,ds,rfl,rfl,hx,hy,k1,k2,q⟩:=h;refine zZ hu pins s σ H _ _ v u Q I rx ry ⟨a,b,xs,ys,λ_=>true,rfl,rfl,hx,hy,k1.deq k2,?_⟩;rw [all_true _ _ (k1.1.trans k2.1.symm)];exact q
end
theorem iI :∀ (names:List (Str×Bd)) (acc:List (Str×Addr)),(∀ y∈names,y.2=AW->∃ c,env.cells.lookup y.1=some c)->(∀ x c,acc.lookup x=some c->env.cells.lookup x=some c) ->
  ∃ cl,(forIn (m:=Sem) names acc (λx r=>do if (x.2==AW)=true then do let c <- cellOf env x.1;pure (Cw ((x.1,c)::r)) else pure (Cw r)))=pure cl /\
   (∀ x c,cl.lookup x=some c->env.cells.lookup x=some c)/\(∀ y∈names,y.2=AW->∃ c,cl.lookup y.1=some c)/\∀ x,(∃ c,acc.lookup x=some c)->∃ c,cl.lookup x=some c
 |[],acc,_,h2=>⟨acc,rfl,h2,(λy hy=>by simp at hy),λ_ h=>h⟩
 |y::r,acc,h1,h2=>by
  by_cases e:y.2=AW
  ·obtain ⟨c,hc⟩:=h1 y AO e
   obtain ⟨cl,e1,e2,e3,e4⟩:=iI r ((y.1,c)::acc) (λz hz=>h1 z (AL _ hz)) (λx d hx=>by
    rw [Dk] at hx;split at hx
    ·rename_i hb
     have:x=y.1:=eq_of_beq hb;rw [this,hc];exact hx
    ·exact h2 x d hx)
   refine ⟨cl,?_,e2,λz hz ez=>?_,λx hx=>e4 x ?_⟩
   ·rw [List.forIn_cons,if_pos (by rw [e];rfl)]
    unfold cellOf;rw [hc];simp only [pure_bind];exact e1
   ·rcases Ae.mp hz with rfl|hz
    ·exact e4 z.1 ⟨c,by rw [Dk,beq_self_eq_true]⟩
    ·exact e3 z hz ez
   ·obtain ⟨d,hd⟩:=hx
    rw [Dk];split
    ·exact ⟨c,rfl⟩
    ·exact ⟨d,hd⟩
  ·obtain ⟨cl,e1,e2,e3,e4⟩:=iI r acc (λz hz=>h1 z (AL _ hz)) h2
   refine ⟨cl,?_,e2,λz hz ez=>?_,e4⟩
   ·rw [List.forIn_cons,if_neg (by intro z;exact e (eq_of_beq z))]
    simp only [pure_bind];exact e1
   ·rcases Ae.mp hz with rfl|hz
    ·exact absurd ez e
    ·exact e3 z hz ez
def rX (h:∀ y∈scope.names,y.2=AW->∃ c,env.cells.lookup y.1=some c) :
  ∃ cl,closureFor scope env=pure cl/\(∀ x c,cl.lookup x=some c->env.cells.lookup x=some c)/\∀ y∈scope.names,y.2=AW->∃ c,cl.lookup y.1=some c:=by
 obtain ⟨cl,e1,e2,e3,_⟩:=iI (env:=env) scope.names [] h (λx c e=>by simp at e);refine ⟨cl,?_,e2,e3⟩;simp only [closureFor];rw [show (forIn (m:=Sem) scope.names [] λx r=>if (x.2==AW)=true then (do let c <- cellOf env x.1;pure (Cw ((x.1,c)::r))) else pure (Cw r))=pure cl from e1];rfl
def nN (hc:∀ y∈scope.names,y.2≠Cc)(h:(relabel scope env).names.lookup x=some .cell\/(relabel scope env).names.lookup x=some .free):∃ y∈scope.names,y.1=x/\y.2=AW:=by
 have e':∃ k,(k=Cc\/k=AW)/\(relabel scope env).names.lookup x=some k:=by
  rcases h with e|e
  ·exact ⟨_,.inl rfl,e⟩
  ·exact ⟨_,.inr rfl,e⟩
 obtain ⟨k,hk,e⟩:=e';have hm:=Cj e;obtain ⟨y,hy,hy2⟩:=An.mp hm;obtain ⟨n,kk⟩:=y;have hn:=hc _ hy;simp only at hy2 hn;split at hy2
 ·rename_i hf
  injection hy2 with a1 a2;subst a1;simp only [Cq] at hf;exact ⟨(n,kk),hy,rfl,eq_of_beq hf.1.1⟩
 ·injection hy2 with a1 a2
  subst a1 a2
  rcases hk with rfl|rfl
  ·exact absurd rfl hn
  ·exact ⟨_,hy,rfl,rfl⟩
def wB (ok:X.Ok)(hc:∀ y∈scope.names,y.2≠Cc)(h:∀ y∈scope.names,y.2=AW->X.env.kindOf y.1=some .cell\/X.env.kindOf y.1=some .free):∃ cl,ClOk X scope cl:=by
 obtain ⟨cl,e1,e2,e3⟩:=rX (scope:=scope) (env:=X.env) λy hy ey=>ok.has y.1 (h y hy ey);refine ⟨cl,e1,e2,λx hx=>?_⟩;obtain ⟨y,hy,rfl,ey⟩:=nN hc hx;exact e3 y hy ey
def eQ (σf:St->St)(hc:X.calm=true)(hkind:scope.kind=.function)(hcell:∀ y∈scope.names,y.2≠.cell)(hnames:∀ y∈scope.names,y.2=.local->scope.names.lookup y.1=some .local)(hk:∀ y∈scope.names,y.2=AW->X.env.kindOf y.1=some .cell\/X.env.kindOf y.1=some .free)(hN:∀ cl (σ:St),σ.length=X.N.length->BlkN X N' scope cl σ (σf σ))(hi:PI X tg iter wi)(hg:∀ cl C s₀ H₀ ex pn,PG (blk X N' scope cl C s₀ H₀ ex pn) tg g)(ht:∀ cl C s₀ H₀ ex pn,PIfs (blk X N' scope cl C s₀ H₀ ex pn) ifs tt)(he:∀ cl C s₀ H₀ ex pn,PE (blk X N' scope cl C s₀ H₀ ex pn) elt te)(hs:∀ x,DO iter X.env x=pure x:=by intro _;rfl):PE X (.ListComp elt [⟨tg,iter,ifs,0⟩] scope pos) (wR σf wi g tt te):=by
 intro pins s σ H Q I h;obtain ⟨cl,hcl⟩:=wB I.ok hcell hk;exact iD σf hc hkind hcell hnames hcl (hN cl) hi (hg cl) (ht cl) (he cl) hs pins s σ H Q I h
def iF {X:Cx}{scope sc:Scope}(hs:X.env.scope=sc)(h:(scope.names.all λy=>y.2 != AW||sc.names.lookup y.1==some Cc||sc.names.lookup y.1==some AW)=true) :
  ∀ y∈scope.names,y.2=AW->X.env.kindOf y.1=some .cell\/X.env.kindOf y.1=some .free:=λy hy ey=>by
 have q:=Cd.mp h y hy;unfold Env.kindOf;rw [hs];rw [ey] at q;simp only [bne_self_eq_false,Bool.false_or,Bool.or_eq_true] at q
 rcases q with q|q
 ·exact .inl (eq_of_beq q)
 ·exact .inr (eq_of_beq q)
theorem eJ {env:Env}{x:Str}(hk:env.scope.kind=.function)(hx:env.kindOf x=some .cell):∀ {names:List (Str×Bd)},names.lookup x=some .free ->
    (names.map λ(n,k)=>if (k==AW&&env.scope.kind==.function&&env.kindOf n==some .cell) then (n,Cc) else (n,k)).lookup x=some .cell
  |[],h=>by simp at h
  |(n,k)::r,h=>by
    rw [Ao];rw [Dk] at h
    by_cases e:(x==n)=true
    · rw [e] at h;have e':x=n:=eq_of_beq e;subst e';have hf:k=AW:=AF h;subst hf;have c:(AW==AW&&env.scope.kind==.function&&env.kindOf x==some .cell)=true:=by rw [hk,hx];rfl
      rw [show (match ((x,AW):Str×Bd) with|(n,k)=>if (k==AW&&env.scope.kind==.function&&env.kindOf n==some .cell)=true then (n,Cc) else (n,k))=(x,Cc) from if_pos c];rw [Dk,beq_self_eq_true]
    · have e0:(x==n)=false:=by simpa using e
      rw [e0] at h;have ih:=eJ hk hx h;have en:∀ q:Str×Bd,q.1=n->(q::(r.map λ(n,k)=>if (k==AW&&env.scope.kind==.function&&env.kindOf n==some .cell) then (n,Cc) else (n,k))).lookup x=some .cell:=λq hq=>by
        obtain ⟨q1,q2⟩:=q;simp only at hq;subst hq;rw [Dk,e0];exact ih
      refine en _ ?_;show (if _ then (n,Cc) else (n,k)).1=n;split<;>rfl
def dR {X:Cx}{N' N:List Str}{scope sc:Scope}{cl:List (Str×Addr)}{σ:St}(ts:List (Option Nat))(hN:X.N=N)(hsc:X.env.scope=sc)(hl:ts.length=N'.length)(hk:sc.kind=.function)
  (h:((ts.zip N').all λp=>match p.1 with|none=>true|some j=>N[j]?==some p.2&&sc.names.lookup p.2==some Cc&&scope.names.lookup p.2==some AW)=true) :
  BlkN X N' scope cl σ (ts.map λt=>t.bind λj=>(σ[j]?).join):=by
 refine ⟨by rw [Ab,hl],λi x v h1 h2=>?_⟩;rw [Ah] at h2;cases ht:ts[i]? with
 |none=>rw [ht] at h2;cases h2
 |some t=>
  rw [ht] at h2;have h2':(t.bind λj=>(σ[j]?).join)=some v:=AF h2;cases t with
  |none=>cases h2'
  |some j=>
   have hm:(some j,x)∈ts.zip N':=Ar (by rw [List.getElem?_zip_eq_some];exact ⟨ht,h1⟩:(ts.zip N')[i]?=some (some j,x));have q:=Cd.mp h _ hm;simp only [Cq] at q;obtain ⟨⟨q1,q2⟩,q3⟩:=q;have q1':=eq_of_beq q1;have q2':=eq_of_beq q2;have q3':=eq_of_beq q3;have kd:X.env.kindOf x=some .cell:=by
    unfold Env.kindOf;rw [hsc];exact q2'
   refine ⟨j,by rw [hN];exact q1',?_,by rw [hsc];exact .inr (.inl q2'),(by rw [kd];decide),.inl (eJ (by rw [hsc];exact hk) kd q3')⟩;have h3:(σ[j]?).join=some v:=h2';cases hj:σ[j]? with
   |none=>rw [hj] at h3;cases h3
   |some o=>rw [hj] at h3;cases o with
    |none=>cases h3
    |some u=>cases h3;rfl
def aBo {iy:Nat}(σf:St->St)(hc:X.calm=true)(hkind:scope.kind=.function)(hcell:∀ y∈scope.names,y.2≠.cell)(hnames:∀ y∈scope.names,y.2=.local->scope.names.lookup y.1=some .local)(hcl:ClOk X scope cl)(hN:∀ σ:St,σ.length=X.N.length->BlkN X N' scope cl σ (σf σ))(hi:PI X tg iter wi)(hg:∀ C s₀ H₀ ex pn,PG (blk X N' scope cl C s₀ H₀ ex pn) tg g)(ht:∀ C s₀ H₀ ex pn,PIfs (blk X N' scope cl C s₀ H₀ ex pn) ifs tt)(he:∀ C s₀ H₀ ex pn,PE (blk X N' scope cl C s₀ H₀ ex pn) elt te)(hnd:X.N.Nodup)(hiy:X.N[iy]?=some y)(hy:Loc X.env.scope y)(hfy:X.fn y=true\/X.env.scope.names.lookup y=some .local)(hsw:swapsWith (.ListComp elt [⟨tg,iter,ifs,0⟩] scope pos) (some (.Name y py)) spos.line X.env=pure true)(hs:∀ x,DO iter X.env x=pure x:=by intro _;rfl):PS X (.Assign [.Name y py] (.ListComp elt [⟨tg,iter,ifs,0⟩] scope pos) spos) (tAsg (wR σf wi g tt te) (kC iy)):=by
 intro pins s σ H Dn I h;rw [exec_Assign_Name_used _ _ _ _ hsw];refine Aw (wpAny_standAt (Aw ?_));show wpAny _ X.A (do let _ <- comprehension (.ListComp elt [⟨tg,iter,ifs,0⟩] scope pos) scope X.env _ (newList []) false (eval iter X.env) (some (assign (.Name y py) X.env))) _ _ s;refine Aw (BZ (wpAny_comprehension_free (use:=some (assign (.Name y py) X.env)) (Q:=λ_ s'=>SP X pins Dn .next s') rfl hs hcl.run hkind hnames
  (thn (hi pins s σ H _ I h) λv s1 h1=>thn h1 λitv s2 h2=>?_)) (λ_ s' hq=>AM (AM hq)) λ_ _ e=>e)
 obtain ⟨it,fp,tn,J,H2,rfl,I2,T,st2,f2,q⟩:=h2;refine wpAny_newObj_type (wpAny_newFunctionEnv hcell (by intro y hy;simp at hy) (λh₁ hns₁ hsb₁=>?_) hkind);dsimp only at hns₁ hsb₁ ⊢;have hfo:∀ b∈fp,b<s2.heap.objs.size:=λb hb=>by
  obtain ⟨o,e,_⟩:=T.obj _ _ st2 b hb;exact AD e
 have hDf:H2 s2.heap.objs.size=none:=I2.hok.fresh (Ak _);obtain ⟨W,⟨m0,w0⟩,turn⟩:=q s2.heap.objs.size hDf;have I3:Inv X pins σ (upd H2 s2.heap.objs.size (.lst [])) { s2 with heap:=s2.heap.push { cls:=.type "list",data:=.seq ([]:List Value).toArray } }:=I2.lnew (its:=[]) (t':=s2.toks) .nil (Bv _);have f3:∀ b∈fp,FpOk X pins (upd H2 s2.heap.objs.size (.lst [])) b:=λb hb=>⟨by rw [aD (AJ (hfo b hb))];exact (f2 b hb).1,(f2 b hb).2⟩;generalize hD:s2.heap.objs.size=D at *
 generalize hs3:({ s2 with heap:=s2.heap.push { cls:=.type "list",data:=.seq ([]:List Value).toArray } }:Shared)=s3 at *
 have hh3:s3.heap=s2.heap.push { cls:=.type "list",data:=.seq ([]:List Value).toArray }:=by rw [<- hs3]
 have hsz3:s2.heap.objs.size<s3.heap.objs.size:=by rw [hh3,Heap.size_push];exact DS _
 have e3:∀ h t,({ s2 with heap:=h,toks:=t }:Shared)={ s3 with heap:=h,toks:=t }:=λh t=>by rw [<- hs3]
 rw [<- hh3] at hns₁ hsb₁ ⊢;have hk3:∀ b o,s3.heap.get? b=some o->h₁.get? b=some o:=λb o e=>hsb₁.extBut b o (AJ (AD e)) (Av _ e);have I4:=oH (t':=s3.toks) I3 hkind hcl (hN σ I.len) f3 (λb hb=>Nat.lt_trans (hfo b hb) (hD▸hsz3)) (hns:=by simpa using hns₁) hk3;generalize hB:blk X N' scope cl s3.heap.objs.size s3 (upd H2 D (.lst [])) fp (X.pn++pins)=B at *
 have hBp:B.prog=X.prog:=by rw [<- hB];rfl
 have hBw:B.w=X.w:=by rw [<- hB];rfl
 have hBK:B.K=X.K:=by rw [<- hB];rfl
 have hBA:B.A=X.A:=by rw [<- hB];rfl
 have hBc:B.calm=true:=by rw [<- hB];exact hc
 have hBe:B.env=compEnvC scope cl s3.heap.objs.size X.env:=by rw [<- hB];rfl
 have hBx:B.xe=λ_ _=>False:=by rw [<- hB];rfl
 have hGB:PG B tg g:=hB▸hg _ _ _ _ _;have hTB:PIfs B ifs tt:=hB▸ht _ _ _ _ _;have hEB:PE B elt te:=hB▸he _ _ _ _ _;have stat:∀ {H':Hp},(∀ b∈fp,H' b=none)->∀ b∈fp,FpOk B [] H' b:=λ{H'} hn b hb=>by
  obtain ⟨f0,f1,f2',f3',f4,f5⟩:=f3 b hb;rw [<- hB];refine ⟨hn b hb,AJ (Nat.lt_trans (hfo b hb) (hD▸hsz3)),λz=>?_,.inl hb,λx c e=>f4 x c (hcl.sub x c e),λp hp=>?_⟩
  ·rcases Ae.mp (I.stkSub b z) with z|z
   ·exact f1 z
   ·exact f2' z
  ·rw [show (blk X N' scope cl s3.heap.objs.size s3 (upd H2 D (.lst [])) fp (X.pn++pins)).pn=X.pn++pins from rfl,Ck] at hp
   exact f5 p hp
 have loop:∀ s4:Shared,Inv B [] (σf σ) (upd H2 D (.lst [])) s4->tn 0 s4.heap ->
   DP (model X.prog X.w) X.A (.compLoop (.ListComp elt [⟨tg,iter,ifs,0⟩] scope pos) 0 (.ref it) (.ref D) (compEnvC scope cl s3.heap.objs.size X.env)) (compPost (model X.prog X.w) X.A X.xe (some (assign (.Name y py) X.env)) (λ_ s'=>SP X pins Dn .next s') (.ref D) s3.heap.objs.size) s4:=by
  intro s4 I4 st4;refine iP (I:=λn s'=>∃ i ys H',Inv B [] (σf σ) H' s'/\tn i s'.heap/\(∀ b∈fp,H' b=none)/\W i n ys H') ?_ m0 ⟨0,[],_,I4,st4,λb hb=>(f3 b hb).1,w0⟩
  rintro n s5 ⟨i,ys,H5,I5,st5,fr5,w5⟩
  obtain ⟨hD5,hlen5,alt⟩:=turn i n ys H5 w5
  rcases alt with ⟨stop,qn⟩|⟨go,step⟩
  ·have z:=T.done B hBp hBw hBK hBc i [] s5 (σf σ) H5 (λ_ _=>False) I5 (stat fr5) st5 stop
   rw [hBA] at z;refine thn z λr s6 ⟨hr,I6⟩=>?_;subst hr;obtain ⟨m6,hn6,_⟩:=I6.loc;rw [hBe] at hn6;subst hB;have I6x:Inv X pins σ H5 s6:=wI I3 f3 I6 (h'':=s6.heap) ⟨rfl,λ_ _=>rfl⟩;have fC:FpOk X pins H5 s3.heap.objs.size:=I3.fpOk (Ak _) I6.free;obtain ⟨g0,g1,g2,g3,g4,g5⟩:=id fC;obtain ⟨oC,es,ep,hoC,hdC,rest⟩:=hn6;have I6p:=I6x.pinned (fp:=[s3.heap.objs.size]) (λb hb=>by rw [Am.mp hb];exact fC) (λb hb=>⟨oC,by rw [Am.mp hb];exact hoC,λv e=>by rw [hdC] at e;cases e⟩);show wpAny (model X.prog X.w) X.A (assign (.Name y py) X.env (.ref D)) _ X.xe s6;refine thn (aY (i:=iy) (pos:=py) hnd hiy hy hfy _ s6 σ H5 (.ref D) (.ref D) (λσ' H'=>Dn.nx σ' H') I6p rfl qn) λ_ s7 ⟨σ7,H7,I7,q7⟩=>?_;have pc:=I7.pin (s3.heap.objs.size,oC) (Ac _ (Ac _ (dQ (by simp) hoC)));refine ⟨m6,⟨oC,es,ep,pc.1,hdC,rest⟩,λh' hs'=>⟨σ7,H7,?_,q7⟩⟩;exact I7.unpinned.turned (t':=s7.toks) (λb o hb e=>hs'.extBut b o hb e) pc.2.1 g1 g3 g4 g5
  ·have z:=T.item B hBp hBw hBK hBc i [] s5 (σf σ) H5 (λ_ _=>False) I5 (stat fr5) st5 go
   rw [hBA] at z;refine thn z λr s6 ⟨u,hr,h6⟩=>?_;subst hr;refine thn h6 λ_ s7 ⟨x,H7,I7,r7,y7,st7,fr7⟩=>?_;have I7':=I7.pinned (stat fr7) (T.obj _ _ st7);have z8:=hGB _ s7 (σf σ) H7 x u _ I7' r7 (step x H7 y7);rw [hBp,hBw,hBA,hBe,hBx] at z8;refine thn z8 λ_ s8 ⟨σ8,H8,I8,k8,q8⟩=>?_;have z9:=hTB _ s8 σ8 H8 _ I8 q8;rw [hBp,hBw,hBA,hBe,hBx] at z9;refine thn z9 λok s9 ⟨H9,I9,q9⟩=>?_;have again:∀ {ys':List V} {H':Hp} {s':Shared},Inv B ([]++kU fp s7.heap) σ8 H' s'->(∃ m',m'<n/\W (i+1) m' ys' H')->∃ m,m<n/\∃ i ys H',Inv B [] (σf σ) H' s'/\tn i s'.heap/\(∀ b∈fp,H' b=none)/\W i m ys H':=λ{ys' H' s'} J ⟨m',hm,w'⟩=>by
    refine ⟨m',hm,i+1,ys',H',J.unpinned.weak k8.len.symm k8.at',T.keep _ _ _ st7 λb hb o e=>(J.pin (b,o) (Ac _ (Ac _ (dQ hb e)))).1,λb hb=>?_,w'⟩;obtain ⟨o,e,d⟩:=T.obj _ _ st7 b hb;exact (J.pin (b,o) (Ac _ (Ac _ (dQ hb e)))).2.1
   cases ok with
   |false=>exact again I9 q9
   |true=>
    have z10:=hEB _ s9 σ8 H9 _ I9 q9;rw [hBp,hBw,hBA,hBe,hBx] at z10;refine thn z10 λy10 s10 ⟨y,H10,I10,r10,hD10,q10⟩=>?_;have z11:=dB (X:=B) _ s10 σ8 H10 (.ref D) [y] (.ref D) [y10] (λ_ H'=>∃ m',m'<n/\W (i+1) m' (ys++[y]) H') I10 rfl (.cons r10 .nil) ⟨D,ys,y,rfl,rfl,hD10,hlen5,q10⟩;rw [hBp,hBw,hBA,hBx] at z11;refine thn z11 λ_ s11 ⟨_,H11,I11,_,q11⟩=>again I11 q11
 have st4:tn 0 ({ s3 with heap:=h₁,toks:=s3.toks }:Shared).heap:=T.keep _ _ _ st2 λb hb o e=>hk3 b o (by rw [hh3];exact Av _ e);have L4:=loop _ I4 st4;subst hs3;exact codeAny_compStart_list L4 (T.self _ 0 _ _ _ st4 L4)
def gU {iy:Nat}(σf:St->St)(hc:X.calm=true)(hkind:scope.kind=.function)(hcell:∀ y∈scope.names,y.2≠.cell)(hnames:∀ y∈scope.names,y.2=.local->scope.names.lookup y.1=some .local)(hk:∀ y∈scope.names,y.2=AW->X.env.kindOf y.1=some .cell\/X.env.kindOf y.1=some .free)(hN:∀ cl (σ:St),σ.length=X.N.length->BlkN X N' scope cl σ (σf σ))(hi:PI X tg iter wi)(hg:∀ cl C s₀ H₀ ex pn,PG (blk X N' scope cl C s₀ H₀ ex pn) tg g)(ht:∀ cl C s₀ H₀ ex pn,PIfs (blk X N' scope cl C s₀ H₀ ex pn) ifs tt)(he:∀ cl C s₀ H₀ ex pn,PE (blk X N' scope cl C s₀ H₀ ex pn) elt te)(hnd:X.N.Nodup)(hiy:X.N[iy]?=some y)(hy:Loc X.env.scope y)(hfy:X.fn y=true\/X.env.scope.names.lookup y=some .local)(hsw:swapsWith (.ListComp elt [⟨tg,iter,ifs,0⟩] scope pos) (some (.Name y py)) spos.line X.env=pure true)(hs:∀ x,DO iter X.env x=pure x:=by intro _;rfl):PS X (.Assign [.Name y py] (.ListComp elt [⟨tg,iter,ifs,0⟩] scope pos) spos) (tAsg (wR σf wi g tt te) (kC iy)):=by
 intro pins s σ H D I h;obtain ⟨cl,hcl⟩:=wB I.ok hcell hk;exact aBo σf hc hkind hcell hnames hcl (hN cl) hi (hg cl) (ht cl) (he cl) hnd hiy hy hfy hsw hs pins s σ H D I h
structure Ys (J:It)(xs:List V)(H1:Hp):Prop where
 go:∀ i H,Same H1 H->i<xs.length->J.go i H
 yld:∀ i H x H',Same H1 H->i<xs.length->J.yld i H x H'->H'=H/\xs[i]?=some x
 stop:∀ i H,Same H1 H->xs.length<=i->J.stop i H
def Ys.list {K:Aa}{a:Addr}{xs:List V}{H1:Hp}(h:SqL K H1 a xs):Ys (Itl K a) xs H1 where
 go:=λi H s hi=>⟨xs,xs[i],s.seq h,Al hi⟩
 yld:=λi H x H' s _ y=>⟨y.1,y.2 xs (s.seq h)⟩
 stop:=λi H s hi=>⟨xs,s.seq h,hi⟩
def rngV (lo:Int)(n:Nat):List V:=(Bl n).map λ(i:Nat)=>V.int (lo+(i:Int))
def fZ {α:Type}{ys:List α}{y z:α}{j:Nat}(h:(ys++[y])[j]?=some z):(j<ys.length/\ys[j]?=some z)\/(j=ys.length/\z=y):=by
 by_cases hj:j<ys.length
 ·rw [Bs hj] at h
  exact .inl ⟨hj,h⟩
 ·rw [BE (by omega)] at h
  have e0:j-ys.length=0:=by
   cases hz:j-ys.length with
   |zero=>rfl
   |succ n=>rw [hz] at h;simp at h
  rw [e0] at h;exact .inr ⟨by omega,by simpa using h.symm⟩
def dU {J:It}{xs:List V}{D:Addr}{g:TG}{te:TE}{σ0:St}{QD:Hp->Prop}{H1:Hp}(Y:Ys J xs H1)(Pr:Nat->V->V->Hp->Prop)(hP:∀ i x y H H',Pr i x y H->Tk H H'->Pr i x y H')(hD:H1 D=none)(hl:xs.length<=1000)
  (hs:∀ i x H' (R:VK),xs[i]?=some x->Same H1 H'->(∀ y H4,Same H' H4->Pr i x y H4->R y H4)->g x σ0 H' λσ2 H2=>Keep σ0 σ2/\te σ2 H2 R)
  (hd:∀ ys H',Same H1 H'->H' D=some (.lst ys)->ys.length=xs.length->(∀ i x y,xs[i]?=some x->ys[i]?=some y->Pr i x y H')->QD H') :
  ∃ W:Nat->Nat->List V->Hp->Prop,(∃ m,W 0 m [] (upd H1 D (.lst [])))/\∀ i m ys H,W i m ys H->H D=some (.lst ys)/\ys.length<AB /\
   ((J.stop i H/\QD H)\/(J.go i H/\∀ x H',J.yld i H x H'->g x σ0 H' λσ2 H2=>Keep σ0 σ2/\wO σ2 H2 λb H3=>
    if b=true then te σ2 H3 λy H4=>H4 D=some (.lst ys)/\∃ m',m'<m/\W (i+1) m' (ys++[y]) (upd H4 D (.lst (ys++[y]))) else ∃ m',m'<m/\W (i+1) m' ys H3)):=by
 refine ⟨λi m ys H=>m=xs.length-i/\i<=xs.length/\Same H1 H/\H D=some (.lst ys)/\ys.length=i/\∀ j x y,xs[j]?=some x->ys[j]?=some y->Pr j x y H,
  ⟨_,rfl,Bv _,Same.upd hD,aB,rfl,λj x y _ h=>by simp at h⟩,?_⟩
 rintro i m ys H ⟨rfl,hi,sm,hDH,yl,pr⟩
 refine ⟨hDH,aW (by omega),?_⟩
 by_cases hlt:i<xs.length
 ·refine .inr ⟨Y.go i H sm hlt,λx H' y=>?_⟩
  obtain ⟨rfl,hx⟩:=Y.yld i H x H' sm hlt y;refine hs i x H' _ hx sm λy H4 s4 py=>?_;have hD4:=s4 _ _ hDH;have tk:Tk H4 (upd H4 D (.lst (ys++[y]))):=Tk.lst hD4;refine ⟨hD4,xs.length-(i+1),by omega,rfl,hlt,λb o hb=>?_,aB,by rw [Az,yl];rfl,λj x' y' hx' hy'=>?_⟩
  ·rw [aD (aX hb hD)]
   exact s4 _ _ (sm _ _ hb)
  ·rcases fZ hy' with ⟨_,hy'⟩|⟨e,e'⟩
   ·exact hP _ _ _ _ _ (hP _ _ _ _ _ (pr j x' y' hx' hy') (Same.tk s4)) tk
   ·subst e'
    have:j=i:=by omega
    subst this;rw [hx] at hx';cases hx';exact hP _ _ _ _ _ py tk
 ·have e:i=xs.length:=by omega
  subst e;exact .inl ⟨Y.stop _ H sm (Ak _),hd ys H sm hDH yl pr⟩
def vZ {J:It}{xs:List V}{D:Addr}{g:TG}{tt:TT}{te:TE}{σ0:St}{QD:Hp->Prop}{H1:Hp}(Y:Ys J xs H1)(p:V->Bool)(Pr:V->V->Hp->Prop)(hP:∀ x y H H',Pr x y H->Tk H H'->Pr x y H')(hD:H1 D=none)(hl:xs.length<=1000)
  (hs:∀ (i:Nat) x H' (R1:VK) (R2:Hp->Prop),xs[i]?=some x->Same H1 H'->(p x=true->∀ y H4,Same H' H4->Pr x y H4->R1 y H4)->(p x=false->∀ H4,Same H' H4->R2 H4)->g x σ0 H' λσ2 H2=>Keep σ0 σ2/\tt σ2 H2 λb H3=>if b=true then te σ2 H3 R1 else R2 H3)
  (hd:∀ ys H',Same H1 H'->H' D=some (.lst ys)->ys.length=(xs.filter p).length->(∀ (i:Nat) x y,(xs.filter p)[i]?=some x->ys[i]?=some y->Pr x y H')->QD H') :
  ∃ W:Nat->Nat->List V->Hp->Prop,(∃ m,W 0 m [] (upd H1 D (.lst [])))/\∀ i m ys H,W i m ys H->H D=some (.lst ys)/\ys.length<AB /\
   ((J.stop i H/\QD H)\/(J.go i H/\∀ x H',J.yld i H x H'->g x σ0 H' λσ2 H2=>Keep σ0 σ2/\tt σ2 H2 λb H3=>
    if b=true then te σ2 H3 λy H4=>H4 D=some (.lst ys)/\∃ m',m'<m/\W (i+1) m' (ys++[y]) (upd H4 D (.lst (ys++[y]))) else ∃ m',m'<m/\W (i+1) m' ys H3)):=by
 refine ⟨λi m ys H=>m=xs.length-i/\i<=xs.length/\Same H1 H/\H D=some (.lst ys)/\ys.length=((xs.take i).filter p).length/\∀ (j:Nat) x y,((xs.take i).filter p)[j]?=some x->ys[j]?=some y->Pr x y H,
  ⟨_,rfl,Bv _,Same.upd hD,aB,rfl,λj x y _ h=>by simp at h⟩,?_⟩
 rintro i m ys H ⟨rfl,hi,sm,hDH,yl,pr⟩
 have yl':ys.length<=xs.length:=by
  rw [yl];exact AX (BY _ _) (by rw [Bn];omega)
 refine ⟨hDH,aW (by omega),?_⟩
 by_cases hlt:i<xs.length
 ·refine .inr ⟨Y.go i H sm hlt,λx H' y=>?_⟩
  obtain ⟨rfl,hx⟩:=Y.yld i H x H' sm hlt y;have et:xs.take (i+1)=xs.take i++[x]:=by rw [Ci,hx];rfl
  refine hs i x H' _ _ hx sm (λpx y H4 s4 py=>?_) (λpx H4 s4=>?_)
  ·have hD4:=s4 _ _ hDH
   have tk:Tk H4 (upd H4 D (.lst (ys++[y]))):=Tk.lst hD4;refine ⟨hD4,xs.length-(i+1),by omega,rfl,hlt,λb o hb=>?_,aB,?_,λj x' y' hx' hy'=>?_⟩
   ·rw [aD (aX hb hD)]
    exact s4 _ _ (sm _ _ hb)
   ·rw [et,Ct,Az,Az,yl,CH px]
    rfl
   ·rw [et,Ct,CH px] at hx'
    rcases fZ hx' with ⟨h1,hx'⟩|⟨h1,hx'⟩
    ·rcases fZ hy' with ⟨_,hy'⟩|⟨e,_⟩
     ·exact hP _ _ _ _ (hP _ _ _ _ (pr j x' y' hx' hy') (Same.tk s4)) tk
     ·omega
    ·rcases fZ hy' with ⟨h2,_⟩|⟨_,hy'⟩
     ·omega
     ·subst hx' hy'
      exact hP _ _ _ _ py tk
  ·refine ⟨xs.length-(i+1),by omega,rfl,hlt,sm.trans s4,s4 _ _ hDH,?_,λj x' y' hx' hy'=>?_⟩
   ·rw [et,Ct,CI (by rw [px];exact AH),List.filter_nil,Ck,yl]
   ·rw [et,Ct,CI (by rw [px];exact AH),List.filter_nil,Ck] at hx'
    exact hP _ _ _ _ (pr j x' y' hx' hy') (Same.tk s4)
 ·have e:i=xs.length:=by omega
  subst e;rw [Bq] at yl pr;exact .inl ⟨Y.stop _ H sm (Ak _),hd ys H sm hDH yl pr⟩
section
variable {prog:AE}{w:World}{A:Around}{E:Value->Shared->Prop}{s:Shared}
structure Ap (z TI TO i1 i2:Addr)(f1 f2:List Addr):Prop where
 a1:∀ b∈f1,b≠z/\b≠TO/\b≠i2
 a2:∀ b∈f2,b≠z/\b≠TO/\b≠i1
 m1:i1∈f1
 m2:i2∈f2
 tz:TI≠z
 tO:TI≠TO
 t1:TI≠i1
 t2:TI≠i2
 oz:TO≠z
section
variable {z TI TO i1 i2:Addr}{f1 f2:List Addr}{n1 n2 k:Nat}{P1 P2:Nat->Value->Prop}{S1 S2:Nat->Heap->Prop}{a b:Value}
end
end
def Itz (K:Aa)(a b:Addr):It:=
  ⟨λi H=>∃ xs ys,SqT K H a xs/\SqL K H b ys/\i<xs.length/\i<ys.length,
   λi H v H'=>∃ T,H T=none/\v=.ref T/\∀ xs ys,SqT K H a xs->SqL K H b ys->∃ x y,xs[i]?=some x/\ys[i]?=some y/\H'=upd H T (.tup [x,y]),
   λi H=>∃ xs ys,SqT K H a xs/\SqL K H b ys/\(i=xs.length\/(i<xs.length/\i=ys.length))⟩
def ZipSt (n a b:Nat)(i:Nat)(h:Heap):Prop:=IsZip h (n+4) (n+2) (n+3) .none/\IsPair h (n+2) (.ref n) (.ref (n+1))/\(∃ x y,IsPair h (n+3) x y)/\h.IsTupleIter n a i/\h.IsListIter (n+1) b i
abbrev zo1 (h:Heap)(a:Addr):Heap:=h.push { cls:=.type "tuple_iterator",data:=.fields #[.ref a,.int 0 0] }
abbrev zo2 (h:Heap)(a b:Addr):Heap:=(zo1 h a).push { cls:=.type "list_iterator",data:=.fields #[.ref b,.int 0 0] }
abbrev zo3 (h:Heap)(a b:Addr):Heap:=(zo2 h a b).push { cls:=.type "tuple",data:=.seq #[.ref h.objs.size,.ref (zo1 h a).objs.size] }
abbrev zo4 (h:Heap)(a b:Addr):Heap:=(zo3 h a b).push { cls:=.type "tuple",data:=.seq #[.none,.none] }
abbrev zo5 (h:Heap)(a b:Addr):Heap:=(zo4 h a b).push { cls:=.type "zip",data:=.fields #[.none,.bool false,.bool false,.ref (zo2 h a b).objs.size,.ref (zo3 h a b).objs.size] }
def iZip (K:Aa)(ta:TA):TI:=λσ H R=>ta σ H λvs H1=>∃ a b,vs=[.ref a,.ref b]/\(∃ xs,SqT K H1 a xs)/\(∃ ys,SqL K H1 b ys)/\R (Itz K a b) H1
section
variable {κ:Type}[DecidableEq κ]
def valV (kvs:List (κ×V))(k:κ):Option V:=(kvs.find? λkv=>decide (kv.1=k)).map (·.2)
def putK (kvs:List (κ×V))(k:κ)(v:V):List (κ×V):=
 if (kvs.any λkv=>decide (kv.1=k))=true then kvs.map (λkv=>if kv.1=k then (kv.1,v) else kv) else kvs++[(k,v)]
def iH (kvs:List (κ×V))(k:κ):List (κ×V):=kvs.filter λkv=>decide (kv.1≠k)
theorem bJ {r:List (κ×V)}{k:κ}(e:p.1=k):valV (p::r) k=some p.2:=by simp [valV,Du,e]
theorem bE {r:List (κ×V)}{k:κ}(e:¬ p.1=k):valV (p::r) k=valV r k:=by simp [valV,Du,e]
theorem dJ (k:κ):∀ kvs:List (κ×V),(kvs.any λkv=>decide (kv.1=k))=(valV kvs k).isSome
 |[]=>rfl
 |p::r=>by
  rw [List.any_cons]
  by_cases e:p.1=k
  ·simp only [bJ e,decide_eq_true e,Bool.true_or,Option.isSome_some]
  ·rw [bE e,decide_eq_false e,Bool.false_or];exact dJ k r
theorem pS (k j:κ)(y:V):∀ kvs:List (κ×V),valV (kvs.map λkv=>if kv.1=k then (kv.1,y) else kv) j=(valV kvs j).map λx=>if j=k then y else x
 |[]=>rfl
 |p::r=>by
  have ih:=pS k j y r;rw [Ao]
  by_cases h:p.1=k
  ·rw [if_pos h]
   by_cases e:p.1=j
   ·rw [bJ (p:=(p.1,y)) e,bJ e,Dq,if_pos (e.symm.trans h)]
   ·rw [bE (p:=(p.1,y)) e,bE e,ih]
  ·rw [if_neg h]
   by_cases e:p.1=j
   ·rw [bJ (p:=p) e,bJ e,Dq,if_neg (λz=>h (e.trans z))]
   ·rw [bE (p:=p) e,bE e,ih]
theorem nA (k j:κ)(y:V):∀ kvs:List (κ×V),valV kvs k=none->valV (kvs++[(k,y)]) j=if j=k then some y else valV kvs j
 |[],_=>by
  by_cases e:k=j
  ·rw [if_pos e.symm];exact bJ (p:=(k,y)) e
  ·rw [if_neg (λz=>e z.symm)];exact bE (p:=(k,y)) e
 |p::r,hn=>by
  rw [List.cons_append];have hk:¬ p.1=k:=λz=>by rw [bJ z] at hn;cases hn
  rw [bE hk] at hn;have ih:=nA k j y r hn
  by_cases e:p.1=j
  ·rw [bJ e,bJ e,if_neg (λz=>hk (e.trans z))]
  ·rw [bE e,bE e,ih]
theorem bZ (kvs:List (κ×V))(k j:κ)(y:V):valV (putK kvs k y) j=if j=k then some y else valV kvs j:=by
 unfold putK
 by_cases a:(kvs.any λkv=>decide (kv.1=k))=true
 ·rw [if_pos a,pS]
  rw [dJ] at a
  by_cases e:j=k
  ·obtain ⟨x,hx⟩:=Dj.mp a
   rw [if_pos e,e,hx,Dq,if_pos rfl]
  ·rw [if_neg e]
   cases valV kvs j with
   |none=>rfl
   |some x=>rw [Dq,if_neg e]
 ·rw [if_neg a]
  refine nA k j y kvs ?_;rw [dJ] at a;cases q:valV kvs k with
  |none=>rfl
  |some x=>rw [q] at a;exact (a rfl).elim
def gN (kvs:List (κ×V))(k:κ)(v:V):(putK kvs k v).length<=kvs.length+1:=by
 unfold putK;split
 ·rw [Ab];omega
 ·rw [Az,Br,List.length_nil];omega
theorem cH {k:κ}(v:V)(h:valV kvs k=none):putK kvs k v=kvs++[(k,v)]:=by
 unfold putK;rw [dJ,h];exact if_neg (by decide)
theorem RelO.isSome_eq (r:RelO o u):o.isSome=u.isSome:=by
 cases o with
 |none=>cases u with
  |none=>rfl
  |some _=>exact (show False from r).elim
 |some _=>cases u with
  |none=>exact (show False from r).elim
  |some _=>rfl
theorem RelO.getD (r:RelO o u)(rd:RelV d d'):RelV (o.getD d) (u.getD d'):=by
 cases o with
 |none=>cases u with
  |none=>exact rd
  |some _=>exact (show False from r).elim
 |some _=>cases u with
  |none=>exact (show False from r).elim
  |some _=>exact r
theorem KV.val (r:KV kvs vs)(k:κ):RelO (valV kvs k) (valueAt vs k):=by
 unfold KV at r
 induction r with
 |nil=>exact Dp
 |@cons p q ps qs h t ih=>
  obtain ⟨h1,h2⟩:=h
  by_cases e:p.1=k
  ·have e':q.1=k:=h1.symm.trans e
   have b:valueAt (q::qs) k=some q.2:=by simp [valueAt,Du,e']
   rw [bJ e,b];exact h2
  ·have e':¬ q.1=k:=λz=>e (h1.trans z)
   have b:valueAt (q::qs) k=valueAt qs k:=by simp [valueAt,Du,e']
   rw [bE e,b];exact ih
theorem KV.any (r:KV kvs vs)(k:κ):(kvs.any λkv=>decide (kv.1=k))=vs.any λkv=>decide (kv.1=k):=by
 unfold KV at r
 induction r with
 |nil=>rfl
 |cons h t ih=>rw [List.any_cons,List.any_cons,ih,h.1]
def KV.repl (r:KV kvs vs)(k:κ)(ry:RelV y u) :
  KV (kvs.map λkv=>if kv.1=k then (kv.1,y) else kv) (vs.map λkv=>if kv.1=k then (kv.1,u) else kv):=by
 unfold KV at r ⊢
 induction r with
 |nil=>exact .nil
 |@cons p q ps qs h t ih=>
  rw [Ao,Ao];refine .cons ?_ ih;obtain ⟨h1,h2⟩:=h
  by_cases e:p.1=k
  ·rw [if_pos e,if_pos (h1.symm.trans e)];exact ⟨h1,ry⟩
  ·rw [if_neg e,if_neg (λz=>e (h1.trans z))];exact ⟨h1,h2⟩
def KV.put (r:KV kvs vs)(k:κ)(ry:RelV y u):KV (putK kvs k y) (stored vs k u):=by
 unfold putK stored;rw [r.any k]
 by_cases e:(vs.any λkv=>decide (kv.1=k))=true
 ·rw [if_pos e,if_pos e];exact r.repl k ry
 ·rw [if_neg e,if_neg e];exact Paired.snoc r ⟨rfl,ry⟩
def KV.drop (r:KV kvs vs)(k:κ):KV (iH kvs k) (without vs k):=by
 unfold KV at r ⊢;unfold iH without
 induction r with
 |nil=>exact .nil
 |@cons p q ps qs h t ih=>
  obtain ⟨h1,h2⟩:=h;rw [List.filter_cons,List.filter_cons]
  by_cases e:p.1=k
  ·have a:¬ decide (p.1≠k)=true:=by simp [e]
   have b:¬ decide (q.1≠k)=true:=by simp [h1.symm.trans e]
   rw [if_neg a,if_neg b];exact ih
  ·have e':¬ q.1=k:=λz=>e (h1.trans z)
   have a:decide (p.1≠k)=true:=by simp [e]
   have b:decide (q.1≠k)=true:=by simp [e']
   rw [if_pos a,if_pos b];exact .cons ⟨h1,h2⟩ ih
theorem KV.keys {kvs:List (κ×V)}{vs:List (κ×Value)}(r:KV kvs vs):kvs.map (·.1)=vs.map (·.1):=by
 unfold KV at r
 induction r with
 |nil=>rfl
 |cons h t ih=>rw [Ao,Ao,ih,h.1]
theorem KV.length (r:KV kvs vs):kvs.length=vs.length:=Paired.length r
def qX (kvs:List (κ×V))(k:κ):(iH kvs k).length<=kvs.length:=BY _ _
end
def mJ {k:Key}(r:RelV (kV k) u):(bH P w).is k u=true:=by
 cases k with
 |inl i=>obtain ⟨t,e⟩:=(show ∃ t,u=Value.int i t from r);subst e;exact pE P w i t
 |inr x=>obtain ⟨t,e⟩:=(show ∃ t,u=Value.str x t from r);subst e;exact pD P w x t
theorem nW :∀ {ks:List Key} {us:List Value},Vals (ks.map kV) us->ItemsAre (bH P w) ks us
 |[],_,r=>by rw [List.map_nil] at r;cases r;exact .nil
 |k::ks,_,r=>by
  rw [Ao] at r;cases r with
  |cons h t=>exact .cons (mJ h) (nW t)
abbrev KT (H:Hp):List (List Key×V)->List (List Key×Addr×Value)->Prop:=Paired λp q=>p.1=q.1/\H q.2.1=some (.tup (p.1.map kV))/\RelV p.2 q.2.2
theorem KT.val (r:KT H kvs xs)(k:List Key):RelO (valV kvs k) ((atKey xs k).map (·.2)):=by
 induction r with
 |nil=>exact Dp
 |@cons p q ps qs h t ih=>
  obtain ⟨h1,_,h2⟩:=h
  by_cases e:p.1=k
  ·have e':q.1=k:=h1.symm.trans e
   have b:atKey (q::qs) k=some q.2:=by simp [atKey,Du,e']
   rw [bJ e,b];exact h2
  ·have e':¬ q.1=k:=λz=>e (h1.trans z)
   have b:atKey (q::qs) k=atKey qs k:=by simp [atKey,Du,e']
   rw [bE e,b];exact ih
def KT.repl (r:KT H kvs xs)(k:List Key)(ry:RelV y u) :
  KT H (kvs.map λkv=>if kv.1=k then (kv.1,y) else kv) (xs.map (putAt k u)):=by
 induction r with
 |nil=>exact .nil
 |@cons p q ps qs h t ih=>
  rw [Ao,Ao];refine .cons ?_ ih;obtain ⟨h1,h2,h3⟩:=h;unfold putAt
  by_cases e:p.1=k
  ·rw [if_pos e,if_pos (h1.symm.trans e)];exact ⟨h1,h2,ry⟩
  ·rw [if_neg e,if_neg (λz=>e (h1.trans z))];exact ⟨h1,h2,h3⟩
def KT.put (r:KT H kvs xs)(k:List Key)(hb:H b=some (.tup (k.map kV)))(ry:RelV y u) :
  KT H (putK kvs k y) (storedH xs k b u):=by
 have e:(kvs.any λkv=>decide (kv.1=k))=(atKey xs k).isSome:=by
  rw [dJ,(r.val k).isSome_eq,Option.isSome_map]
 unfold putK storedH;rw [e]
 by_cases q:(atKey xs k).isSome=true
 ·rw [if_pos q,if_pos q];exact r.repl k ry
 ·rw [if_neg q,if_neg q];exact Paired.snoc r ⟨rfl,hb,ry⟩
def KT.keeps (r:KT H kvs xs)(ht:∀ b ys,H b=some (.tup ys)->H' b=some (.tup ys)):KT H' kvs xs:=
 Paired.mapP r λ_ _ z=>⟨z.1,ht _ _ z.2.1,z.2.2⟩
section
variable {P:AE}{w:World}{H:Hp}{h:Heap}{a:Addr}
def aD9 (ok:HOk P w H h)(e:Rd H a u):ObjOk P w H h a u:=e.ok ok
def iS (ok:HOk P w H h)(e:Rd H a (.dK kvs)):kvs.length<=AB/\(a==Dx)=false/\∃ vs,KV kvs vs/\h.DictOf (bH P w) a vs:=
 show ObjOk P w H h a (.dK kvs) from aD9 ok e
def iU (ok:HOk P w H h)(e:H a=some (.dK kvs)):kvs.length<=AB/\(a==Dx)=false/\∃ vs,KV kvs vs/\h.DictOf (bH P w) a vs:=iS ok (.inl e)
def jY (ok:HOk P w H h)(e:H a=some (.tup (ks.map kV))):(tupleKind (bH P w)).is h ks a:=by
 obtain ⟨_,its,r,o,h1,h2,n,h3⟩:=(show ObjOk P w H h a (.tup (ks.map kV)) from ok a _ e);exact ⟨o,its.toArray,n,h1,h2,h3,by simpa using nW r⟩
def oE (ok:HOk P w H h)(e:Rd H a (.dT kvs)):kvs.length<=AB/\(a==Dx)=false /\
  ∃ xs,KT H kvs xs/\h.DictOfH (tupleKind (bH P w)) a xs:=by
 obtain ⟨z,y,xs,r,o,es,ep,h1,h2,h3,h4,h5⟩:=(show ObjOk P w H h a (.dT kvs) from aD9 ok e);refine ⟨z,y,xs,r,o,es,ep,h1,h2,h3,h4,λx hx=>?_,h5⟩;have all:∀ {l:List (List Key×V)} {m:List (List Key×Addr×Value)},KT H l m->∀ x∈m,(tupleKind (bH P w)).is h x.1 x.2.1:=by
  intro l m q
  induction q with
  |nil=>intro x hx;exact nomatch hx
  |@cons p q ps qs hq t ih=>
   intro x hx
   rcases Ae.mp hx with e|hx
   ·subst e
    exact jY ok (by rw [<- hq.1];exact hq.2.1)
   ·exact ih x hx
 exact all r x hx
def aGw (ok:HOk P w H h)(e:H a=some (.dT kvs)):kvs.length<=AB/\(a==Dx)=false /\
  ∃ xs,KT H kvs xs/\h.DictOfH (tupleKind (bH P w)) a xs:=oE ok (.inl e)
end
def DGet (H:Hp)(a:Addr)(y:V)(r:Option V):Prop:=
 (∃ kvs k,Rd H a (.dK kvs)/\y=kV k/\r=valV kvs k)\/∃ kvs k b,Rd H a (.dT kvs)/\y=.ref b/\H b=some (.tup (k.map kV))/\r=valV kvs k
def DPut (H:Hp)(a:Addr)(y v:V)(H':Hp):Prop:=
 (∃ kvs k,H a=some (.dK kvs)/\y=kV k/\kvs.length<AB/\H'=upd H a (.dK (putK kvs k v))) \/
 ∃ kvs k b,H a=some (.dT kvs)/\y=.ref b/\H b=some (.tup (k.map kV))/\kvs.length<AB/\H'=upd H a (.dT (putK kvs k v))
theorem DGet.k {k:Key}(e:H a=some (.dK kvs)):DGet H a (kV k) (valV kvs k):=.inl ⟨kvs,k,.inl e,rfl,rfl⟩
theorem DPut.k {k:Key}(e:H a=some (.dK kvs))(hl:kvs.length<AB):DPut H a (kV k) v (upd H a (.dK (putK kvs k v))):=.inl ⟨kvs,k,e,rfl,hl,rfl⟩
section
variable {X:Cx}{pins:List (Addr×Obj)}{σ:St}{H:Hp}{s:Shared}{a:Addr}{y v:V}{u r:Value}{o:Option V}{A:Around}{E:Value->Shared->Prop}
def Inv.big (I:Inv X pins σ H s):Dx<s.heap.objs.size:=by
 have h:Aq<s.heap.objs.size:=(I.mod.glob.keeps I.bk).lt;exact Nat.lt_trans (by decide) h
def vW (hu:A.units+1<cLine)(I:Inv X pins σ H s)(g:DGet H a y (some v))(ry:RelV y u)(h:∀ w' s',Inv X pins σ H s'->RelV v w'->Q w' s') :
  wpAny (model X.prog X.w) A (getItem (.ref a) u) Q E s:=by
 rcases g with ⟨kvs,k,e,ey,l⟩|⟨kvs,k,b,e,ey,eb,l⟩
 ·subst ey
  obtain ⟨z,hd,vs,rel,dd⟩:=iS I.hok e;obtain ⟨w',hw,rw'⟩:=RelO.some_of (v:=v) (o:=valueAt vs k) (by rw [l];exact rel.val k);exact wpAny_getItem_of (mJ ry) dd.mapOf hw (h w' _ (I.tok _) rw')
 ·subst ey
  cases (show u=AZ b from ry);obtain ⟨z,hd,xs,rel,dd⟩:=oE I.hok e;obtain ⟨w',hw,rw'⟩:=RelO.some_of (v:=v) (o:=(atKey xs k).map (·.2)) (by rw [l];exact rel.val k);obtain ⟨p,hp,hp2⟩:=AA.mp hw;refine wpAny_getItem_heap (CU hu) (jY I.hok eb) dd hp ?_;rw [hp2];exact h w' _ (I.tok _) rw'
def d_in (hu:A.units+1<cLine)(I:Inv X pins σ H s)(g:DGet H a y o)(ry:RelV y u)(h:∀ s',Inv X pins σ H s'->Q (.bool o.isSome) s') :
  wpAny (model X.prog X.w) A (Bi .In u (.ref a)) Q E s:=by
 rcases g with ⟨kvs,k,e,ey,l⟩|⟨kvs,k,b,e,ey,eb,l⟩
 ·subst ey
  obtain ⟨z,hd,vs,rel,dd⟩:=iS I.hok e;refine wpAny_in_of (mJ ry) hd dd.mapOf ?_;rw [<- (rel.val k).isSome_eq,<- l];exact h _ (I.tok _)
 ·subst ey
  cases (show u=AZ b from ry);obtain ⟨z,hd,xs,rel,dd⟩:=oE I.hok e;refine wpAny_in_heap (CU hu) (jY I.hok eb) hd dd ?_;have q:=(rel.val k).isSome_eq;rw [Option.isSome_map] at q;rw [<- q,<- l];exact h _ (I.tok _)
def aC0 (hu:A.units+1<cLine)(I:Inv X pins σ H s)(g:DGet H a y o)(ry:RelV y u)(h:∀ s',Inv X pins σ H s'->Q (.bool (!o.isSome)) s') :
  wpAny (model X.prog X.w) A (Bi .NotIn u (.ref a)) Q E s:=by
 rcases g with ⟨kvs,k,e,ey,l⟩|⟨kvs,k,b,e,ey,eb,l⟩
 ·subst ey
  obtain ⟨z,hd,vs,rel,dd⟩:=iS I.hok e;refine wpAny_notIn_of (mJ ry) hd dd.mapOf ?_;rw [<- (rel.val k).isSome_eq,<- l];exact h _ (I.tok _)
 ·subst ey
  cases (show u=AZ b from ry);obtain ⟨z,hd,xs,rel,dd⟩:=oE I.hok e;refine wpAny_notIn_heap (CU hu) (jY I.hok eb) hd dd ?_;have q:=(rel.val k).isSome_eq;rw [Option.isSome_map] at q;rw [<- q,<- l];exact h _ (I.tok _)
def kI {t':Nat}(I:Inv X pins σ H s)(mu:Mut (H a))(hs:Heap.SameBut a s.heap h')(he:∃ q,h'.get? a=some q)(new:ObjOk X.prog X.w (upd H a ob) h' a ob) :
  Inv X pins σ (upd H a ob) { s with heap:=h',toks:=t' }:=
 I.write (x:=a) (e:=a) mu (.inl rfl) (λb q hb z=>(hs.2 b hb).trans z) he new
def oF (z:kvs.length<=AB)(hd:(a==Dx)=false)(rel:KV kvs vs)(dd:h'.DictOf (bH P w) a vs) :
  ObjOk P w H' h' a (.dK kvs):=⟨z,hd,vs,rel,dd⟩
def vV (hu:A.units+1<cLine)(I:Inv X pins σ H s)(g:DPut H a y v H')(ry:RelV y u)(rv:RelV v r)(h:∀ s',Inv X pins σ H' s'->Q () s') :
  wpAny (model X.prog X.w) A (setItem (.ref a) u r) Q E s:=by
 rcases g with ⟨kvs,k,e,ey,l,eH⟩|⟨kvs,k,b,e,ey,eb,l,eH⟩
 ·subst ey eH
  obtain ⟨z,hd,vs,rel,dd⟩:=iU I.hok e;have hz:vs.length<=AB:=by rw [<- rel.length];exact z
  have hl:(putK kvs k v).length<=AB:=by have:=gN kvs k v;omega
  refine wpAny_setItem_pairs (hsz:=hz) (mJ ry) dd λh' dd' hs=>h _ ?_;have he:∃ q,h'.get? a=some q:=let ⟨q,_,_,hq,_⟩:=dd';⟨q,hq⟩;exact kI I (by rw [e];exact Dp) hs he (oF hl hd (rel.put k rv) dd')
 ·subst ey eH
  cases (show u=AZ b from ry);obtain ⟨z,hd,xs,rel,dd⟩:=aGw I.hok e;have hz:xs.length<=AB:=by rw [<- Paired.length rel];exact z
  have hl:(putK kvs k v).length<=AB:=by have:=gN kvs k v;omega
  refine wpAny_setItem_heap (hsz:=hz) (CU hu) (jY I.hok eb) dd λh' dd' hs=>h _ ?_;obtain ⟨q,es,ep,hq,h2,h3,h4,_,h5⟩:=dd';refine kI I (by rw [e];exact Dp) hs ⟨q,hq⟩ ⟨hl,hd,_,(rel.put k eb rv).keeps λc ys ec=>?_,q,es,ep,hq,h2,h3,h4,h5⟩;rw [aD (fJ ec e (λz=>nomatch z))];exact ec
end
section
variable {X:Cx}{pins:List (Addr×Obj)}{σ:St}{H:Hp}{s:Shared}{a:Addr}{kvs:List (Key×V)}{k:Key}{u:Value}{A:Around}{E:Value->Shared->Prop}
def aGx {more:List Value}(I:Inv X pins σ H s)(e:H a=some (.dK kvs))(ry:RelV (kV k) u)(l:valV kvs k=some v)(hm:more=[]\/∃ x,more=[x])(h:∀ w' s',Inv X pins σ (upd H a (.dK (iH kvs k))) s'->RelV v w'->Q w' s'):wpAny (model X.prog X.w) A (call (.builtin "dict.pop") (.ref a::u::more)) Q E s:=by
 obtain ⟨z,hd,vs,rel,dd⟩:=iU I.hok e;obtain ⟨w',hw,rw'⟩:=RelO.some_of (v:=v) (o:=valueAt vs k) (by rw [<- l];exact rel.val k);have hp:(keyPart u).isSome=true:=by
  cases k with
  |inl i=>obtain ⟨t,q⟩:=(show ∃ t,u=Value.int i t from ry);subst q;rfl
  |inr x=>obtain ⟨t,q⟩:=(show ∃ t,u=Value.str x t from ry);subst q;rfl
 have ha:argsOk "dict.pop" ⟨.ref a::u::more,[]⟩:=by
  rcases hm with q|⟨x,q⟩
  ·subst q;exact PySem.F.args_dict_pop_2 _ _
  ·subst q;exact PySem.F.args_dict_pop_3 _ _ _
 refine DU PySem.F.slot_dict_pop dd.typeIs PySem.F.entry_dict_pop ha (meets_dict_pop_there (bH X.prog X.w) a (mJ ry) more hm hp)
  ⟨vs,w',dd,by rw [<- rel.length];exact z,hw,λh' dd' hs=>h w' _ ?_ rw'⟩
 have he:∃ q,h'.get? a=some q:=let ⟨q,_,_,hq,_⟩:=dd';⟨q,hq⟩;exact kI I (by rw [e];exact Dp) hs he (oF (AX (qX kvs k) z) hd (rel.drop k) dd')
def aGy (I:Inv X pins σ H s)(e:Rd H a (.dK kvs))(h:∀ t s',Inv X pins σ H s'->Q (.int kvs.length t) s'):wpAny (model X.prog X.w) A (call (.builtin "len") [.ref a]) Q E s:=by
 obtain ⟨z,hd,vs,rel,dd⟩:=iS I.hok e;refine call_len_dict hd dd (by rw [<- rel.length];rw [sizeLine_eq] at z;omega) ?_;rw [<- rel.length];exact h _ _ (I.tok _)
end
def NoSl (i:Expr):Prop:=∀ ov iv,subscripted i false ov iv=operate [ov,iv] (getItem ov iv)
def aAz {prog:AE}{w:World}{A:Around}{E:Value->Shared->Prop}{s:Shared}{env:Env}{value slice:Expr}{pos:Pos}{T id:String}{Q:Value->Shared->Prop}
  (hl:typeLookup (.type T) "__getitem__" = pure (some (.builtin id))) (hs:NoSl slice)
  (h:wpAny (model prog w) A (eval value env) (λo s₁=>wpAny (model prog w) A (eval slice env) (λi s₂=>s₂.TypeIs o T/\wpAny (model prog w) A (getItem o i) Q E s₂) E s₁) E s) :
  wpAny (model prog w) A (eval (.Subscript value slice pos) env) Q E s:=by
 refine Subscript_ (BZ h (λo s₁ h₁=>BZ h₁ (λi s₂ h₂=>?_) λ_ _ x=>x) λ_ _ x=>x);obtain ⟨hT,h₂⟩:=h₂;unfold subscriptTail;refine Aw ?_;rw [getitemInPython_of_ne hT.not_modules];refine Aw (wpAny_specialOf hT hl ?_);have fin:wpAny (model prog w) A (subscripted slice false o i) (λr s₃=>wpAny (model prog w) A (letTemporaryGo value o r >>= λ_=>pure r) Q E s₃) E s₂:=by
  rw [hs o i];exact wpAny_operating (BZ h₂ (λr s₃ h₃=>Aw (wpAny_letTemporaryGo (AM h₃))) λ_ _ x=>x)
 first
  |exact AM (Aw fin)
  |exact Aw (AM (Aw fin))
  |exact Aw fin
def pL {σ:St}(I:Inv X pins σ H s)(g:DGet H a y o):s.TypeIs (.ref a) "dict":=by
 rcases g with ⟨kvs,k,e,_,_⟩|⟨kvs,k,b,e,_,_,_⟩
 ·obtain ⟨_,_,vs,_,dd⟩:=iS I.hok e
  exact dd.typeIs
 ·obtain ⟨_,_,xs,_,dd⟩:=oE I.hok e
  exact dd.typeIs
def aF5 (td ty:TE):TE:=λσ H Q=>td σ H λx H1=>ty σ H1 λy H2=>∃ a v,x=.ref a/\DGet H2 a y (some v)/\Q v H2
def tDIn (ty td:TE):TE:=λσ H Q=>ty σ H λy H1=>td σ H1 λx H2=>∃ a o,x=.ref a/\DGet H2 a y o/\Q (.bl o.isSome) H2
def aAy (ty td:TE):TE:=λσ H Q=>ty σ H λy H1=>td σ H1 λx H2=>∃ a o,x=.ref a/\DGet H2 a y o/\Q (.bl (!o.isSome)) H2
def aGc (td ty tv:TE):TS:=λD σ H=>tv σ H λv H1=>td σ H1 λx H2=>ty σ H2 λy H3=>∃ a H4,x=.ref a/\DPut H3 a y v H4/\D.nx σ H4
def sDAug (td ty tv:TE)(rd:V->V->Hp->VK->Prop):TS:=λD σ H=>td σ H λx H1=>ty σ H1 λy H2=>∃ a v,x=.ref a/\DGet H2 a y (some v) /\
 tv σ H2 λy2 H3=>rd v y2 H3 λz H4=>∃ H5,DPut H4 a y z H5/\D.nx σ H5
def sDDel (td ty:TE):TS:=λD σ H=>td σ H λx H1=>ty σ H1 λy H2=>∃ a kvs k,x=.ref a/\H2 a=some (.dK kvs)/\y=kV k/\(valV kvs k).isSome=true/\D.nx σ (upd H2 a (.dK (iH kvs k)))
section
variable {X:Cx}{o i e value:Expr}{pos pos' tpos:Pos}{td ty tv:TE}
def aI (hu:X.A.units+1<cLine)(ho:PE X o td)(hi:PE X i ty)(hs:NoSl i):PE X (.Subscript o i pos) (aF5 td ty):=by
 intro pins s σ H Q I h;refine aAz PySem.F.slot_dict_getitem.lookup hs (thn (ho pins s σ H _ I h) λu s1 ⟨x,H1,I1,rx,q1⟩=>thn (hi pins s1 σ H1 _ I1 q1) λiv s2 ⟨y,H2,I2,ry,a,v,ex,g,q2⟩=>?_);subst ex;obtain rfl:u=AZ a:=rx;exact ⟨pL I2 g,vW hu I2 g ry λw' s3 I3 rw'=>⟨v,H2,I3,rw',q2⟩⟩
def tY (hu:X.A.units+1<cLine)(hi:PE X i ty)(ho:PE X o td):PC X .In i o (tDIn ty td):=by
 intro pins s σ H Q I h;refine thn (hi pins s σ H _ I h) λiv s1 ⟨y,H1,I1,ry,q1⟩=>thn (ho pins s1 σ H1 _ I1 q1) λu s2 ⟨x,H2,I2,rx,a,ov,ex,g,q2⟩=>?_;subst ex;obtain rfl:u=AZ a:=rx;exact d_in hu I2 g ry λs3 I3=>⟨.bl ov.isSome,H2,I3,rfl,q2⟩
def fT (hu:X.A.units+1<cLine)(hi:PE X i ty)(ho:PE X o td):PC X .NotIn i o (aAy ty td):=by
 intro pins s σ H Q I h;refine thn (hi pins s σ H _ I h) λiv s1 ⟨y,H1,I1,ry,q1⟩=>thn (ho pins s1 σ H1 _ I1 q1) λu s2 ⟨x,H2,I2,rx,a,ov,ex,g,q2⟩=>?_;subst ex;obtain rfl:u=AZ a:=rx;exact aC0 hu I2 g ry λs3 I3=>⟨.bl (!ov.isSome),H2,I3,rfl,q2⟩
def bR (hu:X.A.units+1<cLine)(ho:PE X o td)(hi:PE X i ty)(hv:PE X value tv)(hs:swapsWith value (some (.Subscript o i pos')) pos.line X.env=pure false) :
  PS X (.Assign [.Subscript o i pos'] value pos) (aGc td ty tv):=by
 intro pins s σ H D I h;refine wpAny_Assign_Subscript (thn (hv pins s σ H _ I h) λr s1 ⟨v,H1,I1,rv,q1⟩=>thn (ho pins s1 σ H1 _ I1 q1) λu s2 ⟨x,H2,I2,rx,q2⟩=>thn (hi pins s2 σ H2 _ I2 q2) λiv s3 ⟨y,H3,I3,ry,a,H4,ex,g,q3⟩=>?_) hs;subst ex;obtain rfl:u=AZ a:=rx;exact vV hu I3 g ry rv λs4 I4=>⟨σ,H4,I4,q3⟩
end
def qY (h:Heap)(hb:Dx<h.objs.size):ObjOk P w H (h.push { cls:=.type "dict",data:=.dict #[] }) h.objs.size (.dK []):=
 ⟨Bv _,beq_eq_false_iff_ne.mpr (Au (AJ hb)),[],.nil,Heap.DictOf.new h⟩
def aDl:TE:=λ_ H Q=>∀ p,H p=none->Q (.ref p) (upd H p (.dK []))
def tDNewT:TE:=λ_ H Q=>∀ p,H p=none->Q (.ref p) (upd H p (.dT []))
section
variable {X:Cx}{pos:Pos}
def bW:PE X (.Dict [] [] pos) aDl:=λpins s σ H Q I h=>
 wpAny_Dict_empty ⟨.ref s.heap.objs.size,_,I.laid (a:=s.heap.objs.size) (o:=.dK []) (t':=s.toks) (λ_ _ q=>Av _ q) (Ak _) (qY s.heap I.big),rfl,h _ (I.hok.fresh (Ak _))⟩
end
def sM:List (TE×TE)->St->Hp->(List (V×V)->Hp->Prop)->Prop
  |[],_,H,Q=>Q [] H
  |(tk,tv)::r,σ,H,Q=>tk σ H λx H1=>tv σ H1 λy H2=>sM r σ H2 λps H3=>Q ((x,y)::ps) H3
abbrev VV:List (V×V)->List (Value×Value)->Prop:=Paired λp q=>RelV p.1 q.1/\RelV p.2 q.2
def PPs (X:Cx)(pos:Pos)(keys:List (Option Expr))(values:List Expr)(trs:List (TE×TE)):Prop:=
 ∀ (pins:List (Addr×Obj)) (s:Shared) (σ:St) (H:Hp) (Q:List (V×V)->Hp->Prop),Inv X pins σ H s->sM trs σ H Q ->
  wpAny (model X.prog X.w) X.A (evalPairs (pairTrees keys values X.env pos)) (λvs s'=>∃ ps H',Inv X pins σ H' s'/\VV ps vs/\Q ps H') X.xe s
def gI :PPs X pos [] [] []:=λpins s σ H Q I h=>pairTrees_nil_walk ⟨[],H,I,.nil,h⟩
def bV {k v:Expr}{tk tv:TE}(hk:PE X k tk)(hv:PE X v tv)(hr:PPs X pos ks vs trs) :
  PPs X pos (some k::ks) (v::vs) ((tk,tv)::trs):=λpins s σ H Q I h=>
 pairTrees_cons_walk (thn (hk pins s σ H _ I h) λu s1 ⟨x,H1,I1,rx,q1⟩=>thn (hv pins s1 σ H1 _ I1 q1) λw2 s2 ⟨y,H2,I2,ry,q2⟩=>
  thn (hr pins s2 σ H2 _ I2 q2) λws s3 ⟨ps,H3,I3,rel,q3⟩=>⟨(x,y)::ps,H3,I3,.cons ⟨rx,ry⟩ rel,q3⟩)
def dA (kvs more:List (Key×V)):List (Key×V):=more.foldl (λacc kv=>putK acc kv.1 kv.2) kvs
def KV.merge:∀ {more:List (Key×V)} {rs:List (Key×Value)} {kvs:List (Key×V)} {vs:List (Key×Value)},KV more rs->KV kvs vs->KV (dA kvs more) (merged vs rs):=by
 intro more rs kvs vs r;unfold KV at r
 induction r generalizing kvs vs with
 |nil=>intro q;exact q
 |@cons p q ps qs h t ih=>
  intro r0;have e:KV (putK kvs p.1 p.2) (stored vs q.1 q.2):=by
   have:=r0.put p.1 h.2;rw [<- h.1];exact this
  exact ih e
theorem fE:∀ (more kvs:List (Key×V)),(dA kvs more).length<=kvs.length+more.length
 |[],kvs=>by show kvs.length<=kvs.length+0;omega
 |p::r,kvs=>by
  have h1:=fE r (putK kvs p.1 p.2);have h2:=gN kvs p.1 p.2;show (dA (putK kvs p.1 p.2) r).length<=_;rw [Br];omega
theorem kZ :∀ {kvs:List (Key×V)} {ws:List (Value×Value)},VV (kvs.map λkv=>(kV kv.1,kv.2)) ws->∃ rs,Carries (bH P w) ws rs/\KV kvs rs
 |[],_,r=>by rw [List.map_nil] at r;cases r;exact ⟨[],Dp,.nil⟩
 |p::kvs,_,r=>by
  rw [Ao] at r;cases r with
  |@cons a b as bs h t=>
   obtain ⟨rs,c,q⟩:=kZ (P:=P) (w:=w) t;obtain ⟨b1,b2⟩:=b;exact ⟨(p.1,b2)::rs,⟨mJ h.1,rfl,c⟩,.cons ⟨rfl,h.2⟩ q⟩
def aF4 (trs:List (TE×TE)):TE:=λσ H Q=>∀ p,H p=none->sM trs σ (upd H p (.dK [])) λps H2=>H2 p=some (.dK [])/\∃ kvs:List (Key×V),ps=kvs.map (λkv=>(kV kv.1,kv.2))/\kvs.length<=15/\Q (.ref p) (upd H2 p (.dK (dA [] kvs)))
def gL {keys:List (Option Expr)}(h:PPs X pos keys values trs)(hall:keys.all (·.isSome)=true)(hl:keys.length=values.length)(h0:keys≠[])(h15:keys.length<=15):PE X (.Dict keys values pos) (aF4 trs):=by
 intro pins s σ H Q I q;have hn:=I.hok.fresh (Ak s.heap.objs.size);have I1:=I.laid (a:=s.heap.objs.size) (o:=.dK []) (h':=s.heap.push { cls:=.type "dict",data:=.dict #[] }) (t':=s.toks) (λ_ _ q=>Av _ q) (Ak _) (qY s.heap I.big);refine wpAny_Dict_walk (knd:=bH X.prog X.w) hall hl h0 h15 (thn (h pins _ σ _ _ I1 (q _ hn)) λws s2 ⟨ps,H2,I2,rel,e,kvs,ep,lk,q2⟩=>?_);subst ep;obtain ⟨rs,c,rk⟩:=kZ (P:=X.prog) (w:=X.w) rel;obtain ⟨z,hd,vs0,r0,dd⟩:=iU I2.hok e;cases r0;refine ⟨rs,c,dd,λh' dd' hs=>⟨.ref s.heap.objs.size,_,?_,rfl,q2⟩⟩;have hz:(dA [] kvs).length<=AB:=by
  have h1:=fE kvs [];rw [List.length_nil] at h1;rw [sizeLine_eq];omega
 have he:∃ q,h'.get? s.heap.objs.size=some q:=let ⟨q,_,_,hq,_⟩:=dd';⟨q,hq⟩;exact kI I2 (by rw [e];exact Dp) hs he (oF hz hd (rk.merge .nil) dd')
structure M1 (X:Cx)(o:Expr)(m:Str)(apos:Pos)(e:Expr)(cpos:Pos):Prop where
 base:Di o m X.env (eval o X.env)=eval o X.env
 few:((backTo cpos (AY [e] X.env)).all (λx=>!x.1)&&(backToKw cpos (De [] X.env)).all (λx=>x.1.isSome)
  && decide (([e]:List Expr).length+([]:List Keyword).length+(if ([]:List Keyword).isEmpty then 0 else 1)<30))=true
 line:(apos.endLine==cpos.line)=true
 trees:backTo cpos (AY [e] X.env)=[(false,eval e X.env)]
structure M2 (X:Cx)(o:Expr)(m:Str)(apos:Pos)(e f:Expr)(cpos:Pos):Prop where
 base:Di o m X.env (eval o X.env)=eval o X.env
 few:((backTo cpos (AY [e,f] X.env)).all (λx=>!x.1)&&(backToKw cpos (De [] X.env)).all (λx=>x.1.isSome)
  && decide (([e,f]:List Expr).length+([]:List Keyword).length+(if ([]:List Keyword).isEmpty then 0 else 1)<30))=true
 line:(apos.endLine==cpos.line)=true
 trees:backTo cpos (AY [e,f] X.env)=[(false,eval e X.env),(false,eval f X.env)]
def IsD (H:Hp)(a:Addr):Prop:=(∃ kvs,Rd H a (.dK kvs))\/∃ kvs,Rd H a (.dT kvs)
def qV {σ:St}(I:Inv X pins σ H s)(d:IsD H a) :
  s.TypeIs (.ref a) "dict" /\ (∀ b,AZ a=.ref b->∃ ob,s.heap.get? b=some ob/\ob.dict=none)/\(a==Dx)=false:=by
 rcases d with ⟨kvs,e⟩|⟨kvs,e⟩
 ·obtain ⟨_,hd,vs,_,dd⟩:=iS I.hok e
  refine ⟨dd.typeIs,λb q=>?_,hd⟩;cases q;obtain ⟨ob,_,_,h1,h2,_⟩:=dd;exact ⟨ob,h1,h2.2.1⟩
 ·obtain ⟨_,hd,xs,_,dd⟩:=oE I.hok e
  refine ⟨dd.typeIs,λb q=>?_,hd⟩;cases q;obtain ⟨ob,_,_,h1,h2,_⟩:=dd;exact ⟨ob,h1,h2.2.1⟩
section
variable {X:Cx}{pins:List (Addr×Obj)}{σ:St}{H:Hp}{s:Shared}{a:Addr}{y d:V}{u r:Value}{o:Option V}{A:Around}{E:Value->Shared->Prop}
def aFq (hu:A.units+1<cLine)(I:Inv X pins σ H s)(g:DGet H a y o)(ry:RelV y u)(h:∀ w' s',Inv X pins σ H s'->RelV (o.getD .non) w'->Q w' s') :
  wpAny (model X.prog X.w) A (call (.builtin "dict.get") [.ref a,u]) Q E s:=by
 rcases g with ⟨kvs,k,e,ey,l⟩|⟨kvs,k,b,e,ey,eb,l⟩
 ·subst ey
  obtain ⟨z,hd,vs,rel,dd⟩:=iS I.hok e;refine DU Co dd.typeIs Ds (PySem.F.args_dict_get_2 _ _) (meets_dict_get (bH X.prog X.w) a (mJ ry) hd) ⟨_,dd.mapOf,h _ _ (I.tok _) ?_⟩;rw [l];exact (rel.val k).getD rfl
 ·subst ey
  cases (show u=AZ b from ry);obtain ⟨z,hd,xs,rel,dd⟩:=oE I.hok e;refine DU Co dd.typeIs Ds (PySem.F.args_dict_get_2 _ _) (meetsH_dict_get (tupleKind (bH X.prog X.w)) a b hd) ⟨CU hu,k,xs,jY I.hok eb,dd,h _ _ (I.tok _) ?_⟩;rw [l];exact (rel.val k).getD rfl
def aFp (hu:A.units+1<cLine)(I:Inv X pins σ H s)(g:DGet H a y o)(ry:RelV y u)(rd:RelV d r)(h:∀ w' s',Inv X pins σ H s'->RelV (o.getD d) w'->Q w' s') :
  wpAny (model X.prog X.w) A (call (.builtin "dict.get") [.ref a,u,r]) Q E s:=by
 rcases g with ⟨kvs,k,e,ey,l⟩|⟨kvs,k,b,e,ey,eb,l⟩
 ·subst ey
  obtain ⟨z,hd,vs,rel,dd⟩:=iS I.hok e;refine DU Co dd.typeIs Ds (PySem.F.args_dict_get_3 _ _ _) (meets_dict_get_default (bH X.prog X.w) a (mJ ry) hd r) ⟨_,dd.mapOf,h _ _ (I.tok _) ?_⟩;rw [l];exact (rel.val k).getD rd
 ·subst ey
  cases (show u=AZ b from ry);obtain ⟨z,hd,xs,rel,dd⟩:=oE I.hok e;refine DU Co dd.typeIs Ds (PySem.F.args_dict_get_3 _ _ _) (meetsH_dict_get_default (tupleKind (bH X.prog X.w)) a b hd r) ⟨CU hu,k,xs,jY I.hok eb,dd,h _ _ (I.tok _) ?_⟩;rw [l];exact (rel.val k).getD rd
end
def aDn (td ty:TE):TE:=λσ H Q=>td σ H λx H1=>∃ a,x=.ref a/\IsD H1 a/\ty σ H1 λy H2=>∃ o,DGet H2 a y o/\Q (o.getD .non) H2
def aDm (td ty tx:TE):TE:=λσ H Q=>td σ H λx H1=>∃ a,x=.ref a/\IsD H1 a/\ty σ H1 λy H2=>tx σ H2 λz H3=>∃ o,DGet H3 a y o/\Q (o.getD z) H3
def aDk (td ty:TE):TE:=λσ H Q=>td σ H λx H1=>∃ a,x=.ref a/\IsD H1 a/\ty σ H1 λy H2=>∃ kvs k v,H2 a=some (.dK kvs)/\y=kV k/\valV kvs k=some v/\Q v (upd H2 a (.dK (iH kvs k)))
def tDPop2 (td ty tx:TE):TE:=λσ H Q=>td σ H λx H1=>∃ a,x=.ref a/\IsD H1 a/\ty σ H1 λy H2=>tx σ H2 λz H3=>∃ kvs k,H3 a=some (.dK kvs)/\y=kV k /\
 (∀ v,valV kvs k=some v->Q v (upd H3 a (.dK (iH kvs k))))/\(valV kvs k=none->Q z H3)
section
variable {X:Cx}{o e f:Expr}{apos cpos:Pos}{td ty tx:TE}
def xT (hu:X.A.units+1<cLine)(ho:PE X o td)(he:PE X e ty)(m:M1 X o "get" apos e cpos):PE X (.Call (.Attribute o "get" apos) [e] [] cpos) (aDn td ty):=by
 intro pins s σ H Q I h;refine wpAny_Call_method m.base m.few m.line CF Co PySem.F.type_dict_get (thn (ho pins s σ H _ I h) λu s1 ⟨x,H1,I1,rx,a,ex,d,q1⟩=>?_);subst ex;obtain rfl:u=AZ a:=rx;obtain ⟨t1,t2,_⟩:=qV I1 d;refine ⟨t1,t2,?_⟩;rw [m.trees];refine Cm rfl (CZ (Cp (thn (he pins s1 σ H1 _ I1 q1) λiv s2 ⟨y,H2,I2,ry,ov,g,q2⟩=>CS ?_)));exact aFq hu I2 g ry λw' s3 I3 rw'=>⟨_,H2,I3,rw',q2⟩
def jB (hu:X.A.units+1<cLine)(ho:PE X o td)(he:PE X e ty)(hf:PE X f tx)(m:M2 X o "get" apos e f cpos):PE X (.Call (.Attribute o "get" apos) [e,f] [] cpos) (aDm td ty tx):=by
 intro pins s σ H Q I h;refine wpAny_Call_method m.base m.few m.line CF Co PySem.F.type_dict_get (thn (ho pins s σ H _ I h) λu s1 ⟨x,H1,I1,rx,a,ex,d,q1⟩=>?_);subst ex;obtain rfl:u=AZ a:=rx;obtain ⟨t1,t2,_⟩:=qV I1 d;refine ⟨t1,t2,?_⟩;rw [m.trees];refine Cm rfl (CZ (Cp (thn (he pins s1 σ H1 _ I1 q1) λiv s2 ⟨y,H2,I2,ry,q2⟩=>
  Cp (thn (hf pins s2 σ H2 _ I2 q2) λfv s3 ⟨z,H3,I3,rz,ov,g,q3⟩=>CS ?_))))
 exact aFp hu I3 g ry rz λw' s4 I4 rw'=>⟨_,H3,I4,rw',q3⟩
def xS (ho:PE X o td)(he:PE X e ty)(m:M1 X o "pop" apos e cpos):PE X (.Call (.Attribute o "pop" apos) [e] [] cpos) (aDk td ty):=by
 intro pins s σ H Q I h;refine wpAny_Call_method m.base m.few m.line CF PySem.F.slot_dict_pop PySem.F.type_dict_pop (thn (ho pins s σ H _ I h) λu s1 ⟨x,H1,I1,rx,a,ex,d,q1⟩=>?_);subst ex;obtain rfl:u=AZ a:=rx;obtain ⟨t1,t2,_⟩:=qV I1 d;refine ⟨t1,t2,?_⟩;rw [m.trees];refine Cm rfl (CZ (Cp (thn (he pins s1 σ H1 _ I1 q1) λiv s2 ⟨y,H2,I2,ry,kvs,k,v,ea,ey,l,q2⟩=>CS ?_)));subst ey;exact aGx I2 ea ry l (.inl rfl) λw' s3 I3 rw'=>⟨v,_,I3,rw',q2⟩
end
section
variable {X:Cx}{pins:List (Addr×Obj)}{σ:St}{H:Hp}{s:Shared}{a:Addr}{kvs:List (Key×V)}{A:Around}{E:Value->Shared->Prop}
def zF (I:Inv X pins σ H s)(e:Rd H a (.dK kvs))(h:∀ p s',H p=none->Inv X pins σ (upd H p (.dK kvs)) s'->Q (.ref p) s'):wpAny (model X.prog X.w) A (call (.type "dict") [.ref a]) Q E s:=by
 obtain ⟨z,hd,vs,rel,dd⟩:=iS I.hok e;refine kt_call_dict hd dd (by rw [<- rel.length];exact z) λh' dd' hs=>?_;refine h _ _ (I.hok.fresh (Ak _)) (I.laid (a:=s.heap.objs.size) (o:=.dK kvs) (t':=s.toks) (λb q hq=>?_) (Ak _) (oF z (beq_eq_false_iff_ne.mpr (Au (AJ I.big))) rel dd'));exact (hs.2 b (AJ (AD hq))).trans (Av _ hq)
end
section
variable {X:Cx}{pins:List (Addr×Obj)}{σ:St}{H:Hp}{s:Shared}{a:Addr}{y:V}{u:Value}{A:Around}{E:Value->Shared->Prop}
end
theorem iM:∀ {us:List Value} {ss:List Str},StrsAre us ss->Vals (ss.map V.str) us
 |_,_,.nil=>.nil
 |_,_,.cons _ _ h=>.cons ⟨_,rfl⟩ (iM h)
def aAi {e:Nat}(hv:Vals xs its)(hz:xs.length<=AB)(ho:h.get? a=some (seqObj "list" its.toArray e)):ObjOk P w H h a (.lst xs):=⟨hz,its,e,hv,ho⟩
section
variable {X:Cx}
def rSortS (K:Aa):List V->Hp->VK->Prop:=λxs H Q=>∃ a,∃ ss:List Str,xs=[.ref a]/\SqL K H a (ss.map V.str)/\ss.length<64/\∀ (p:Addr) (ss':List Str),ss'.Perm ss->sortedS ss'=true->H p=none->Q (.ref p) (upd H p (.lst (ss'.map V.str)))
def rSortI (K:Aa):List V->Hp->VK->Prop:=λxs H Q=>∃ a,∃ ns:List Int,xs=[.ref a]/\SqL K H a (ns.map V.int)/\ns.length<64/\∀ (p:Addr) (ns':List Int),ns'.Perm ns->ns'.Pairwise (·<=·)->H p=none->Q (.ref p) (upd H p (.lst (ns'.map V.int)))
theorem jW :∀ {ss:List Str} {vs:List (Key×Value)} {acc:List Value},vs.map (·.1)=ss.map As->acc.length=vs.length->(∀ (j:Nat) (v:Value),acc[j]?=some v->∃ k x,vs[j]?=some (k,x)/\(bH P w).is k v=true)->StrsAre acc ss
 |[],[],[],_,_,_=>.nil
 |[],_::_,_,e,_,_=>by simp at e
 |_::_,[],_,e,_,_=>by simp at e
 |[],[],_::_,_,l,_=>by simp at l
 |_::_,_::_,[],_,l,_=>by simp at l
 |x::ss,(k,y)::vs,v::acc,e,l,h=>by
  simp only [Ao,List.cons.injEq] at e;obtain ⟨e1,e2⟩:=e;obtain ⟨k',x',h1,h2⟩:=h 0 v rfl;simp at h1;obtain ⟨rfl,rfl⟩:=h1;subst e1;obtain ⟨t,rfl⟩:=Value.isStrOf_shape (x:=x) (v:=v) h2;exact .cons _ _ (jW e2 (by simpa using l) λj v hv=>h (j+1) v (by simpa using hv))
def oY {σ:St}(hh:A.handled=none)(I:Inv X pins σ H s)(hH:H a=some (.dK kvs))(h:∀ (h':Heap) (tk:Nat) (acc:List Value) (vs:List (Key×Value)),KV kvs vs->acc.length=vs.length->(∀ (j:Nat) (v:Value),acc[j]?=some v->∃ k x,vs[j]?=some (k,x)/\(bH X.prog X.w).is k v=true)->(∀ b o,s.heap.get? b=some o->h'.get? b=some o) ->
   wpAny (model X.prog X.w) A.in1 (call (.builtin "list.sort") [.ref h'.objs.size]) (λ_ s'=>Q (.ref h'.objs.size) s') E { s with heap:=h'.push (seqObj "list" acc.toArray 0),toks:=tk }) :
  wpAny (model X.prog X.w) A (call (.builtin "sorted") [.ref a]) Q E s:=by
 obtain ⟨z,lo,vs,rel,dd⟩:=iU I.hok hH;obtain ⟨ep,hat⟩:=dd.dictAt;have hlen:=rel.length;refine Calls.call_function_entry kind_sorted plain_sorted entry_sorted (args_sorted1 _) ?_;unfold Builtin.«sorted»;refine Aw (m:=checkCount "sorted" 1 1 _) (AM ?_);refine Aw (PySem.W.kdu_collect (A:=A.in1) (PySem.W.kdl_dict (knd:=bH X.prog X.w) (kvs:=vs) (ep:=ep) lo) hh hat (by rw [<- hlen];exact z) λh' tk acc hk hacc=>?_);have hl:acc.toList.length=vs.length:=by rw [BH];exact hacc.1
 refine Aw (wpAny_newList ?_ (by rw [hl,<- hlen];exact z));have hg:=h h' tk acc.toList vs rel hl (λj v e=>hacc.2 j v (by rw [<- BI];exact e)) hk;refine Aw (wpAny_holding (BZ hg (λ_ s' x=>?_) λ_ _ e=>e));exact AM ⟨_,rfl,x⟩
def aBl:List V->Hp->VK->Prop:=λxs H Q=>∃ a kvs,∃ ss:List Str,xs=[.ref a]/\H a=some (.dK kvs)/\kvs.map (·.1)=ss.map As/\kvs.length<64/\∀ (p:Addr) (ss':List Str),ss'.Perm ss->sortedS ss'=true->H p=none->Q (.ref p) (upd H p (.lst (ss'.map V.str)))
def dG (hc:X.calm=true):eT X (.builtin "sorted") aBl:=by
 intro pins s σ H xs us Q I r h;obtain ⟨a,kvs,ss,rfl,hH,hk,h64,q⟩:=h;obtain ⟨u,rfl,rx⟩:=vals1 r;cases rx;refine oY (I.ok.hd hc) I hH λh' tk acc vs rel hl hacc keep=>?_;have hS:=jW (ss:=ss) (by rw [<- rel.keys];exact hk) hl hacc;have hlen:=rel.length;have hssl:ss.length=kvs.length:=by
  have:=congrArg List.length hk;rw [Ab,Ab] at this;exact this.symm
 have hoL:(h'.push (seqObj "list" acc.toArray 0)).get? h'.objs.size=some (seqObj "list" acc.toArray 0):=AK _ rfl;refine wpAny_call_entry slot_list_sort ⟨_,hoL,rfl⟩ entry_list_sort (list_sort_treeK strKind_oneLt hoL hS.keysOf (λv₁ v₂ rest e=>keyKind_strs (by rw [<- e];exact hS)) (by omega) λst' hp hs=>⟨_,rfl,?_⟩) (args_list_sort _);obtain ⟨ss',a1,a2,a3⟩:=sorted_out_str hS hp hs;obtain ⟨e,he⟩:∃ e,(sortedHeap (h'.push (seqObj "list" acc.toArray 0)) h'.objs.size acc ((arrOf st').map (·.2))).get? h'.objs.size=some (seqObj "list" ((arrOf st').map (·.2)) e):=sortedHeap_at hoL;have I1:=I.kept (t':=tk) keep;refine ⟨.ref h'.objs.size,_,I1.laid (a:=h'.objs.size) (o:=.lst (ss'.map V.str)) (t':=tk) (λb o hb'=>?_) (Ak _) (aAi (its:=((arrOf st').map (·.2)).toList) (e:=e) (iM a1) ?_ (by rw [Array.toArray_toList];exact he)),rfl,q _ ss' a2 a3 (I1.hok.fresh (Ak _))⟩
 ·have lt:=AD hb'
  rw [sortedHeap_old (AJ lt) (by rw [Heap.size_push];exact Nat.lt_succ_of_lt lt)];exact Av _ hb'
 ·rw [Ab,a2.length_eq]
  exact fM (by omega)
def rSortDI:List V->Hp->VK->Prop:=λxs H Q=>∃ a kvs,∃ ns:List Int,xs=[.ref a]/\H a=some (.dK kvs)/\kvs.map (·.1)=ns.map Sum.inl/\kvs.length<64/\∀ (p:Addr) (ns':List Int),ns'.Perm ns->ns'.Pairwise (·<=·)->H p=none->Q (.ref p) (upd H p (.lst (ns'.map V.int)))
end
variable {X:Cx}
theorem Vals.of_get:∀ {xs:List V} {us:List Value},xs.length=us.length->(∀ (i:Nat) (x:V) (u:Value),xs[i]?=some x->us[i]?=some u->RelV x u)->Vals xs us
 |[],[],_,_=>.nil
 |x::xs,u::us,hl,h=>.cons (h 0 x u rfl rfl) (Vals.of_get (by simpa using hl) λi y v hy hv=>h (i+1) y v (by simpa using hy) (by simpa using hv))
 |[],_::_,hl,_=>by simp at hl
 |_::_,[],hl,_=>by simp at hl
theorem KV.at (r:KV kvs vs):∀ {i:Nat} {kv:Key×V} {k:Key} {v:Value},kvs[i]?=some kv->vs[i]?=some (k,v)->RelV kv.2 v:=by
 unfold KV at r
 induction r with
 |nil=>intro i _ _ _ h;simp at h
 |cons h _ ih=>
  intro i kv k v h1 h2;cases i with
  |zero=>
   cases h1;cases h2;exact h.2
  |succ i=>exact ih (by simpa using h1) (by simpa using h2)
def tRev (K:Aa)(te:TE)(tk:TO):TE:=λσ H Q=>te σ H λx H1=>tk σ H1 λst H2=>st=some (-1)/\∃ a xs,x=.ref a/\SqL K H2 a xs/\∀ p,H2 p=none->Q (.ref p) (upd H2 p (.lst xs.reverse))
def Vals.rev (r:Vals xs us):Vals xs.reverse us.reverse:=by
 induction r with
 |nil=>exact .nil
 |cons h _ ih=>
  rw [BJ,BJ];exact ih.append (.cons h .nil)
def aEj {tk:TO}(he:PE X e te)(hk:PO X (some ek) tk):PE X (.Subscript e (.Slice none none (some ek) p2) pos) (tRev X.K te tk):=by
 intro pins s σ H Q I h;refine Subscript_ (thn (he pins s σ H _ I h) λv s1 ⟨x,H1,I1,r1,q1⟩=>?_);refine wpAny_Slice ?_;rw [evalPart_none];refine AM (AM (thn (hk pins s1 σ H1 _ I1 q1) λvk s3 ⟨st,H3,I3,pk,est,a,xs,ex,hx,q⟩=>?_));subst est ex;cases r1;have I4:Inv X pins σ H3 { s3 with heap:=s3.heap.push { cls:=.type "slice",data:=.fields #[.none,.none,vk] } }:=I3.kept (t':=s3.toks) λb ob q=>Av _ q;obtain ⟨its,r,ht,hz⟩:=I4.list hx;have hlen:=r.length;show wpAny (model X.prog X.w) X.A (subscriptTail e (.Slice none none (some ek) p2) (.ref a) (.ref s3.heap.objs.size)) (EP X pins σ Q) X.xe { s3 with heap:=s3.heap.push { cls:=.type "slice",data:=.fields #[.none,.none,vk] } };refine tail_any (ops:=[.ref a,.ref s3.heap.objs.size]) ht.isList.typeIs slot_list_getitem.lookup ?_ (by with_unfolding_all rfl);refine wpAny_getItem_list_slice ht.isList (Heap.IsSliceOf.new ..) .none .none pk (by decide) ?_ (by rw [Ay]<;>omega);rw [PySem.W.krv_pick];refine ⟨.ref _,_,I4.laid (t':=s3.toks) (o:=.lst xs.reverse) (λb ob q=>Av _ q) (Ak _) ?_,rfl,q _ (I4.hok.fresh (Ak _))⟩;exact ⟨by rw [AI];exact hz,_,0,r.rev,AK _ rfl⟩
def tListRng (ta:TA):TE:=λσ H Q=>ta σ H λvs H1=>∃ i j:Int,vs=[.int i,.int j]/\(-(2^62)<=i/\i<2^62/\-(2^62)<=j/\j<2^62)/\(j-i).toNat<=1000/\∀ p,H1 p=none->Q (.ref p) (upd H1 p (.lst (rngV i (j-i).toNat)))
def tListVals (td:TE):TE:=λσ H Q=>td σ H λx H1=>∃ a kvs,x=.ref a/\H1 a=some (.dK kvs)/\∀ p,H1 p=none->Q (.ref p) (upd H1 p (.lst (kvs.map (·.2))))
def wK {kvs:List (Key×V)}{vs:List (Key×Value)}{acc:Array Value}(r:KV kvs vs)(h:ItemsOf (λi v=>∃ k,vs[i]?=some (k,v)) acc vs.length):Vals (kvs.map (·.2)) acc.toList:=by
 refine Vals.of_get (by rw [Ab,r.length];exact h.1.symm) λi x u hx hu=>?_;obtain ⟨k,hk⟩:=h.2 i u (by rw [<- BI];exact hu);rw [Ah] at hx;obtain ⟨kv,hkv,rfl⟩:=AA.mp hx;exact KV.at r hkv hk
def Itz2 (K:Aa)(a b:Addr):It:=
  ⟨λi H=>∃ xs ys,SqT K H a xs/\SqT K H b ys/\i<xs.length/\i<ys.length,
   λi H v H'=>∃ T,H T=none/\v=.ref T/\∀ xs ys,SqT K H a xs->SqT K H b ys->∃ x y,xs[i]?=some x/\ys[i]?=some y/\H'=upd H T (.tup [x,y]),
   λi H=>∃ xs ys,SqT K H a xs/\SqT K H b ys/\(i=xs.length\/(i<xs.length/\i=ys.length))⟩
def ZipSt2 (n a b:Nat)(i:Nat)(h:Heap):Prop:=IsZip h (n+4) (n+2) (n+3) .none/\IsPair h (n+2) (.ref n) (.ref (n+1))/\(∃ x y,IsPair h (n+3) x y)/\h.IsTupleIter n a i/\h.IsTupleIter (n+1) b i
abbrev yo1 (h:Heap)(a:Addr):Heap:=h.push { cls:=.type "tuple_iterator",data:=.fields #[.ref a,.int 0 0] }
abbrev yo2 (h:Heap)(a b:Addr):Heap:=(yo1 h a).push { cls:=.type "tuple_iterator",data:=.fields #[.ref b,.int 0 0] }
abbrev yo3 (h:Heap)(a b:Addr):Heap:=(yo2 h a b).push { cls:=.type "tuple",data:=.seq #[.ref h.objs.size,.ref (yo1 h a).objs.size] }
abbrev yo4 (h:Heap)(a b:Addr):Heap:=(yo3 h a b).push { cls:=.type "tuple",data:=.seq #[.none,.none] }
abbrev yo5 (h:Heap)(a b:Addr):Heap:=(yo4 h a b).push { cls:=.type "zip",data:=.fields #[.none,.bool false,.bool false,.ref (yo2 h a b).objs.size,.ref (yo3 h a b).objs.size] }
def iZip2 (K:Aa)(ta:TA):TI:=λσ H R=>ta σ H λvs H1=>∃ a b,vs=[.ref a,.ref b]/\(∃ xs,SqT K H1 a xs)/\(∃ ys,SqT K H1 b ys)/\R (Itz2 K a b) H1
variable {X:Cx}
def aEb:List V->Hp->VK->Prop:=λxs H Q=>∃ a kvs,∃ ss:List Str,xs=[.ref a]/\H a=some (.dK kvs)/\kvs.map (·.1)=ss.map As/\∀ p,H p=none->Q (.ref p) (upd H p (.lst (ss.map V.str)))
theorem nF:∀ {ss:List Str} {us:List Value},StrsAre us ss->Vals (ss.map V.str) us
 |_,_,.nil=>.nil
 |_,_,.cons x t r=>.cons ⟨t,rfl⟩ (nF r)
def lC (hc:X.calm=true):eT X (.type "list") aEb:=by
 intro pins s σ H xs us Q I r h;obtain ⟨a,kvs,ss,rfl,hH,hk,q⟩:=h;obtain ⟨u,rfl,rx⟩:=vals1 r;cases rx;obtain ⟨z,lo,vs,rel,dd⟩:=iU I.hok hH;obtain ⟨ep,hat⟩:=dd.dictAt;refine PySem.W.kdl_call (PySem.W.kdl_dict (knd:=bH X.prog X.w) (kvs:=vs) (ep:=ep) lo) (I.ok.hd hc) hat (by rw [<- rel.length];exact z) λh' tk acc' c' hk' hS' hacc=>?_;have hl:acc'.toList.length=vs.length:=by rw [BH];exact hacc.1
 have hS:=jW (P:=X.prog) (w:=X.w) (ss:=ss) (vs:=vs) (acc:=acc'.toList) (by rw [<- rel.keys];exact hk) hl (λj v e=>hacc.2 j v (by rw [<- BI];exact e));have hss:ss.length=kvs.length:=by
  have:=congrArg List.length hk;rw [Ab,Ab] at this;exact this.symm
 refine ⟨.ref _,_,I.laid (o:=.lst (ss.map V.str)) hk' (Ak _) ?_,rfl,q _ (I.hok.fresh (Ak _))⟩;exact ⟨by rw [Ab,hss];exact z,acc'.toList,c',nF hS,hS'⟩
def tListRng3 (ta:TA):TE:=λσ H Q=>ta σ H λvs H1=>∃ i j c:Int,vs=[.int i,.int j,.int c]/\(-(2^20)<=i/\i<2^20/\-(2^20)<=j/\j<2^20/\1<=c/\c<2^20)/\(j-i)/c<=900 /\
 ∀ p (ms:List Int),(∀ x∈ms,i<=x/\x<j)->(ms.length:Int)<=max 0 ((j-i-1)/c+1)->H1 p=none->Q (.ref p) (upd H1 p (.lst (ms.map V.int)))
variable {X:Cx}
def Inv.freeze {σ:St}(I:Inv X pins σ H s)(hH:H d=some (.dK kvs))(ho:s.heap.get? d=some ob) :
  Inv X pins σ (upd H d (.frz ob (.dK kvs))) s:=by
 have nd:∀ b u,H b=some u->u≠.dK kvs->b≠d:=λb u e n z=>by
  rw [z,hH] at e;exact n (AF e).symm
 refine I.step (g':=s.gens) (d':=s.drawn) (t':=s.toks) (h':=s.heap) (ch:=[]) (λ_ z=>nomatch z) (λb o _ _ _ e _=>e) (λb o _ _ _ e _=>⟨o.slots,e⟩) (λb o _ e n=>?_) (λb o _ e=>⟨o,e⟩) (λb xs e=>?_) (λb o u e=>?_) (λb ps e=>⟨#[],?_⟩) (λm hm=>hm) (λb u e=>?_) I.bare
 ·rw [aD (λz=>by rw [z,hH] at n;cases n)]
  exact n
 ·rw [aD (nd b _ e (by intro z;cases z))]
  exact e
 ·rw [aD (nd b _ e (by intro z;cases z))]
  exact e
 ·rw [aD (nd b _ e (by intro z;cases z)),e]
  simp
 ·have st:∀ {a:Addr} {u:HO},ObjOk X.prog X.w H s.heap a u->ObjOk X.prog X.w (upd H d (.frz ob (.dK kvs))) s.heap a u:=λx=>
   x.stay (λc v _ q=>q) (λc q=>by rw [aD (nd c _ q (by intro z;cases z))];exact q) λc xs q=>by rw [aD (nd c _ q (by intro z;cases z))];exact q
  by_cases e':b=d
  ·subst e'
   rw [aB] at e;cases e;exact ⟨ho,st (I.hok b _ hH)⟩
  ·rw [aD e'] at e
   exact st (I.hok b u e)
def Itd (d:Addr)(ob:Obj)(kvs:List (Key×V)):It:=
 ⟨λi H=>H d=some (.frz ob (.dK kvs))/\i<kvs.length,λi H v H'=>H'=H/\∃ kv,kvs[i]?=some kv/\v=kV kv.1,λi H=>H d=some (.frz ob (.dK kvs))/\kvs.length<=i⟩
def aCt {k:Key}(h:(bH P w).is k v=true):RelV (kV k) v:=by
 cases k with
 |inl n=>
  obtain ⟨t,rfl⟩:=Value.isInt_shape (k:=n) (v:=v) h;exact ⟨t,rfl⟩
 |inr x=>
  obtain ⟨t,rfl⟩:=Value.isStrOf_shape (x:=x) (v:=v) h;exact ⟨t,rfl⟩
def sJ {P:AE}{w:World}{K:Aa}{tg:Expr}(d it:Addr)(ob:Obj)(kvs:List (Key×V))(vs:List (Key×Value))(ep:Nat)(rel:KV kvs vs)(hob:∀ h:Heap,h.get? d=some ob->h.DictAt (bH P w) d vs ep) :
  Turn P w K tg (Itd d ob kvs) [it] it (λi h=>h.IsKeyIter it d i vs.length ep) where
 mem:=by simp
 obj:=λi h st b hb=>by
  have e:b=it:=by simpa using hb
  subst e;obtain ⟨o,e,c,d⟩:=st;exact ⟨o,e,λv z=>by rw [d] at z;cases z⟩
 keep:=λi h h' st k=>st.at λo e=>k it (by simp) o e
 item:=by
  intro X hP hw hK hc i pins s σ H E I hf st hg;subst hP hw hK;obtain ⟨hfz,hi⟩:=hg;have ho:s.heap.get? d=some ob:=(show ObjOk X.prog X.w H s.heap d (.frz ob (.dK kvs)) from I.hok d _ hfz).1;have hat:=hob _ ho;have hl:=rel.length;obtain ⟨⟨k,x⟩,hx⟩:∃ p,vs[i]?=some p:=⟨_,Al (by omega)⟩;obtain ⟨f0,f1,f2,f3,f4,f5⟩:=hf it (by simp);refine wpAny_pyNext_dict_item st hat hx λkey h' hkey st' sb=>?_;have I1:Inv X pins σ H { s with heap:=h' }:=I.turned (t':=s.toks) (λb o hb e=>(sb.2 b hb).trans e) f0 f1 f3 f4 f5;obtain ⟨kv,hkv⟩:∃ kv,kvs[i]?=some kv:=⟨_,Al hi⟩;have ek:kv.1=k:=by
   have:=congrArg (λl=>l[i]?) rel.keys;simp only [Ah,hkv,hx,Dq] at this;exact AF this
  obtain ⟨o,e,c,d'⟩:=id st';exact ⟨key,rfl,yZ (s:={ s with heap:=h' }) e c d' (by decide) ⟨kV k,H,I1,aCt hkey,⟨rfl,kv,hkv,by rw [ek]⟩,st',λb hb=>(hf b hb).1⟩⟩
 done:=by
  intro X hP hw hK hc i pins s σ H E I hf st hg;subst hP hw hK;obtain ⟨hfz,hi⟩:=hg;have ho:s.heap.get? d=some ob:=(show ObjOk X.prog X.w H s.heap d (.frz ob (.dK kvs)) from I.hok d _ hfz).1;have hat:=hob _ ho;have hl:=rel.length;obtain ⟨f0,f1,f2,f3,f4,f5⟩:=hf it (by simp);exact wpAny_pyNext_dict_end (I.ok.hd hc) st hat (Cs (by omega)) λh' eb=>⟨rfl,I.turned (t':=s.toks) (λb o hb e=>eb b o hb e) f0 f1 f3 f4 f5⟩
 self:=λ_ _ _ _ _ st h=>wpAny_pyIter_keyiter st h
def aGt (tl:TE):TI:=λσ H R=>tl σ H λx H1=>∃ d kvs,x=.ref d/\H1 d=some (.dK kvs)/\∀ ob,R (Itd d ob kvs) (upd H1 d (.frz ob (.dK kvs)))
def eI {tg l:Expr}{tl:TE}(hl:PE X l tl):PI X tg l (aGt tl):=by
 intro pins s σ H R I h;refine thn (hl pins s σ H _ I h) λv s1 ⟨x,H1,I1,r1,q1⟩=>?_;obtain ⟨d,kvs,e,hH,q⟩:=q1;subst e;cases r1;obtain ⟨z,lo,vs,rel,dd⟩:=iU I1.hok hH;obtain ⟨ep,hat⟩:=dd.dictAt;obtain ⟨ob,es,ho,rest⟩:=id hat;refine wpAny_pyIter_dict lo hat ?_;have I2:=I1.freeze hH ho;refine ⟨s1.heap.objs.size,[s1.heap.objs.size],_,_,_,rfl,I2.kept (t':=s1.toks) λb o e=>Av _ e,sJ d _ ob kvs vs ep rel (λh e=>⟨ob,es,e,rest⟩),⟨_,AK _ rfl,rfl,rfl⟩,λb hb=>?_,q ob⟩;have e:b=s1.heap.objs.size:=by simpa using hb
 subst e;exact I2.fpOk (Ak _) (I2.hok.fresh (Ak _))
def Ys.dict (h:H1 d=some (.frz ob (.dK kvs))):Ys (Itd d ob kvs) (kvs.map λkv=>kV kv.1) H1 where
 go:=λi H s hi=>⟨s _ _ h,by rwa [Ab] at hi⟩
 yld:=λi H x H' s hi y=>by
  obtain ⟨e,kv,hkv,rfl⟩:=y;exact ⟨e,by rw [Ah,hkv];rfl⟩
 stop:=λi H s hi=>⟨s _ _ h,by rwa [Ab] at hi⟩
def gD {d:Addr}{ob:Obj}{kvs:List (Key×V)}{g:TG}{tb:TS}{D:Ends}{σ:St}{H:Hp}(Pv:Nat->St->Hp->Prop)(h0:Pv 0 σ H)(hl:∀ i σ H,i<=kvs.length->Pv i σ H->H d=some (.frz ob (.dK kvs)))
  (hs:∀ i kv σ H,kvs[i]?=some kv->Pv i σ H->g (kV kv.1) σ H λσ2 H2=>tb { D with nx:=Pv (i+1),ct:=Pv (i+1),bk:=D.nx } σ2 H2) (hd:∀ σ H,Pv kvs.length σ H->D.nx σ H) :
  ∃ W:Nat->Nat->St->Hp->Prop,(∃ m,W 0 m σ H)/\∀ i m σ H,W i m σ H ->
   ((Itd d ob kvs).stop i H/\D.nx σ H)\/((Itd d ob kvs).go i H/\∃ N:St->Hp->Prop,(∀ σ' H',N σ' H'->∃ m',m'<m/\W (i+1) m' σ' H')/\∀ v H',(Itd d ob kvs).yld i H v H'->g v σ H' λσ2 H2=>tb { D with nx:=N,ct:=N,bk:=D.nx } σ2 H2):=by
 refine ⟨λi m σ H=>m=kvs.length-i/\i<=kvs.length/\Pv i σ H,⟨kvs.length,by simp,Bv _,h0⟩,?_⟩
 rintro i m σ H ⟨rfl,hi,p⟩
 have q:=hl i σ H hi p
 by_cases hlt:i<kvs.length
 ·refine .inr ⟨⟨q,hlt⟩,Pv (i+1),λσ' H' p'=>⟨kvs.length-(i+1),by omega,rfl,hlt,p'⟩,λv H' y=>?_⟩
  obtain ⟨rfl,kv,hkv,rfl⟩:=y;exact hs i kv σ H' hkv p
 ·have e:i=kvs.length:=by omega
  subst e;exact .inl ⟨⟨q,Ak _⟩,hd σ H p⟩
end L2
namespace L2
open PySem PySem.Spec PyProof.Rows PySem.W
def PassesAt (CX:CXT)(X:Cx)(σ:St)(E:XK):Prop:=∀ (pins:List (Addr×Obj)) (H:Hp) (s:Shared) (e:Value) (s':Shared),Inv X pins σ H s->CX X.stack H s E e s'->X.xe e s'
section
variable {X:Cx}
def tTryS (K:Frag)(i j:Nat)(Dc:Addr)(tb:St->XK->TS):TS:=λD σ H=>tb σ (λcls dd H'=>∃ C,cls=.ref C/\ExK K C/\subIn K (.ref C) (.ref Dc)=some true/\∀ a,H' a=none->D.nx (((σ.set i (some (.ref a))).set j (some (.ref a))).set i none) (upd H' a (excD a C dd))) D σ H
end
end L2
namespace L2
open PySem PySem.Spec PyProof.Rows
variable {X:Cx}
def rSortDSR:List V->Hp->VK->Prop:=λxs H Q=>∃ a kvs,∃ ss:List Str,xs=[.ref a]/\Rd H a (.dK kvs)/\kvs.map (·.1)=ss.map As/\kvs.length<64/\∀ (p:Addr) (ss':List Str),ss'.Perm ss->sortedS ss'=true->H p=none->Q (.ref p) (upd H p (.lst (ss'.map V.str)))
def rF (td:TE):TE:=λσ H Q=>td σ H λx H1=>∃ a kvs,x=.ref a/\Rd H1 a (.dK kvs)/\∀ p,H1 p=none->Q (.ref p) (upd H1 p (.lst (kvs.map (·.2))))
def nR (hc:X.calm=true)(hg:Gl X "list")(hm:X.mg "list" = none)(ho:PE X o td)(hbase:Di o "values" X.env (eval o X.env)=eval o X.env:=by rfl)(hline:(apos.endLine==cpos.line)=true:=by rfl)(hs3:AY [Expr.Call (.Attribute o "values" apos) [] [] cpos] X.env=[(false,eval (.Call (.Attribute o "values" apos) [] [] cpos) X.env)]:=by rfl) :
  PE X (.Call (.Name "list" p) [.Call (.Attribute o "values" apos) [] [] cpos] [] pos) (rF td):=by
 intro pins s σ H Q I h;refine CT (jV I hg hm gO (CG ?_ hs3 rfl));rw [hs3];show wpAny _ _ (spliced ((false,eval (.Call (.Attribute o "values" apos) [] [] cpos) X.env)::backTo pos [])) _ _ s;refine Cp ?_;refine wpAny_Call_method0_late hbase hline (thn (ho pins s σ H _ I h) λv s1 ⟨x,H1,I1,r1,a,kvs,ex,hH,q⟩=>?_);subst ex;cases r1;obtain ⟨z,lo,vs,rel,dd⟩:=iS I1.hok hH;obtain ⟨t1,t2,_⟩:=qV I1 (.inl ⟨kvs,hH⟩);refine ⟨"dict","dict.values",CF,PySem.F.slot_dict_values,PySem.F.type_dict_values,t1,t2,Cm rfl (PySem.evalArgs_none ?_)⟩;refine DU PySem.F.slot_dict_values t1 PySem.F.entry_dict_values (PySem.F.args_dict_values_1 _) (meets_dict_values (bH X.prog X.w) a lo) ⟨⟨vs,dd⟩,CS ?_⟩;have I2:Inv X pins σ H1 { s1 with heap:=s1.heap.push { cls:=.type "dict_values",data:=.fields #[.ref a] } }:=I1.kept (t':=s1.toks) λb o e=>Av _ e;obtain ⟨z2,lo2,vs2,rel2,dd2⟩:=iS I2.hok hH;obtain ⟨ep,hat⟩:=dd2.dictAt;refine PySem.W.kdl_call (PySem.W.kdl_values (knd:=bH X.prog X.w) (kvs:=vs2) (ep:=ep)) (I2.ok.hd hc) ⟨⟨_,AK _ rfl,rfl,rfl⟩,hat⟩ (by rw [<- rel2.length];exact z2) λh' tk acc' c' hk hS' hacc=>?_;refine ⟨.ref _,_,I2.laid (o:=.lst (kvs.map (·.2))) hk (Ak _) ?_,rfl,q _ (I2.hok.fresh (Ak _))⟩;exact ⟨by rw [Ab];exact z2,acc'.toList,c',wK rel2 hacc,hS'⟩
theorem DGet.r {k:Key}(e:Rd H a (.dK kvs)):DGet H a (kV k) (valV kvs k):=.inl ⟨kvs,k,e,rfl,rfl⟩
def Ite (K:Aa)(b:Addr):It:=
  ⟨λi H=>∃ ys,SqL K H b ys/\i<ys.length,
   λi H v H'=>∃ T,H T=none/\v=.ref T/\∀ ys,SqL K H b ys->∃ y,ys[i]?=some y/\H'=upd H T (.tup [.int i,y]),
   λi H=>∃ ys,SqL K H b ys/\i=ys.length⟩
def EnuSt (n b:Nat)(i:Nat)(h:Heap):Prop:=(∃ old,IsEnum h (n+1) n (i:Int) old)/\h.IsListIter n b i
def iEnu (K:Aa)(ta:TA):TI:=λσ H R=>ta σ H λvs H1=>∃ b,vs=[.ref b]/\(∃ ys,SqL K H1 b ys)/\R (Ite K b) H1
section
variable {X:Cx}{a b c d:Expr}{ta tb tc td:TE}{pos:Pos}
def tChain3 (r r' r'':R2)(ta tb tc td:TE):TE:=λσ H Q=>ta σ H λx H1=>tb σ H1 λy H2=>r x y H2 λz H3=>∃ k,z=.bl k /\
 (if k=true then tc σ H3 λw' H4=>r' y w' H4 λz' H5=>∃ k',z'=.bl k'/\(if k'=true then td σ H5 λw'' H6=>r'' w' w'' H6 Q else Q (.bl false) H5) else Q (.bl false) H3)
end
def Fz (H H':Hp):Prop:=∀ b o,H b=some o->H' b=some o\/∃ ob kvs,o=.dK kvs/\H' b=some (.frz ob (.dK kvs))
def Fz.of (s:Same H H'):Fz H H':=λb o e=>.inl (s b o e)
theorem Fz.trans (h:Fz H H1)(k:Fz H1 H2):Fz H H2:=λb o e=>by
 rcases h b o e with h|⟨ob,kvs,rfl,h⟩
 ·exact k b o h
 ·rcases k b _ h with k|⟨_,_,z,_⟩
  ·exact .inr ⟨ob,kvs,rfl,k⟩
  ·cases z
theorem Fz.at (h:Fz H H')(e:H b=some o)(n:∀ kvs,o≠.dK kvs):H' b=some o:=by
 rcases h b o e with h|⟨_,kvs,z,_⟩
 ·exact h
 ·exact absurd z (n kvs)
def Fz.tk (h:Fz H H'):Tk H H':=λ_ _ e=>h.at e λ_ z=>by cases z
def Hld (d:Addr)(ob:Obj)(kvs:List (Key×V))(H H':Hp):Prop:=H' d=some (.frz ob (.dK kvs))/\(∀ b,b≠d->H' b=H b)/\(H d=some (.dK kvs)\/H d=some (.frz ob (.dK kvs)))
def Hld.fz (h:Hld d ob kvs H H'):Fz H H':=λb o e=>by
 by_cases z:b=d
 ·subst z
  rcases h.2.2 with r|r
  ·rw [r] at e
   cases e;exact .inr ⟨ob,kvs,rfl,h.1⟩
  ·rw [r] at e
   cases e;exact .inl h.1
 ·exact .inl (by rw [h.2.1 b z];exact e)
section
variable {X:Cx}
def iDictR (tl:TE):TI:=λσ H R=>tl σ H λx H1=>∃ d kvs,x=.ref d/\Rd H1 d (.dK kvs)/\∀ ob H2,Hld d ob kvs H1 H2->R (Itd d ob kvs) H2
def aEc:List V->Hp->VK->Prop:=λxs H Q=>∃ a kvs,xs=[.ref a]/\Rd H a (.dK kvs)/\∀ p,H p=none->Q (.ref p) (upd H p (.dK kvs))
def eF:eT X (.type "dict") aEc:=by
 intro pins s σ H xs us Q I r h;obtain ⟨a,kvs,rfl,hH,q⟩:=h;obtain ⟨u,rfl,rx⟩:=vals1 r;cases rx;exact zF I hH λp s' hp I'=>⟨.ref p,_,I',rfl,q p hp⟩
def DDeq (K:Aa)(H:Hp)(ka kb:List (Key×V)):Prop:=ka.length=kb.length/\∀ kv∈ka,∃ v' d,valV kb kv.1=some v'/\Dv K H 30 kv.2 d/\Dv K H 30 v' d
def vI {σ:St}(I:Inv X pins σ H s)(hu:A.units+30<cLine)(rb:KV kb vb) :
  ∀ {ka:List (Key×V)} {va:List (Key×Value)},KV ka va->(∀ kv∈ka,∃ v' d,valV kb kv.1=some v'/\Dv X.K H 30 kv.2 d/\Dv X.K H 30 v' d)->PySem.W.KeqHits A s vb va true:=λ{ka va} ra=>by
 unfold KV at ra
 induction ra with
 |nil=>exact λ_=>.nil
 |@cons p q ps qs h t ih=>
  intro hk;obtain ⟨h1,h2⟩:=h;obtain ⟨v',d,e1,d1,d2⟩:=hk p AO;have rv:=rb.val p.1;rw [e1] at rv;cases hy:valueAt vb p.1 with
  |none=>rw [hy] at rv;exact rv.elim
  |some y=>
   rw [hy] at rv;have ee:Bg A s q.2 y true:=(d1.eq d2).at I hu h2 rv;have:=PySem.W.KeqHits.hit (k:=q.1) (v:=q.2) (by rw [<- h1];exact hy) ee (ih λkv hkv=>hk kv (AL _ hkv));exact this
def rNeDD (K:Aa):R2:=λx y H Q=>∃ a b ka kb,x=.ref a/\y=.ref b/\Rd H a (.dK ka)/\Rd H b (.dK kb)/\DDeq K H ka kb/\Q (.bl false) H
def rEqDD (K:Aa):R2:=λx y H Q=>∃ a b ka kb,x=.ref a/\y=.ref b/\Rd H a (.dK ka)/\Rd H b (.dK kb)/\DDeq K H ka kb/\Q (.bl true) H
end
end L2
namespace L2.TS
open PySem PySem.Spec PyProof.Rows
abbrev Ky:=List Nat
def uY {a b:Ky}(hn:a≠b)(hl:¬ a<b):b<a:=by
 by_cases hb:b<a
 ·exact hb
 ·exact absurd (List.le_antisymm (List.not_lt.mp hb) (List.not_lt.mp hl)) hn
def ka (f:Value->Ky)(xs:Array Keyed)(i:Nat):Ky:=(xs[i]?.map λp=>f p.1).getD []
theorem vD {i j:Nat}(e:xs[i]?=ys[j]?):ka f xs i=ka f ys j:=by
 unfold ka;rw [e]
def Up (f:Value->Ky)(xs:Array Keyed)(n:Nat):Prop:=∀ i j,i<j->j<n->ka f xs i<ka f xs j
def Dn (f:Value->Ky)(xs:Array Keyed)(n:Nat):Prop:=∀ i j,i<j->j<n->ka f xs j<ka f xs i
def Df (f:Value->Ky)(xs:List Keyed):Prop:=xs.Pairwise λp q=>f p.1≠f q.1
structure Sb (f:Value->Ky)(kd:SortKind)(o:Array Keyed)(st:SortSt):Prop where
 pm:(arrOf st).Perm o
 kn:kindOf st=kd
 fl:failedOf st=none
 pe:pendingOf st=#[]
 df:Df f (arrOf st).toList
section
variable {prog:AE}{w:World}{A:Around}{E:Value->Shared->Prop}{s:Shared}{o:Array Keyed}{f:Value->Ky}{kd:SortKind}
theorem Sb.sz {st:SortSt}(b:Sb f kd o st):(arrOf st).size=o.size:=b.pm.size_eq
def Sb.put {st:SortSt}(b:Sb f kd o st)(p:xs.Perm (arrOf st)):Sb f kd o (setArr st xs):=
 ⟨p.trans b.pm,b.kn,b.fl,b.pe,((CW.mp p).symm.pairwise_iff λh=>Au h).mp b.df⟩
theorem Sb.ne {st:SortSt}(b:Sb f kd o st){i j:Nat}(hi:i<o.size)(hj:j<o.size)(hij:i≠j):ka f (arrOf st) i≠ka f (arrOf st) j:=by
 have h:=Dg.mp b.df;have hi':i<(arrOf st).size:=by rw [b.sz];exact hi
 have hj':j<(arrOf st).size:=by rw [b.sz];exact hj
 have e1:ka f (arrOf st) i=f (arrOf st)[i].1:=by unfold ka;rw [getElem?_pos (arrOf st) i hi'];rfl
 have e2:ka f (arrOf st) j=f (arrOf st)[j].1:=by unfold ka;rw [getElem?_pos (arrOf st) j hj'];rfl
 rw [e1,e2]
 rcases Nat.lt_or_gt_of_ne hij with l|l
 ·exact h i j (by simpa using hi') (by simpa using hj') l
 ·exact (h j i (by simpa using hj') (by simpa using hi') l).symm
def Cmp (prog:AE)(w:World)(A:Around)(s:Shared)(kd:SortKind)(f:Value->Ky)(o:Array Keyed):Prop:=
 ∀ (p q:Keyed) (E:Value->Shared->Prop) (Q:Bool->Shared->Prop),p∈o.toList->q∈o.toList->f p.1≠f q.1->Q (decide (f p.1<f q.1)) s->wpAny (model prog w) A (keyLt' kd p.1 q.1) Q E s
def uU (C:Cmp prog w A s kd f o){st:SortSt}(b:Sb f kd o st){i j:Nat}(hi:i<o.size)(hj:j<o.size)(hij:i≠j)(h:Q (some (decide (ka f (arrOf st) i<ka f (arrOf st) j))) st):wpS (model prog w) A E s (ltAt' i j) Q st:=by
 have hd:=b.ne hi hj hij;have hi':i<(arrOf st).size:=by rw [b.sz];exact hi
 have hj':j<(arrOf st).size:=by rw [b.sz];exact hj
 have g1:(arrOf st)[i]?=some (arrOf st)[i]:=getElem?_pos _ i hi';have g2:(arrOf st)[j]?=some (arrOf st)[j]:=getElem?_pos _ j hj';have m1:(arrOf st)[i]∈o.toList:=(CW.mp b.pm).mem_iff.mp (Array.getElem_mem_toList _);have m2:(arrOf st)[j]∈o.toList:=(CW.mp b.pm).mem_iff.mp (Array.getElem_mem_toList _);have k1:ka f (arrOf st) i=f (arrOf st)[i].1:=by unfold ka;rw [g1];rfl
 have k2:ka f (arrOf st) j=f (arrOf st)[j].1:=by unfold ka;rw [g2];rfl
 rw [k1,k2] at h hd;rw [ltAt'_eq];refine BF (wpS_get ?_);dsimp only;rw [elem'_eq,elem'_eq,g1,g2];refine BF (Cr (BF (Cr ?_)));rw [lt'_eq];refine BF (wpS_get ?_);rw [b.kn];exact BF (wpS_lift (wpAny_attempt (C _ _ _ _ m1 m2 hd ⟨rfl,Cr h⟩)))
def aDe :Up f xs 1:=λi j h1 h2=>by omega
def asc (C:Cmp prog w A s kd f o){st:SortSt}(b:Sb f kd o st){a r:Nat}(hr:r<=o.size)(ha:1<=a)(har:a<=r)(hs:Up f (arrOf st) a){Q:AscSt->SortSt->Prop}
  (h:∀ n,a<=n->n<=r->Up f (arrOf st) n->(n=r\/ka f (arrOf st) n<ka f (arrOf st) (n-1))->Q (none,n) st):wpS (model prog w) A E s (ascLoop a r) Q st:=by
 unfold ascLoop;refine wpS_forRange (I:=λx c u=>u=st/\c=(none,x)/\Up f (arrOf st) x) (λx c u h1 h2 h3=>?_) (λc u h3=>?_) ⟨rfl,rfl,hs⟩
 ·obtain ⟨rfl,rfl,up⟩:=h3
  refine BF (uU C b (by omega) (by omega) (by omega) ?_)
  by_cases l:ka f (arrOf u) x<ka f (arrOf u) (x-1)
  ·simp only [l,decide_true,if_true]
   exact Cr (h x h1 (by omega) up (.inr l))
  ·simp only [l,decide_false,Cb,if_false]
   have l':=uY (b.ne (by omega) (by omega) (by omega)) l;refine Cr ⟨rfl,rfl,λi j hij hj=>?_⟩
   by_cases jx:j<x
   ·exact up i j hij jx
   ·obtain rfl:j=x:=by omega
    by_cases ix:i=j-1
    ·rw [ix];exact l'
    ·exact List.lt_trans (up i (j-1) (by omega) (by omega)) l'
 ·obtain ⟨rfl,rfl,up⟩:=h3
  rw [show max a r=r by omega] at up ⊢;exact h r har (Ak _) up (.inl rfl)
theorem nU {n:Nat}(hn:n<=xs.size)(k:Nat):ka f (mirror xs 0 n ((n-0)/2)) k=if k<n then ka f xs (n-1-k) else ka f xs k:=by
 have e:=getElem?_mirror_all (i:=0) hn k
 by_cases l:k<n
 ·rw [if_pos ⟨Bv _,l⟩] at e
  rw [if_pos l,vD e,Nat.zero_add]
 ·rw [if_neg λq=>l q.2] at e
  rw [if_neg l,vD e]
def tail (C:Cmp prog w A s kd f o){st:SortSt}(b:Sb f kd o st){n r:Nat}(hr:r<=o.size)(h1:1<=n)(hn:n<=r)(hs:Dn f (arrOf st) n)(h:∀ m u,Sb f kd o u->1<=m->m<=r->Up f (arrOf u) m->Q (some m) u):wpS (model prog w) A E s (tail3 n r) Q st:=by
 unfold tail3;have z:n<=(arrOf st).size:=by rw [b.sz];omega
 refine BF (wpS_reverse ?_);have b':=b.put (mirror_perm (arrOf st) 0 n ((n-0)/2));refine BF (asc C b' hr h1 hn (λi j hij hj=>?_) λm q1 q2 q3 _=>Cr (h m _ b' (by omega) q2 q3));show ka f (mirror _ 0 n _) i<ka f (mirror _ 0 n _) j;rw [nU z,nU z,if_pos (by omega),if_pos hj];exact hs _ _ (by omega) (by omega)
def desc (C:Cmp prog w A s kd f o){st:SortSt}(b:Sb f kd o st){n r:Nat}(hr:r<=o.size)(h1:1<=n)(hn:n<=r)(hs:Dn f (arrOf st) n){Q:DescSt->SortSt->Prop}
  (h:∀ m,n<=m->m<=r->Dn f (arrOf st) m->Q (none,m,0) st):wpS (model prog w) A E s (descLoop n r) Q st:=by
 unfold descLoop;refine wpS_forRange (I:=λx c u=>u=st/\c=(none,x,0)/\Dn f (arrOf st) x) (λx c u q1 q2 q3=>?_) (λc u q3=>?_) ⟨rfl,rfl,hs⟩
 ·obtain ⟨rfl,rfl,dn⟩:=q3
  dsimp only;refine BF (uU C b (by omega) (by omega) (by omega) ?_)
  by_cases l:ka f (arrOf u) x<ka f (arrOf u) (x-1)
  ·simp only [l,decide_true,if_true,gt_iff_lt,BP,if_false]
   refine Cr ⟨rfl,rfl,λi j hij hj=>?_⟩
   by_cases jx:j<x
   ·exact dn i j hij jx
   ·obtain rfl:j=x:=by omega
    by_cases ix:i=j-1
    ·rw [ix];exact l
    ·exact List.lt_trans l (dn i (j-1) (by omega) (by omega))
  ·simp only [l,decide_false,Cb,if_false]
   have l':=uY (b.ne (by omega) (by omega) (by omega)) l;refine BF (uU C b (by omega) (by omega) (by omega) ?_);simp only [l',decide_true,if_true];exact Cr (h x q1 (by omega) dn)
 ·obtain ⟨rfl,rfl,dn⟩:=q3
  rw [show max n r=r by omega] at dn ⊢;exact h r hn (Ak _) dn
def count (C:Cmp prog w A s kd f o){st:SortSt}(b:Sb f kd o st){r:Nat}(hr:r<=o.size)(h1:1<=r)(h:∀ m u,Sb f kd o u->1<=m->m<=r->Up f (arrOf u) m->Q (some m) u):wpS (model prog w) A E s (countRun' 0 r) Q st:=by
 rw [countRun0_eq];refine BF (asc C b hr (Ak 1) h1 aDe λn q1 q2 up or=>?_);dsimp only
 by_cases nr:n=r
 ·rw [if_pos (by simpa using nr)]
  exact Cr (h n st b q1 q2 up)
 ·rw [if_neg (by simpa using nr)]
  by_cases n1:n > 1
  ·rw [if_pos n1]
   refine BF (uU C b (by omega) (by omega) (by omega) ?_);have l:=up 0 (n-1) (by omega) (by omega);simp only [l,decide_true,if_true];exact Cr (h n st b q1 q2 up)
  ·rw [if_neg n1]
   obtain rfl:n=1:=by omega
   have l:=or.resolve_left nr;unfold descPart;refine BF (wpS_lift (wpAny_rule ⟨rfl,?_⟩));refine BF (desc C b hr (by omega) (by omega) (λi j hij hj=>?_) λm p1 p2 dn=>?_)
   ·obtain rfl:i=0:=by omega
    obtain rfl:j=1:=by omega
    exact l
   ·simp only [gt_iff_lt,BP,if_false]
    exact tail C b hr (by omega) p2 dn h
theorem nV {k l:Nat}(hk:k<xs.size)(hl:l<=k)(i:Nat):ka f (bubble xs k (k-l)) i=if i=l then ka f xs k else if l<i/\i<=k then ka f xs (i-1) else ka f xs i:=by
 have e:=getElem?_bubble hk (k-l) (Nat.sub_le _ _) i;rw [show k-(k-l)=l by omega] at e
 by_cases c1:i=l
 ·rw [if_pos c1] at e ⊢;exact vD e
 ·rw [if_neg c1] at e ⊢
  by_cases c2:l<i/\i<=k
  ·rw [if_pos c2] at e ⊢;exact vD e
  ·rw [if_neg c2] at e ⊢;exact vD e
end
section
variable {prog:AE}{w:World}{A:Around}{E:Value->Shared->Prop}{s:Shared}{o:Array Keyed}{f:Value->Ky}{kd:SortKind}
def At (f:Value->Ky)(xs:Array Keyed)(k l r:Nat):Prop:=(∀ i,i<l->ka f xs i<ka f xs k)/\∀ i,r<=i->i<k->ka f xs k<ka f xs i
def aDd {k l:Nat}(hk:k<xs.size)(hl:l<=k)(up:Up f xs k)(a:At f xs k l l):Up f (bubble xs k (k-l)) (k+1):=by
 intro i j hij hj;rw [nV hk hl,nV hk hl]
 by_cases c1:i=l
 ·subst c1
  rw [if_pos rfl,if_neg (by omega),if_pos (by omega)];exact a.2 _ (by omega) (by omega)
 ·rw [if_neg c1]
  by_cases c2:j=l
  ·subst c2
   rw [if_pos rfl,if_neg (by omega)];exact a.1 _ hij
  ·rw [if_neg c2]
   by_cases c3:l<i/\i<=k
   ·rw [if_pos c3,if_pos (by omega)]
    exact up _ _ (by omega) (by omega)
   ·rw [if_neg c3]
    by_cases c4:l<j/\j<=k
    ·rw [if_pos c4]
     exact up _ _ (by omega) (by omega)
    ·rw [if_neg c4]
     exact up _ _ hij (by omega)
def binary (C:Cmp prog w A s kd f o){st:SortSt}(b:Sb f kd o st){n m:Nat}(hn:n<=o.size)(hm:m<=n)(hs:Up f (arrOf st) m){Q:Bool->SortSt->Prop}
  (h:∀ u,Sb f kd o u->Up f (arrOf u) n->Q true u):wpS (model prog w) A E s (binarySort' 0 n m) Q st:=by
 rw [binarySort'_eq];simp only [Nat.zero_add];refine BF (wpS_mono (wpS_forRange (I:=λk c u=>c=(none,())/\Sb f kd o u/\Up f (arrOf u) (min k n)) (Q:=λc u=>c=(none,())/\Sb f kd o u/\Up f (arrOf u) n)
  (λk c u q1 q2 q3=>?_) (λc u q3=>?_) ⟨rfl,b,λi j hij hj=>hs i j hij (by omega)⟩) λc u q=>?_)
 ·obtain ⟨rfl,b',up⟩:=q3
  rw [show min k n=k by omega] at up;have ko:k<o.size:=by omega
  refine BF (wpS_mono (wpS_forRange (I:=λx c v=>v=u/\∃ l r,c=(none,l,r)/\l<=r/\r<=k/\r-l<=k-x/\At f (arrOf u) k l r) (Q:=λc v=>v=u/\∃ l r,c=(none,l,r)/\l<=k/\At f (arrOf u) k l l)
   (λx c v p1 p2 p3=>?_) (λc v p3=>?_) ⟨rfl,0,k,rfl,by omega,by omega,by omega,λi hi=>by omega,λi g1 g2=>by omega⟩) λc v p=>?_)
  ·obtain ⟨rfl,l,r,rfl,g1,g2,g3,a1,a2⟩:=p3
   dsimp only
   by_cases lr:l ≥ r
   ·rw [if_pos lr]
    obtain rfl:l=r:=by omega
    exact Cr ⟨rfl,l,l,rfl,g2,a1,a2⟩
   ·rw [if_neg lr]
    refine BF (uU C b' ko (by omega) (by omega) ?_)
    by_cases ls:ka f (arrOf v) k<ka f (arrOf v) ((l+r)/2)
    ·simp only [ls,decide_true,if_true]
     refine Cr ⟨rfl,l,(l+r)/2,rfl,by omega,by omega,by omega,a1,λi t1 t2=>?_⟩
     by_cases im:i=(l+r)/2
     ·rw [im];exact ls
     ·exact List.lt_trans ls (up _ _ (by omega) t2)
    ·simp only [ls,decide_false,Cb,if_false]
     have ls':=uY (b'.ne ko (by omega) (by omega)) ls;refine Cr ⟨rfl,(l+r)/2+1,r,rfl,by omega,by omega,by omega,λi t1=>?_,a2⟩
     by_cases im:i=(l+r)/2
     ·rw [im];exact ls'
     ·exact List.lt_trans (up _ _ (by omega) (by omega)) ls'
  ·obtain ⟨rfl,l,r,rfl,g1,g2,g3,a1⟩:=p3
   obtain rfl:l=r:=by omega
   exact ⟨rfl,l,l,rfl,g2,a1⟩
  ·obtain ⟨rfl,l,r,rfl,g2,a1⟩:=p
   dsimp only;rw [moveDown'_eq];refine BF (wpS_modify (Cr ⟨rfl,b'.put (bubble_perm _ _ _),?_⟩));rw [show min (k+1) n=k+1 by omega];exact aDd (by rw [b'.sz];exact ko) g2 up a1
 ·obtain ⟨rfl,b',up⟩:=q3
  rw [show min (max (max m 1) n) n=n by omega] at up;exact ⟨rfl,b',up⟩
 ·obtain ⟨rfl,b',up⟩:=q
  exact Cr (h u b' up)
def Dne (f:Value->Ky)(o:Array Keyed)(st:SortSt):Prop:=(arrOf st).Perm o/\failedOf st=none/\(pendingOf st).size=1/\Up f (arrOf st) o.size
def Sb.dne {st:SortSt}(b:Sb f kd o st)(up:Up f (arrOf st) o.size):Dne f o (setPending st ((pendingOf st).push x)):=
 ⟨b.pm,b.fl,by show ((pendingOf st).push x).size=1;rw [b.pe];rfl,up⟩
def runs (C:Cmp prog w A s kd f o){st:SortSt}(b:Sb f kd o st)(h2:2<=o.size)(h64:o.size<64)(h:∀ u,(arrOf u).Perm o->failedOf u=none->Up f (arrOf u) o.size->Q () u):wpS (model prog w) A E s sortRuns' Q st:=by
 rw [sortRuns'_eq];refine BF (wpS_get ?_);dsimp only;have mr:minRun' o.size o.size 0=o.size:=by
  generalize hz:o.size=z at h2 h64;cases z with
  |zero=>omega
  |succ z=>rw [minRun'_succ,if_pos h64]
 simp only [b.sz,mr];refine BF (wpS_mono (wpS_forRange (I:=λx c u=>(x=0/\c=(none,0)/\Sb f kd o u)\/(0<x/\c=(none,o.size)/\Dne f o u)) (Q:=λc u=>c=(none,o.size)/\Dne f o u)
  (λx c u q1 q2 q3=>?_) (λc u q3=>?_) (.inl ⟨rfl,rfl,b⟩)) λc u q=>?_)
 ·rcases q3 with ⟨rfl,rfl,b'⟩|⟨x1,rfl,d⟩
  ·dsimp only
   rw [if_neg (by omega)];simp only [Nat.sub_zero,Nat.min_self,Nat.zero_add];refine BF (count C b' (Ak _) (by omega) λm v b2 m1 m2 up=>?_);dsimp only
   by_cases lt:m<o.size
   ·rw [if_pos lt]
    refine BF (wpS_lift (wpAny_rule ⟨rfl,?_⟩));refine BF (binary C b2 (Ak _) m2 up λv3 b3 up3=>?_);simp only [Bool.not_true,Cb,if_false];refine BF (wpS_get ?_);rw [show (pendingOf v3).back?=none by rw [b3.pe];rfl];exact BF (wpS_modify (Cr (.inr ⟨by omega,rfl,b3.dne up3⟩)))
   ·rw [if_neg lt]
    obtain rfl:m=o.size:=by omega
    refine BF (wpS_get ?_);rw [show (pendingOf v).back?=none by rw [b2.pe];rfl];exact BF (wpS_modify (Cr (.inr ⟨by omega,rfl,b2.dne up⟩)))
  ·dsimp only
   rw [if_pos (Ak _)];exact Cr ⟨rfl,d⟩
 ·rcases q3 with ⟨x0,_,_⟩|⟨_,e,d⟩
  ·omega
  ·exact ⟨e,d⟩
 ·obtain ⟨rfl,d⟩:=q
  dsimp only;refine BF (wpS_mono (wpS_forRange (I:=λ_ c v=>v=u/\c=(none,())) (Q:=λc v=>v=u/\c=(none,())) (λx c v p1 p2 p3=>?_) (λ_ _ p=>p) ⟨rfl,rfl⟩) λc v p=>?_)
  ·obtain ⟨rfl,rfl⟩:=p3
   refine BF (wpS_get ?_);rw [if_pos (by rw [d.2.2.1];exact Ak 1)];exact Cr ⟨rfl,rfl⟩
  ·obtain ⟨rfl,rfl⟩:=p
   exact Cr (h _ d.1 d.2.1 d.2.2.2)
end
def Tp (h:Heap)(nm:Value->Str)(v:Value):Prop:=∃ a o xs n t r,v=.ref a/\h.get? a=some o/\o.cls=.type "tuple" /\ o.data=.seq xs n/\xs.toList=.str (nm v) t::r
def Tp.keep {h h':Heap}{nm:Value->Str}{v:Value}{a:Addr}{its:Array Value}{m:Nat}(t:Tp h nm v)(ha:h.get? a=some (seqObj "list" its m))(k:∀ b o,b≠a->h.get? b=some o->h'.get? b=some o):Tp h' nm v:=by
 obtain ⟨b,o,xs,n,t,r,e,ho,hc,hd,hx⟩:=t;refine ⟨b,o,xs,n,t,r,e,k b o ?_ ho,hc,hd,hx⟩
 rintro rfl
 rw [ho] at ha;obtain rfl:=AF ha;exact absurd (show Value.type "list" = Value.type "tuple" from hc) (by simp)
def Tp.kept (t:Tp h nm v)(k:∀ b o,h.get? b=some o->h'.get? b=some o):Tp h' nm v:=by
 obtain ⟨b,o,xs,n,t,r,e,ho,hc,hd,hx⟩:=t;exact ⟨b,o,xs,n,t,r,e,k b o ho,hc,hd,hx⟩
def kG :∀ (vs:List Value),(∀ v∈vs,Tp h nm v)->∃ fs,PySem.W.KatTups h vs fs/\fs.length=vs.length/\∀ v∈fs,∃ x t,v=.str x t
 |[],_=>⟨[],trivial,rfl,λv h=>nomatch h⟩
 |v::vs,H=>by
  obtain ⟨fs,k,l,e⟩:=kG vs λu hu=>H u (AL _ hu);obtain ⟨a,o,xs,n,t,r,rfl,ho,hc,hd,hx⟩:=H v (AO ..);refine ⟨_::fs,PySem.W.KatTups.cons ho hc hd (f:=.str (nm (.ref a)) t) ?_ k,by simp [l],?_⟩
  ·rw [<- BI,hx];rfl
  ·intro u hu
   rcases Ae.mp hu with rfl|hu
   ·exact ⟨_,_,rfl⟩
   ·exact e u hu
theorem oO:∀ vs:List Value,vs.zip vs=vs.map λv=>(v,v)
 |[]=>rfl
 |v::vs=>by rw [List.zip_cons_cons,oO vs,Ao]
def aA0 {x y:Str}(h:x.cps.toList=y.cps.toList):x=y:=by
 cases x;cases y
 simpa using h
section
variable {prog:AE}{w:World}{A:Around}{E:Value->Shared->Prop}{s:Shared}{nm:Value->Str}{vs:List Value}
abbrev kf (nm:Value->Str):Value->Ky:=λv=>(nm v).cps.toList
theorem kind {Q:SortKind->Shared->Prop}(h0:0<vs.length)(T:∀ v∈vs,Tp s.heap nm v)(h:Q (tuples' true) s):wpAny (model prog w) A (keyKind' vs.toArray) Q E s:=by
 obtain ⟨fs,k,l,e⟩:=kG vs T;refine PySem.W.kat_kind (T:=.type "str") k (by omega) (λv hv=>?_) (by decide) ?_
 ·obtain ⟨x,t,rfl⟩:=e v hv
  exact PySem.W.Looks.now
 ·have hb:(Value.type "str" != Value.type "tuple")=true:=by decide
  rw [hb];exact h
def cmp (T:∀ v∈vs,Tp s.heap nm v):Cmp prog w A s (tuples' true) (kf nm) (pairsOf vs):=by
 intro p q E Q hp hq hn h;have m:∀ p∈(pairsOf vs).toList,p.1∈vs:=λp hp=>by rw [pairsOf_toList] at hp;exact (List.of_mem_zip hp).1
 obtain ⟨a,o,xs,n,t,r,ea,ho,hc,hd,hx⟩:=T _ (m p hp);obtain ⟨b,o',ys,n',t',r',eb,ho',hc',hd',hy⟩:=T _ (m q hq);have ne:nm p.1≠nm q.1:=λz=>hn (by show (nm p.1).cps.toList=_;rw [z]);rw [show keyLt' (tuples' true) p.1 q.1=keyLt' (tuples' true) (.ref a) (.ref b) by rw [ea,eb]];refine PySem.W.kat_lt ho hd ho' hd' ?_;rw [hx,hy,List.zip_cons_cons];refine PySem.W.kat_cons (wpAny_eqBool_str ?_);rw [decide_eq_false ne];exact PySem.W.kat_no (oneLt_str h)
def aEm (hp:xs.Perm (pairsOf vs))(hu:Up f xs (pairsOf vs).size):(xs.map (·.2)).toList.Perm vs/\(xs.map (·.2)).toList.Pairwise λu v=>f u<f v:=by
 have hl:=CW.mp hp;rw [pairsOf_toList,oO] at hl;have same:∀ p∈xs.toList,p.1=p.2:=λp h=>by
  obtain ⟨v,_,rfl⟩:=An.mp (hl.mem_iff.mp h);rfl
 refine ⟨?_,?_⟩
 ·rw [Array.toList_map]
  refine (hl.map (·.2)).trans ?_;rw [Bh,show ((λp:Keyed=>p.2) ∘ λv:Value=>(v,v))=id from rfl,List.map_id]
 ·rw [Array.toList_map,CC,Dg]
  intro i j hi hj hij;rw [<- same _ (CN hi),<- same _ (CN hj)];have hi':i<xs.size:=by simpa using hi
  have hj':j<xs.size:=by simpa using hj
  have g:=hu i j hij (by rw [<- hp.size_eq];exact hj');have e1:ka f xs i=f xs[i].1:=by unfold ka;rw [getElem?_pos xs i hi'];rfl
  have e2:ka f xs j=f xs[j].1:=by unfold ka;rw [getElem?_pos xs j hj'];rfl
  rw [e1,e2] at g
  simpa using g
def wX {a:Addr}{n:Nat}{R:PySem.Fin->Shared->Prop}(ho:s.heap.get? a=some (seqObj "list" vs.toArray n))(T:∀ v∈vs,Tp s.heap nm v)(D:vs.Pairwise λu v=>nm u≠nm v)(h64:vs.length<64)
  (h:∀ out:List Value,out.Perm vs->(out.Pairwise λu v=>kf nm u<kf nm v)->R (.done (.ret .none)) { s with heap:=sortedHeap s.heap a vs out.toArray }):wpAny (model prog w) A (Builtin.«list.sort» ⟨[.ref a],[]⟩) R E s:=by
 have fin:∀ xs:Array Keyed,xs.Perm (pairsOf vs)->Up (kf nm) xs (pairsOf vs).size->R (.done (.ret .none)) { s with heap:=sortedHeap s.heap a vs (xs.map (·.2)) }:=λxs hp hu=>by
  obtain ⟨q1,q2⟩:=aEm hp hu;have e:=h _ q1 q2;rw [Array.toArray_toList] at e;exact e
 rw [list_sort_plain];have lt:a<s.heap.objs.size:=AD ho;refine Aw (listItems_at ho rfl (Aw (listUpdate_at ho rfl ?_)));obtain ⟨e1,o1⟩:∃ e1,(s.heap.update a (Dr λ_=>#[])).get? a=some (seqObj "list" #[] e1):=⟨_,get?_update_seq ho (λ_=>#[])⟩;refine Aw (seqEpoch_at o1 rfl (Aw (wpAny_newTuple (Aw (wpAny_newList (wpAny_holding ?_))))));show wpAny (model prog w) A _ R E { s with heap:=((s.heap.update a (Dr λ_=>#[])).push (seqObj "tuple" vs.toArray 0)).push (seqObj "list" #[] 0) };generalize hg:((s.heap.update a (Dr λ_=>#[])).push (seqObj "tuple" vs.toArray 0)).push (seqObj "list" #[] 0)=g;have keep:∀ b o,b≠a->s.heap.get? b=some o->g.get? b=some o:=λb o nb hb=>by
  have l:=AD hb;rw [<- hg,CV _ _ _ (by rw [size_push',DM];exact AJ (Nat.lt_succ_of_lt l)),CV _ _ _ (by rw [DM];exact AJ l),Heap.get?_update_ne _ _ _ _ nb];exact hb
 have o6:g.get? a=some (seqObj "list" #[] e1):=by
  rw [<- hg,CV _ _ _ (by rw [size_push',DM];exact AJ (Nat.lt_succ_of_lt lt)),CV _ _ _ (by rw [DM];exact AJ lt)];exact o1
 have T':∀ v∈vs,Tp g nm v:=λv hv=>(T v hv).keep ho keep;have fin':∀ xs:Array Keyed,xs.Perm (pairsOf vs)->Up (kf nm) xs (pairsOf vs).size->R (.done (.ret .none)) { s with heap:=g.update a (Dr λ_=>xs.map (·.2)) }:=λxs hp hu=>by
  rw [<- hg];exact fin xs hp hu
 dsimp only;have z:vs.toArray.size=vs.length:=by simp
 by_cases h2:vs.toArray.size<2
 ·rw [if_pos h2,if_pos h2]
  refine Aw (AM ?_);rw [StateT.run_pure];refine Aw (AM ?_);dsimp only;refine Aw (seqEpoch_at o6 rfl (Aw (listUpdate_at o6 rfl ?_ (hsz2:=by rw [Array.size_map];show (pairsOf vs).size<=_;rw [pairsOf_size,sizeLine_eq];omega))));simp only [bne_self_eq_false,Cb,if_false];refine AM (fin' (vs.toArray.zip vs.toArray) (Array.Perm.refl _) λi j q1 q2=>?_);rw [pairsOf_size] at q2;omega
 ·rw [if_neg h2,if_neg h2]
  refine Aw (kind (by omega) T' ?_);refine Aw (BZ (runs (kd:=tuples' true) (f:=kf nm) (o:=pairsOf vs) (st:=SortSt.mk' (tuples' true) (vs.toArray.zip vs.toArray) #[] 7 none) (Q:=λ_ st=>(arrOf st).Perm (pairsOf vs)/\failedOf st=none/\Up (kf nm) (arrOf st) (pairsOf vs).size)
   (cmp T') ⟨Array.Perm.refl _,rfl,rfl,rfl,?_⟩ (by rw [pairsOf_size];omega) (by rw [pairsOf_size];exact h64) λst x1 x2 x3=>⟨x1,x2,x3⟩) ?_ λ_ _ e=>e)
  ·show Df (kf nm) (pairsOf vs).toList
   rw [pairsOf_toList,oO];exact CC.mpr (D.imp λne z=>ne (aA0 z))
  ·rintro ⟨⟨⟩,st⟩ s' ⟨rfl,hp,hf,hs⟩
   dsimp only;refine Aw (seqEpoch_at o6 rfl (Aw (listUpdate_at o6 rfl ?_ (hsz2:=by refine AX (Nat.le_of_eq ((Array.size_map ..).trans (hp.size_eq.trans (pairsOf_size _)))) ?_;rw [sizeLine_eq];omega))));rw [hf];simp only [bne_self_eq_false,Cb,if_false];exact AM (fin' _ hp hs)
def sorted_tup (hl:s.heap.IsList l vs.toArray)(T:∀ v∈vs,Tp s.heap nm v)(D:vs.Pairwise λu v=>nm u≠nm v)(h64:vs.length<64)(h:∀ out:List Value,out.Perm vs->(out.Pairwise λu v=>kf nm u<kf nm v)->Q (.ref (s.heap.objs.size+1)) { s with heap:=sortedAll s.heap vs out.toArray }):wpAny (model prog w) A (call (.builtin "sorted") [.ref l]) Q E s:=by
 refine Calls.call_function_entry kind_sorted plain_sorted entry_sorted (args_sorted1 _) ?_;unfold Builtin.«sorted»;refine Aw (m:=checkCount "sorted" 1 1 _) (AM (Aw (collect_list hl (Aw (wpAny_newList ?_)))));have z:((s.heap.push (seqObj "list" #[] 0)).update s.heap.objs.size (Dr (·++vs.toArray))).objs.size=s.heap.objs.size+1:=by rw [DM,size_push']
 have oL:(((s.heap.push (seqObj "list" #[] 0)).update s.heap.objs.size (Dr (·++vs.toArray))).push (seqObj "list" vs.toArray 0)).get? (s.heap.objs.size+1)=some (seqObj "list" vs.toArray 0):=by rw [<- z];exact AK _ rfl
 have T':∀ v∈vs,Tp (((s.heap.push (seqObj "list" #[] 0)).update s.heap.objs.size (Dr (·++vs.toArray))).push (seqObj "list" vs.toArray 0)) nm v:=λv hv=>(T v hv).kept λb o hb=>by
  have lt:=AD hb;rw [CV _ _ _ (by rw [z];exact AJ (Nat.lt_succ_of_lt lt)),Heap.get?_update_ne _ _ _ _ (AJ lt),CV _ _ _ (AJ lt)];exact hb
 show wpAny _ _ _ _ _ { s with heap:=(((s.heap.push (seqObj "list" #[] 0)).update s.heap.objs.size (Dr (·++vs.toArray))).push (seqObj "list" vs.toArray 0)) };rw [z];exact Aw (wpAny_holding (wpAny_call_entry slot_list_sort ⟨_,oL,rfl⟩ entry_list_sort (wX oL T' D h64 λout x1 x2=>⟨_,rfl,AM ⟨_,rfl,h out x1 x2⟩⟩) (args_list_sort _)))
end
end L2.TS
namespace L2
open PySem PySem.Spec PyProof.Rows
def nmH (H:Hp)(a:Addr):Str:=match H a with
 |some (.tup (.str x::_))=>x
 |_=>⟨#[]⟩
theorem uP {r:List V}(h:H a=some (.tup (.str x::r))):nmH H a=x:=by unfold nmH;rw [h]
def nmV (H:Hp):Value->Str
 |.ref a=>nmH H a
 |_=>⟨#[]⟩
theorem fO:∀ {as:List Addr} {us:List Value},Vals (as.map V.ref) us->us=as.map AZ
 |[],_,r=>by rw [List.map_nil] at r;cases r;rfl
 |a::as,_,r=>by
  rw [Ao] at r;cases r with
  |cons r1 r2=>
   have e:_=AZ a:=r1;rw [e,fO r2,Ao]
theorem mX:∀ as:List Addr,Vals (as.map V.ref) (as.map AZ)
 |[]=>.nil
 |_::as=>.cons rfl (mX as)
def adOf:Value->Addr
 |.ref a=>a
 |_=>0
def aEa (K:Aa):List V->Hp->VK->Prop:=λxs H Q=>∃ a as,xs=[.ref a]/\SqL K H a (as.map V.ref)/\as.length<64/\(∀ q∈as,∃ x r,H q=some (.tup (.str x::r)))/\(as.map (nmH H)).Nodup /\
 ∀ (p:Addr) (as':List Addr),as'.Perm as->(as'.Pairwise λu v=>(nmH H u).cps.toList<(nmH H v).cps.toList)->H p=none->Q (.ref p) (upd H p (.lst (as'.map V.ref)))
def rY :eT X (.builtin "sorted") (aEa X.K):=by
 intro pins s σ H xs us Q I r h;obtain ⟨a,as,rfl,hq,h64,ht,nd,q⟩:=h;obtain ⟨u,rfl,rx⟩:=vals1 r;cases rx;obtain ⟨its,r',pl,hz⟩:=I.list hq;obtain rfl:=fO r';refine TS.sorted_tup (nm:=nmV H) pl.isList (λv hv=>?_) (CC.mpr (CC.mp nd)) (by rw [Ab];exact h64) λout x1 x2=>?_
 ·obtain ⟨b,hb,rfl⟩:=An.mp hv
  obtain ⟨x,r,e⟩:=ht b hb;obtain ⟨its,r2,⟨o,ho,hc,n,hd⟩,_⟩:=I.tuple (SqT.of e);cases r2 with
  |cons y1 y2=>
   obtain ⟨t,rfl⟩:=y1;exact ⟨b,o,_,n,t,_,rfl,ho,hc,hd,by show _=Value.str (nmH H b) t::_;rw [uP e]⟩
 ·have er:∀ v∈out,v=.ref (adOf v):=λv hv=>by
   obtain ⟨b,_,rfl⟩:=An.mp (x1.mem_iff.mp hv);rfl
  have eo:out=(out.map adOf).map AZ:=by
   rw [Bh]
   conv=>lhs;rw [<- List.map_id out]
   exact BV er
  have pm:(out.map adOf).Perm as:=by
   have:=x1.map adOf;rw [Bh,show (adOf ∘ AZ)=id from rfl,List.map_id] at this;exact this
  obtain ⟨e,he⟩:=sortedAll_at s.heap (as.map AZ) out.toArray;have va:Vals ((out.map adOf).map V.ref) out:=by
   have z:=mX (out.map adOf);rw [<- eo] at z;exact z
  refine ⟨.ref (s.heap.objs.size+1),_,I.laid (a:=s.heap.objs.size+1) (o:=.lst ((out.map adOf).map V.ref)) (t':=s.toks) (λ_ _=>sortedAll_old) (CQ _) (aAi (its:=out) (e:=e) va ?_ he),rfl,q _ (out.map adOf) pm ?_ (I.hok.fresh (CQ _))⟩
  ·rw [Ab,pm.length_eq]
   exact fM (by omega)
  ·rw [eo] at x2
   have z:=CC.mp x2;exact z
def fH {X:Cx}{K:Aa}(h:X.K=K):eT X (.type "list") (λxs H Q=>∃ p ys,xs=[.ref p]/\(SqL K H p ys\/SqT K H p ys)/\∀ l,H l=none->Q (.ref l) (upd H l (.lst ys))):=h▸iQ
def vX {J:It}{xs:List V}{D:Addr}{g:TG}{te:TE}{σ0:St}{QD:Hp->Prop}{H1:Hp}(Y:Ys J xs H1)(Pr:Nat->V->V->Hp->Prop)(hP:∀ i x y H H',Pr i x y H->(∀ b o,b≠D->H b=some o->H' b=some o)->Pr i x y H')(hD:H1 D=none)(hl:xs.length<=1000)
  (hs:∀ i x H' (R:VK),xs[i]?=some x->Same H1 H'->(∃ ys,H' D=some (.lst ys))->(∀ y H4,Same H' H4->Pr i x y H4->R y H4)->g x σ0 H' λσ2 H2=>Keep σ0 σ2/\te σ2 H2 R)
  (hd:∀ ys H',Same H1 H'->H' D=some (.lst ys)->ys.length=xs.length->(∀ i x y,xs[i]?=some x->ys[i]?=some y->Pr i x y H')->QD H') :
  ∃ W:Nat->Nat->List V->Hp->Prop,(∃ m,W 0 m [] (upd H1 D (.lst [])))/\∀ i m ys H,W i m ys H->H D=some (.lst ys)/\ys.length<AB /\
   ((J.stop i H/\QD H)\/(J.go i H/\∀ x H',J.yld i H x H'->g x σ0 H' λσ2 H2=>Keep σ0 σ2/\wO σ2 H2 λb H3=>
    if b=true then te σ2 H3 λy H4=>H4 D=some (.lst ys)/\∃ m',m'<m/\W (i+1) m' (ys++[y]) (upd H4 D (.lst (ys++[y]))) else ∃ m',m'<m/\W (i+1) m' ys H3)):=by
 refine ⟨λi m ys H=>m=xs.length-i/\i<=xs.length/\Same H1 H/\H D=some (.lst ys)/\ys.length=i/\∀ j x y,xs[j]?=some x->ys[j]?=some y->Pr j x y H,
  ⟨_,rfl,Bv _,Same.upd hD,aB,rfl,λj x y _ h=>by simp at h⟩,?_⟩
 rintro i m ys H ⟨rfl,hi,sm,hDH,yl,pr⟩
 refine ⟨hDH,aW (by omega),?_⟩
 by_cases hlt:i<xs.length
 ·refine .inr ⟨Y.go i H sm hlt,λx H' y=>?_⟩
  obtain ⟨rfl,hx⟩:=Y.yld i H x H' sm hlt y;refine hs i x H' _ hx sm ⟨_,hDH⟩ λy H4 s4 py=>?_;have hD4:=s4 _ _ hDH;have tk:∀ b o,b≠D->H4 b=some o->upd H4 D (.lst (ys++[y])) b=some o:=λb o nb hb=>by rw [aD nb];exact hb
  refine ⟨hD4,xs.length-(i+1),by omega,rfl,hlt,λb o hb=>?_,aB,by rw [Az,yl];rfl,λj x' y' hx' hy'=>?_⟩
  ·rw [aD (aX hb hD)]
   exact s4 _ _ (sm _ _ hb)
  ·rcases fZ hy' with ⟨_,hy'⟩|⟨e,e'⟩
   ·exact hP _ _ _ _ _ (hP _ _ _ _ _ (pr j x' y' hx' hy') λb o _ hb=>s4 b o hb) tk
   ·subst e'
    have:j=i:=by omega
    subst this;rw [hx] at hx';cases hx';exact hP _ _ _ _ _ py tk
 ·have e:i=xs.length:=by omega
  subst e;exact .inl ⟨Y.stop _ H sm (Ak _),hd ys H sm hDH yl pr⟩
def Inv.thaw {σ:St}(I:Inv X pins σ H s)(hd:H d=some (.frz ob (.dK kvs)))(h0:∀ o u,X.H₀ d≠some (.frz o u)):Inv X pins σ (upd H d (.dK kvs)) s:=by
 have ne:∀ b,H b=none->b≠d:=λb n z=>by rw [z,hd] at n;cases n
 have nd:∀ b u,H b=some u->u≠.frz ob (.dK kvs)->b≠d:=λb u e n z=>by
  rw [z,hd] at e;exact n (AF e).symm
 have st:∀ {a:Addr} {u:HO},ObjOk X.prog X.w H s.heap a u->ObjOk X.prog X.w (upd H d (.dK kvs)) s.heap a u:=λx=>
  x.stay (λc v _ q=>q) (λc q=>by rw [aD (nd c _ q (by intro z;cases z))];exact q) λc xs q=>by rw [aD (nd c _ q (by intro z;cases z))];exact q
 refine ⟨I.ok,I.os,I.bare,⟨I.base.keep,I.base.slot,λb o e n hx=>?_,I.base.there,λb xs e=>?_,λb o u e=>?_,λb ps e=>?_⟩,I.loc,I.cell,?_,λx c e=>?_,λp hp=>?_,λb u e=>?_,I.len⟩
 ·have z:=I.base.free b o e n hx
  rw [aD (ne b z)];exact z
 ·have z:=I.base.tups b xs e
  rw [aD (nd b _ z (by intro z;cases z))];exact z
 ·have z:=I.base.frzs b o u e
  rw [aD (λq=>h0 o u (by rw [<- q];exact e))];exact z
 ·obtain ⟨m,z⟩:=I.base.tbls b ps e
  exact ⟨m,by rw [aD (nd b _ z (by intro z;cases z))];exact z⟩
 ·rw [aD (ne _ I.free)]
  exact I.free
 ·rw [aD (ne _ (I.freeC x c e))]
  exact I.freeC x c e
 ·obtain ⟨q1,q2,q3⟩:=I.pin p hp
  exact ⟨q1,by rw [aD (ne _ q2)];exact q2,q3⟩
 ·by_cases e':b=d
  ·subst e'
   rw [aB] at e;cases e;exact st (I.hok b _ hd).2
  ·rw [aD e'] at e
   exact st (I.hok b u e)
def aFz (H₀:Hp)(te:TE):TE:=λσ H Q=>te σ H λv H'=>∃ d ob kvs,H' d=some (.frz ob (.dK kvs))/\(∀ o u,H₀ d≠some (.frz o u))/\Q v (upd H' d (.dK kvs))
def pA (he:PE X e te):PE X e (aFz X.H₀ te):=by
 intro pins s σ H Q I h;refine thn (he pins s σ H _ I h) λv s1 ⟨x,H1,I1,r1,d,ob,kvs,hd,h0,q⟩=>?_;exact ⟨x,_,I1.thaw hd h0,r1,q⟩
def iR {X:Cx}{st:Stmt}:PS X st (λ_ _ _=>False):=λpins s σ H D I h=>h.elim
def rUpd:V->List V->Hp->VK->Prop:=λx vs H Q=>∃ d o kvs more,x=.ref d/\vs=[.ref o]/\d≠o/\H d=some (.dK kvs)/\H o=some (.dK more)/\kvs.length+more.length<=1000/\Q .non (upd H d (.dK (dA kvs more)))
def uT :MtR X "dict.update" rUpd:=by
 intro pins s σ H x vs v us Q I rx rv h;obtain ⟨d,o,kvs,more,rfl,rfl,ne,hd,ho,hz,q⟩:=h;cases rx;obtain ⟨u,rfl,ru⟩:=vals1 rv;cases ru;obtain ⟨z,ld,vs,rel,dd⟩:=iU I.hok hd;obtain ⟨z',lo,ws,rel',dd'⟩:=iU I.hok ho;refine DU PySem.F.slot_dict_update dd.typeIs PySem.F.entry_dict_update (PySem.F.args_dict_update_2 _ _) (meets_dict_update (bH X.prog X.w) d o ne lo) ⟨vs,ws,dd,dd',by rw [<- rel.length,<- rel'.length];exact fM hz,λh' e1 e2 hs=>?_⟩;have he:∃ q,h'.get? d=some q:=let ⟨q,_,_,hq,_⟩:=e1;⟨q,hq⟩;have hl:=fE more kvs;exact ⟨.non,_,kI I (by rw [hd];exact Dp) hs he (oF (fM (by omega)) ld (rel'.merge rel) e1),rfl,q⟩
section
variable {prog:AE}{w:World}{A:Around}{E:Value->Shared->Prop}{s:Shared}
end
def tMinD (te:TE):TE:=λσ H Q=>te σ H λx H1=>∃ l n,x=.ref l/\H1 l=some (.lst [.int n])/\Q (.int n) H1
structure MCal (P:AE)(w:World)(K:Aa)(mg:Str->Option Value)(base:Heap)(CX:CXT)(k:Nat)(C:Addr)(m:Str)(ps:List Str)(sp:Sp):Prop where
 ex:∃ (f:Addr) (fd:Bj),Meth K C m f/\Binds K fd ps []/\FnOk P w K mg base CX k f fd ps sp
def MCal.mono {P:AE}{w:World}{K:Aa}{mg:Str->Option Value}{base:Heap}{CX:CXT}{j k:Nat}{C:Addr}{m:Str}{ps:List Str}{sp:Sp}(M:MCal P w K mg base CX j C m ps sp)(h:j<=k):MCal P w K mg base CX k C m ps sp:=by
 obtain ⟨f,fd,hm,hb,F⟩:=M.ex;exact ⟨f,fd,hm,hb,F.mono h⟩
section
variable {X:Cx}{CX:CXT}{k:Nat}{C:Addr}{m:Str}{ps:List Str}{sp:Sp}{E:XK}{o e:Expr}{es:List Expr}{ta:TE}{t:TA}{apos pos:Pos}
def cQ (c:Cls X.K C)(M:MCal X.prog X.w X.K X.mg X.base CX k C m ps sp)(hr:Room k X.A)(hx:fX CX X E)(he:PE X o ta)(ha:PA X (e::es) t)(hst:AY (e::es) X.env=(false,eval e X.env)::AY es X.env:=by rfl)(hpl:(backTo pos (AY es X.env)).any (·.1)=false:=by rfl)(ht:eval (.Call (.Attribute o m apos) (e::es) [] pos) X.env=(do
   let ov <- eval o X.env
   standAt apos.atName
   let (f,first) <- holding [ov] (getMethod ov m pl)
   callWith pos f first (backTo pos (AY (e::es) X.env)) (backToKw pos (De [] X.env))):=by rfl) :
  PE X (.Call (.Attribute o m apos) (e::es) [] pos) (wQ C m sp [] E ta t):=by
 obtain ⟨f,fd,hm,hb,F⟩:=M.ex;exact aBp he c hm F hr hb .nil hx ha hst hpl ht
def fS (c:Cls X.K C)(M:MCal X.prog X.w X.K X.mg X.base CX k C m ps sp)(hr:Room k X.A)(hx:fX CX X E)(he:PE X o ta)(ht:eval (.Call (.Attribute o m apos) [] [] pos) X.env=(do
   let ov <- eval o X.env
   standAt apos.atName
   let (f,first) <- holding [ov] (getMethod ov m pl)
   callWith pos f first (backTo pos (AY [] X.env)) (backToKw pos (De [] X.env))):=by rfl) :
  PE X (.Call (.Attribute o m apos) [] [] pos) (wQ C m sp [] E ta tNil):=by
 obtain ⟨f,fd,hm,hb,F⟩:=M.ex;exact xQ he c hm F hr hb .nil hx ht
def gK {K:Aa}{f:Str}(h:X.K=K)(he:PE X o ta)(hb:Di o f X.env (eval o X.env)=eval o X.env):PE X (.Attribute o f pos) (tFld K ta f):=h▸bU he hb
end
def aDg (H₀:Hp)(t:TS):TS:=λD σ H=>t { D with nx:=λσ' H'=>∃ d ob kvs,H' d=some (.frz ob (.dK kvs))/\(∀ o u,H₀ d≠some (.frz o u))/\D.nx σ' (upd H' d (.dK kvs)) } σ H
def fQ {X:Cx}{st:Stmt}{t:TS}(h:PS X st t):PS X st (aDg X.H₀ t):=by
 intro pins s σ H D I q;refine thn (h pins s σ H _ I q) λf s1 z=>?_;cases f with
 |next=>
  obtain ⟨σ',H',I',d,ob,kvs,hd,h0,q'⟩:=z;exact ⟨σ',_,I'.thaw hd h0,q'⟩
 |brk=>exact z
 |cont=>exact z
 |ret u=>exact z
def eU (h:H c=some (.dK kvs))(s:Same (upd H c (.frz ob (.dK kvs))) H5):Same H (upd H5 c (.dK kvs)):=λb o e=>by
 by_cases z:b=c
 ·subst z
  rw [h] at e;cases e;exact aB
 ·rw [aD z]
  exact s b o (by rw [aD z];exact e)
section
variable {D:Ends}{σ:L2.St}{H:Hp}
def cut3 (h:let u3:TS:=t3;let u2:TS:=tSeq t2 u3;tSeq t1 u2 D σ H):(tSeq t1 (tSeq t2 (t3))) D σ H:=h
def cut4 (h:let u4:TS:=t4;let u3:TS:=tSeq t3 u4;let u2:TS:=tSeq t2 u3;tSeq t1 u2 D σ H):(tSeq t1 (tSeq t2 (tSeq t3 (t4)))) D σ H:=h
def cut5 (h:let u5:TS:=t5;let u4:TS:=tSeq t4 u5;let u3:TS:=tSeq t3 u4;let u2:TS:=tSeq t2 u3;tSeq t1 u2 D σ H):(tSeq t1 (tSeq t2 (tSeq t3 (tSeq t4 (t5))))) D σ H:=h
def cut6 (h:let u6:TS:=t6;let u5:TS:=tSeq t5 u6;let u4:TS:=tSeq t4 u5;let u3:TS:=tSeq t3 u4;let u2:TS:=tSeq t2 u3;tSeq t1 u2 D σ H):(tSeq t1 (tSeq t2 (tSeq t3 (tSeq t4 (tSeq t5 (t6)))))) D σ H:=h
def cut7 (h:let u7:TS:=t7;let u6:TS:=tSeq t6 u7;let u5:TS:=tSeq t5 u6;let u4:TS:=tSeq t4 u5;let u3:TS:=tSeq t3 u4;let u2:TS:=tSeq t2 u3;tSeq t1 u2 D σ H):(tSeq t1 (tSeq t2 (tSeq t3 (tSeq t4 (tSeq t5 (tSeq t6 (t7))))))) D σ H:=h
def cut9 (h:let u9:TS:=t9;let u8:TS:=tSeq t8 u9;let u7:TS:=tSeq t7 u8;let u6:TS:=tSeq t6 u7;let u5:TS:=tSeq t5 u6;let u4:TS:=tSeq t4 u5;let u3:TS:=tSeq t3 u4;let u2:TS:=tSeq t2 u3;tSeq t1 u2 D σ H):(tSeq t1 (tSeq t2 (tSeq t3 (tSeq t4 (tSeq t5 (tSeq t6 (tSeq t7 (tSeq t8 (t9))))))))) D σ H:=h
def aG0 (h:let u10:TS:=t10;let u9:TS:=tSeq t9 u10;let u8:TS:=tSeq t8 u9;let u7:TS:=tSeq t7 u8;let u6:TS:=tSeq t6 u7;let u5:TS:=tSeq t5 u6;let u4:TS:=tSeq t4 u5;let u3:TS:=tSeq t3 u4;let u2:TS:=tSeq t2 u3;tSeq t1 u2 D σ H):(tSeq t1 (tSeq t2 (tSeq t3 (tSeq t4 (tSeq t5 (tSeq t6 (tSeq t7 (tSeq t8 (tSeq t9 (t10)))))))))) D σ H:=h
def aGz (h:let u17:TS:=t17;let u16:TS:=tSeq t16 u17;let u15:TS:=tSeq t15 u16;let u14:TS:=tSeq t14 u15;let u13:TS:=tSeq t13 u14;let u12:TS:=tSeq t12 u13;let u11:TS:=tSeq t11 u12;let u10:TS:=tSeq t10 u11;let u9:TS:=tSeq t9 u10;let u8:TS:=tSeq t8 u9;let u7:TS:=tSeq t7 u8;let u6:TS:=tSeq t6 u7;let u5:TS:=tSeq t5 u6;let u4:TS:=tSeq t4 u5;let u3:TS:=tSeq t3 u4;let u2:TS:=tSeq t2 u3;tSeq t1 u2 D σ H):(tSeq t1 (tSeq t2 (tSeq t3 (tSeq t4 (tSeq t5 (tSeq t6 (tSeq t7 (tSeq t8 (tSeq t9 (tSeq t10 (tSeq t11 (tSeq t12 (tSeq t13 (tSeq t14 (tSeq t15 (tSeq t16 (t17))))))))))))))))) D σ H:=h
end
end L2
namespace L2
open PySem PySem.Spec PyProof.Rows PySem.W
section
variable {X:Cx}
end
end L2
namespace TM
open PySem PySem.Spec PyProof.Rows PySem.W
def rd (c j:Nat):Nat:=97+(c-97+j)%26
abbrev LET:Str:="abcdefghijklmnopqrstuvwxyz"
def aAp {j:Nat}(h:j<26):(cps LET)[j]?=some (97+j):=by
 have all:∀ k:Fin 26,(cps LET)[k.val]?=some (97+k.val):=by decide +kernel
 exact all ⟨j,h⟩
end TM
namespace GM
structure Fr (M t b N:Int):Prop where
 am:Amt t b
 e:t*M=N*b
def Fr.zero {M:Int}:Fr M 0 1 0:=⟨mW (by decide),by simp⟩
def Fr.plus {M t1 b1 N1 t2 b2 N2:Int}(h1:Fr M t1 b1 N1)(h2:Fr M t2 b2 N2):Fr M ((t1*b2+t2*b1)/G (t1*b2+t2*b1) (b1*b2)) (b1*b2/G (t1*b2+t2*b1) (b1*b2)) (N1+N2):=by
 have a1:=h1.am.b1;have a2:=h2.am.b1;have n1:=Bu h1.am.t0 (show 0<=b2 by omega);have n2:=Bu h2.am.t0 (show 0<=b1 by omega);have hb:1<=b1*b2:=by
  have:=DH a1 a2 (by decide) (by omega);omega
 refine ⟨jR (by omega) hb,?_⟩;have crs:=fU (t1*b2+t2*b1) (b1*b2);generalize (t1*b2+t2*b1)/G (t1*b2+t2*b1) (b1*b2)=x at *
 generalize b1*b2/G (t1*b2+t2*b1) (b1*b2)=y at *
 refine Bp (show b1*b2≠0 by omega) ?_
 calc x*M*(b1*b2)=(x*(b1*b2))*M:=by rw [Cv,CJ M,<- Cv]
  _=((t1*b2+t2*b1)*y)*M:=by rw [crs]
  _=((t1*M)*b2+(t2*M)*b1)*y:=by
   rw [Cu,Int.add_mul,Cu t1,Cu t2]
  _=((N1*b1)*b2+(N2*b2)*b1)*y:=by rw [h1.e,h2.e]
  _=(N1+N2)*y*(b1*b2):=by
   rw [Cu (N1+N2),Int.add_mul N1,Cv N1,Cv N2,CJ b2 b1]
theorem Fr.uniq {M t b N t' b':Int}(hM:0<M)(h:Fr M t b N)(h':Fr M t' b' N):t=t'/\b=b':=by
 have c:t'*b=t*b':=by
  refine Bp (show M≠0 by omega) ?_
  calc t'*b*M=(t'*M)*b:=by rw [Cu]
   _=(N*b')*b:=by rw [h'.e]
   _=(N*b)*b':=by rw [Cu]
   _=t*M*b':=by rw [h.e]
   _=t*b'*M:=by rw [Cu]
 obtain ⟨e1,e2⟩:=kY h.am.t0 h.am.b1 h'.am c;rw [h.am.g,Int.ediv_one] at e1 e2;exact ⟨e1,e2⟩
def Fr.nonneg {M t b N:Int}(hM:0<M)(h:Fr M t b N):0<=N:=by
 have a1:=h.am.b1;have n1:=Bu h.am.t0 (show 0<=M by omega);rw [h.e] at n1
 by_cases z:0<=N
 ·exact z
 ·have:=Int.mul_neg_of_neg_of_pos (show N<0 by omega) (show 0<b by omega)
  omega
def Fr.dvd {M t b N:Int}(h:Fr M t b N):b∣M:=by
 have d:b∣M*t:=⟨N,by rw [CJ M,h.e,CJ]⟩;have g:Int.gcd b t=1:=by
  have:=h.am.g;unfold G at this;rw [Int.gcd_comm];omega
 have d':b.natAbs∣M.natAbs*t.natAbs:=by
  rw [<- Int.natAbs_mul];exact Int.natAbs_dvd_natAbs.mpr d
 have c:Nat.Coprime b.natAbs t.natAbs:=g;exact Int.natAbs_dvd_natAbs.mp (c.dvd_of_dvd_mul_right d')
def Fr.nought {M t b N:Int}(hM:0<M)(h:Fr M t b N):N=0↔t=0:=by
 have a1:=h.am.b1;constructor
 ·intro z
  have:=h.e;rw [z,Ca] at this
  rcases Int.mul_eq_zero.mp this with q|q
  ·exact q
  ·omega
 ·intro z
  have:=h.e;rw [z,Ca] at this
  rcases Int.mul_eq_zero.mp this.symm with q|q
  ·exact q
  ·omega
end GM
namespace K77
open PySem PySem.Spec PyProof.Rows L2 GM TM
def top (i:Nat):Stmt:=PySem.Challenge.pw_phialhouse_k77_taken_back.main.body.getD i (.Pass ⟨0,0,0,0⟩)
abbrev sIsWh:Stmt:=top 12
abbrev sGcd:Stmt:=top 13
abbrev sLow:Stmt:=top 14
abbrev sPlus:Stmt:=top 15
abbrev sMinus:Stmt:=top 16
abbrev sTimes:Stmt:=top 17
abbrev sOver:Stmt:=top 18
abbrev sLess:Stmt:=top 19
abbrev sTotal:Stmt:=top 21
abbrev sShared:Stmt:=top 22
abbrev sPut:Stmt:=top 23
abbrev sIsWare:Stmt:=top 27
abbrev sNewLot:Stmt:=top 31
abbrev sNewV:Stmt:=top 32
abbrev sWith:Stmt:=top 33
abbrev sPoured:Stmt:=top 34
abbrev sRNoSp:Stmt:=top 35
abbrev sRNoDay:Stmt:=top 36
abbrev sRNoName:Stmt:=top 37
abbrev dC:Stmt:=top 38
abbrev sCell:Stmt:=top 40
abbrev sWhole:Stmt:=top 41
abbrev sMixed:Stmt:=top 42
abbrev sNames:Stmt:=top 43
abbrev sNew:Stmt:=top 44
abbrev sLtot:Stmt:=top 45
abbrev sLpour:Stmt:=top 46
abbrev sApply:Stmt:=top 47
abbrev sDo:Stmt:=top 48
abbrev sGood:Stmt:=top 49
abbrev sFresh:Stmt:=top 50
abbrev sWord:Stmt:=top 57
abbrev sNameBy:Stmt:=top 58
abbrev sTold:Stmt:=top 59
abbrev sCan:Stmt:=top 60
abbrev sNext:Stmt:=top 61
abbrev sLaw:Stmt:=top 62
abbrev xH:Stmt:=inClass dC 0
abbrev xF:Stmt:=inClass dC 1
abbrev xG:Stmt:=inClass dC 2
abbrev xI:Stmt:=inClass dC 3
abbrev sGo:Stmt:=inClass dC 4
abbrev rK:Stmt:=inClass dC 5
abbrev tQ:Stmt:=inClass dC 6
abbrev sHad:Stmt:=inClass dC 7
abbrev qH:Stmt:=inClass dC 8
abbrev qI:Stmt:=inClass dC 9
abbrev lY:Stmt:=inClass dC 10
abbrev iB:Stmt:=inClass dC 11
abbrev qG:Stmt:=inClass dC 12
abbrev rM:Stmt:=inClass dC 13
abbrev sTot:Stmt:=inClass dC 14
abbrev rL:Stmt:=inClass dC 15
abbrev rJ:Stmt:=inClass dC 16
abbrev fN:Stmt:=inClass dC 17
abbrev xJ:Stmt:=inClass dC 18
abbrev qF:Stmt:=inClass dC 19
abbrev sNms:Stmt:=inClass dC 20
structure Txt (mg:Str->Option Value):Prop where
 isi:mg "isinstance" = none
 int':mg "int" = none
 bool':mg "bool" = none
 tup':mg "tuple" = none
 str':mg "str" = none
 len:mg "len" = none
 range:mg "range" = none
 min':mg "min" = none
 max':mg "max" = none
 abs':mg "abs" = none
 list':mg "list" = none
 all':mg "all" = none
 sorted':mg "sorted" = none
 sum':mg "sum" = none
 dict':mg "dict" = none
 zip':mg "zip" = none
 val:mg "ValueError" = none
def tI (K:Aa):Sp:=λvs H Q _=>∃ (a:Addr) (ns:List Int) (k:Int),vs=[.ref a,.int k]/\SqL K H a (ns.map V.int)/\0<=k/\∀ c:Int,Q (.int c) H
structure Wr (x:Str):Prop where
 l1:1<=x.length
 l8:x.length<=8
 lt:∀ c∈cps x,97<=c/\c<=122
instance (x:Str):Decidable (Wr x):=decidable_of_iff ((1<=x.length/\x.length<=8)/\∀ c∈cps x,97<=c/\c<=122) ⟨λh=>⟨h.1.1,h.1.2,h.2⟩,λh=>⟨⟨h.l1,h.l8⟩,h.lt⟩⟩
def iZ (K:Aa):Sp:=λvs H Q _=>∃ v,vs=[v]/\((IsiD K H v "str" false/\Q (.bl false) H)\/∃ x:Str,v=.str x/\x.length<=1000/\(Wr x->∀ H',Same H H'->Q (.bl true) H')/\(¬ Wr x->∀ H',Same H H'->Q (.bl false) H'))
inductive Nv:V->Bool->Prop where
 |int {n}:Nv (.int n) true
 |bl {b}:Nv (.bl b) false
 |non:Nv .non false
 |str {x}:Nv (.str x) false
def spWh:Sp:=λvs H Q _=>∃ v b,vs=[v]/\Nv v b/\Q (.bl b) H
def oT:Sp:=λvs H Q _=>∃ c k:Int,vs=[.int c,.int k]/\0<=k/\k<=1000/\∀ n:Int,0<=n->n<2147483587->Q (.int n) H
def aA4:Sp:=λvs H Q _=>∃ a b:Int,vs=[.int a,.int b]/\0<=a/\0<=b/\Q (.int (G a b)) H
def rG:Sp:=λvs H Q _=>∃ t b:Int,vs=[.int t,.int b]/\0<=t/\1<=b/\Bt 9000 b/\RetT H Q [t/G t b,b/G t b]
structure Two (K:Aa)(H:Hp)(p q:Addr)(t1 b1 t2 b2:Int):Prop where
 sp:SqT K H p [.int t1,.int b1]
 sq:H q=some (.tup [.int t2,.int b2])
 ht1:0<=t1
 hb1:1<=b1
 am:Amt t2 b2
 st1:Bt 4000 t1
 sb1:Bt 4000 b1
 st2:Bt 4000 t2
 sb2:Bt 4000 b2
def pY (K:Aa):Sp:=λvs H Q _=>∃ (p q:Addr) (t1 b1 t2 b2:Int),vs=[.ref p,.ref q]/\Two K H p q t1 b1 t2 b2 /\
 RetT H Q [(t1*b2+t2*b1)/G (t1*b2+t2*b1) (b1*b2),(b1*b2)/G (t1*b2+t2*b1) (b1*b2)]
structure Tw (K:Aa)(H:Hp)(p q:Addr)(t1 b1 t2 b2:Int):Prop where
 sp:SqT K H p [.int t1,.int b1]
 sq:SqT K H q [.int t2,.int b2]
 a1:Amt t1 b1
 a2:Amt t2 b2
 st1:Bt 4000 t1
 sb1:Bt 4000 b1
 st2:Bt 4000 t2
 sb2:Bt 4000 b2
def oR (K:Aa):Sp:=λvs H Q _=>∃ (p q:Addr) (t1 b1 t2 b2:Int),vs=[.ref p,.ref q]/\Tw K H p q t1 b1 t2 b2 /\
 RetT H Q [(t1*t2)/G (t1*t2) (b1*b2),(b1*b2)/G (t1*t2) (b1*b2)]
def sW (K:Aa):Sp:=λvs H Q _=>∃ (p q:Addr) (t1 b1 t2 b2:Int),vs=[.ref p,.ref q]/\Tw K H p q t1 b1 t2 b2/\1<=t2 /\
 RetT H Q [(t1*b2)/G (t1*b2) (b1*t2),(b1*t2)/G (t1*b2) (b1*t2)]
def sY (K:Aa):Sp:=λvs H Q _=>∃ (p q:Addr) (t1 b1 t2 b2:Int),vs=[.ref p,.ref q]/\Tw K H p q t1 b1 t2 b2/\Q (.bl (decide (t1*b2<t2*b1))) H
def oU (K:Aa):Sp:=λvs H Q _=>∃ (p q:Addr) (t1 b1 t2 b2:Int),vs=[.ref p,.ref q]/\Tw K H p q t1 b1 t2 b2/\t2*b1<=t1*b2 /\
 RetT H Q [(t1*b2-t2*b1)/G (t1*b2-t2*b1) (b1*b2),(b1*b2)/G (t1*b2-t2*b1) (b1*b2)]
structure DK (kvs:List (Key×V))(ks:List Str):Prop where
 keys:kvs.map (·.1)=ks.map As
 nd:ks.Nodup
abbrev leS (a b:Str):Prop:=a.cps.toList<=b.cps.toList
section
variable {P:AE}{w:World}{K:Aa}{mg:Str->Option Value}{base:Heap}
def b6 {n:Nat}{x:Int}(h:Bt n x)(hn:n<=1000000:=by decide):Bt 1000000 x:=h.mono hn
def eE (n:Nat){x c:Int}(h0:0<=x)(h:x<c)(hc:c<=((2^n:Nat):Int):=by decide +kernel):Bt n x:=by
 show x.natAbs<2^n;omega
def bN (x:Int){m:Int}(h:0<m):0<=x%m/\x%m<m:=⟨Int.emod_nonneg x (by omega),Int.emod_lt_of_pos x h⟩
def rB:BU "int" = some (.type "int"):=by decide +kernel
def aC2:BU "bool" = some (.type "bool"):=by decide +kernel
def zI:BU "tuple" = some (.type "tuple"):=by decide +kernel
def aFs:BU "str" = some (.type "str"):=by decide +kernel
theorem bl {c:Int}(h0:0<=c:=by decide)(h:c<18446744073709551616:=by decide):Bt 1000000 c:=b6 (eE 64 h0 h)
def bk {c:Int}(h0:0<=c:=by decide)(h:c<18446744073709551616:=by decide):Bt 1000 c:=(eE 64 h0 h).mono (by decide)
def aD5:FnScope ["_law_script","_law_k"] ["_law_script","_law_k"] (aG sCell):=fnScOk (by decide +kernel)
def aCj (F:Fun K "_law_cell_at" "_law_cell_at" sCell f fd)(T:Txt mg):FnOk P w K mg base CX0 1 f fd ["_law_script","_law_k"] (tI K):=by
 refine F.ok aD5 (λvs H Q E h=>?_) (λcdv A outer s H vs Q E hr h=>?_)
 ·obtain ⟨_,_,_,rfl,_⟩:=h
  rfl
 ·obtain ⟨a,ns,j,rfl,hS,h0,k⟩:=h
  refine ⟨_,(aC (bC (aP jO (pv 1) (aS bA rfl T.len Be (aA (pv 0) aE)) (aU _))
    (aF (aK (cR dO (pv 0) (pv 1) (λ_ _=>rfl))))
    aQ)
   (aF (aK aH))),?_⟩
  refine ⟨_,rfl,_,rfl,a,_,rfl,.inl hS,_,_,rfl,rfl,_,rfl,ite2 (λhc=>?_) (λ_=>k _)⟩;have hc':j<((ns.map V.int).length:Int):=of_decide_eq_true hc;rw [Ab] at hc';obtain ⟨i,rfl⟩:=Dw h0;obtain ⟨c,hc⟩:∃ c,ns[i]?=some c:=⟨_,Al (show i<ns.length by omega)⟩;exact ⟨_,rfl,_,rfl,a,_,(i:Int),.int c,rfl,rfl,hS,iK (by rw [Ah,hc];rfl),k c⟩
def wH:BU "abs" = some (.builtin "abs"):=by decide +kernel
theorem lenC (x:Str):x.length=(cps x).length:=by simp [Str.length,cps]
theorem lenA (x y:Str):(x++y).length=x.length+y.length:=by rw [lenC,eO,Az,<- lenC,<- lenC]
def vH {x:Str}{ws:List Str}:inV (.str x) (ws.map V.str)=true↔x∈ws:=by
 unfold inV;rw [List.any_map,List.any_eq_true];constructor
 ·rintro ⟨y,hy,e⟩
  have:y=x:=by simpa [eqV] using e
  exact this▸hy
 ·intro h
  exact ⟨x,h,by simp [eqV]⟩
def vO (ws:List Str):(ws.map V.str).all fK=true:=by
 rw [List.all_map,Cd];intro x _;rfl
def kX (h:ws.Nodup)(n:x∉ws):(ws++[x]).Nodup:=by
 rw [AN];refine ⟨h,by simp,λy hy z hz e=>?_⟩;rw [Am.mp hz] at e;exact n (e▸hy)
def eZ (h:∀ y∈scope.names,y.2=.local\/y.2=.globalImplicit):ClOk X scope []:=by
 refine ⟨closureFor_none λx hx z=>?_,λx c e=>by simp at e,λx e=>?_⟩
 ·rcases h x hx with q|q<;>rw [q] at z<;>cases z
 ·exfalso
  have e':∃ k,(k=Cc\/k=AW)/\(relabel scope X.env).names.lookup x=some k:=by
   rcases e with e|e
   ·exact ⟨_,.inl rfl,e⟩
   ·exact ⟨_,.inr rfl,e⟩
  obtain ⟨k,hk,e⟩:=e';have hm:=Cj e;obtain ⟨y,hy,hy2⟩:=An.mp hm;have hl:=h y hy;obtain ⟨n,kk⟩:=y;simp only at hl
  rcases hl with hl|hl<;>subst hl<;>simp at hy2<;>rcases hk with rfl|rfl<;>exact absurd hy2.2 (by decide)
def nd1:(["sign"]:List Str).Nodup:=by decide +kernel
theorem aCq (c:Nat):(!(Builtin.Str.occurrences LET ⟨#[c]⟩ 0 LET.length 1).isEmpty)=decide (97<=c/\c<=122):=by
 rw [StrLaws.found_one];have e:LET.cps.toList=(Bl 26).map (97 + ·):=by decide +kernel
 rw [e];refine decide_eq_decide.mpr ⟨λh=>?_,λh=>?_⟩
 ·obtain ⟨j,hj,rfl⟩:=An.mp h
  have:=DG.mp hj;omega
 ·exact An.mpr ⟨c-97,DG.mpr (by omega),by omega⟩
def xD:FnScope ["thing"] ["thing"] (aG sIsWare):=fnScOk (by decide +kernel)
def uL {tk tk':Tok}(F:Fun K "is_ware" "is_ware" sIsWare f fd)(T:Txt mg)(mM:mg "MOST_LETTERS" = some (.int 8 tk))(mL:mg "LETTERS" = some (.str LET tk')):FnOk P w K mg base CX0 1 f fd ["thing"] (iZ K):=by
 refine F.ok xD (λvs H Q E h=>?_) (λcdv A outer s H vs Q E hr h=>?_)
 ·obtain ⟨_,rfl,_⟩:=h
  rfl
 ·obtain ⟨v,rfl,h⟩:=h
  refine ⟨_,(aC (bC (eC (cU (aS wF rfl T.isi CL (aA (pv 0) (aA (jM (v:=.ty "str") rfl T.str' aFs rfl) aE)))))
    (aF (aK gF)) aQ)
   (aF (aK (iO (xU rO rO aH (aS oG rfl T.len Be (aA (pv 0) aE)) (dY (v:=.int 8) rfl mM ⟨_,rfl⟩)) (iN (aS (wG rfl) rfl T.all' boot_all (aA (iD (N':=["sign"]) (cl:=[]) (λ_=>[none]) rfl rfl (by decide +kernel) (by decide +kernel) (eZ (by decide +kernel)) (λ_ _=>fW)
      (aEh (pv 0)) (λ_ _ _ _ _=>aY (i:=0) nd1 rfl (Or.inl rfl)) (λ_ _ _ _ _=>dE) (λ_ _ _ _ _=>dM uA (pv 0) (dY (v:=.str LET) rfl mL ⟨_,rfl⟩) rfl)) aE))))))),?_⟩
  rcases h with ⟨hi,hb⟩|⟨x,rfl,hl,kT,kF⟩
  ·exact ⟨_,rfl,v,"str",false,rfl,hi,_,rfl,iteT hb⟩
  ·have hz:=fM hl
   have le:=lenC x;refine ⟨_,rfl,_,"str",true,rfl,.inl .str_str,_,rfl,iteF ?_⟩;refine ⟨_,rfl,x,rfl,hz,_,_,rfl,rfl,_,rfl,ite2 (λh1=>?_) (λh1=>?_)⟩
   ·have h1':(1:Int)<=(x.length:Int):=of_decide_eq_true h1
    refine ⟨_,_,rfl,rfl,_,rfl,?_⟩
    by_cases h2:(x.length:Int)<=8
    ·rw [decide_eq_true h2]
     refine iteT ⟨_,rfl,x,rfl,λD hD=>?_⟩;refine zG (λi ys H'=>ys=((cps x).take i).map (λc=>V.bl (decide (97<=c/\c<=122)))/\Same H H'/\H' D=some (.lst ys)) ⟨by simp,Same.upd hD,aB⟩ ?_ ?_ ?_
     ·rintro i ys H' hi ⟨rfl,_,hD'⟩
      refine ⟨hD',?_⟩;rw [Ab,Bn];exact aW (by omega)
     ·rintro i c ys H' hc ⟨rfl,sm,hD'⟩
      refine ⟨(Keep.refl _).set rfl,?_⟩;unfold wO;dsimp only;rw [if_pos rfl];refine ⟨_,rfl,_,_,rfl,rfl,hD',Nx.mk (Ad.mp hc).1 ⟨?_,λb o hb=>?_,aB⟩⟩
      ·rw [aCq,Ci,hc,AC]
       rfl
      ·have ne:b≠D:=λz=>by rw [z,hD] at hb;cases hb
       rw [aD ne];exact sm b o hb
     ·rintro ys H' ⟨rfl,sm,hD'⟩
      rw [DB (Ak _)] at hD';refine ⟨D,(cps x).map (λc=>decide (97<=c/\c<=122)),rfl,SqL.of (by rw [Bh];exact hD'),?_⟩
      by_cases a:∀ c∈cps x,97<=c/\c<=122
      ·have e:((cps x).map (λc=>decide (97<=c/\c<=122))).all id=true:=by
        rw [List.all_map,Cd];exact λc hc=>decide_eq_true (a c hc)
       rw [e];exact kT ⟨by omega,by omega,a⟩ _ sm
      ·have e:((cps x).map (λc=>decide (97<=c/\c<=122))).all id=false:=by
        rw [Bool.eq_false_iff,Ne,List.all_map,Cd];exact λh=>a λc hc=>of_decide_eq_true (h c hc)
       rw [e];exact kF (λz=>a z.lt) _ sm
    ·rw [decide_eq_false h2]
     exact iteF (kF (λz=>h2 (by have:=z.l8;omega)) _ (Same.refl _))
   ·have h1':¬ (1:Int)<=(x.length:Int):=λz=>h1 (decide_eq_true z)
    exact ⟨_,rfl,iteF (kF (λz=>h1' (by have:=z.l1;omega)) _ (Same.refl _))⟩
def b9 {c:Int}(h0:0<=c:=by decide)(h:c<18446744073709551616:=by decide):Bt 9000 c:=(eE 64 h0 h).mono (by decide)
def dD (s:Same H H')(n:H p=none):Same H (upd H' p o):=λb u e=>by
 rw [aD (λz=>by rw [z,n] at e;cases e)];exact s _ _ e
def same_none (s:Same H H')(n:H' p=none):H p=none:=by
 cases e:H p with
 |none=>rfl
 |some o=>
  have:=s _ _ e;rw [n] at this;cases this
def aD2:FnScope ["thing"] ["thing"] (aG sIsWh):=fnScOk (by decide +kernel)
def aCc (F:Fun K "is_whole_number" "is_whole_number" sIsWh f fd)(T:Txt mg):FnOk P w K mg base CX0 1 f fd ["thing"] spWh:=by
 refine F.ok aD2 (λvs H Q E h=>?_) (λcdv A outer s H vs Q E hr h=>?_)
 ·obtain ⟨_,_,rfl,_⟩:=h
  rfl
 ·obtain ⟨v,β,rfl,h,k⟩:=h
  refine ⟨_,aF (aK (iO (aS jF rfl T.isi CL (aA (pv 0) (aA (jM (v:=.ty "int") rfl T.int' rB rfl) aE)))
   (iN (aEk (aS jF rfl T.isi CL (aA (pv 0) (aA (jM (v:=.ty "bool") rfl T.bool' aC2 rfl) aE))))))),?_⟩
  cases h with
  |int=>exact ⟨_,rfl,_,"int",true,rfl,.int_int,_,rfl,iteT ⟨_,rfl,_,"bool",false,rfl,.int_bool,_,rfl,k⟩⟩
  |bl=>exact ⟨_,rfl,_,"int",true,rfl,.bl_int,_,rfl,iteT ⟨_,rfl,_,"bool",true,rfl,.bl_bool,_,rfl,k⟩⟩
  |non=>exact ⟨_,rfl,_,"int",false,rfl,.non_int,_,rfl,iteF k⟩
  |str=>exact ⟨_,rfl,_,"int",false,rfl,.str_int,_,rfl,iteF k⟩
def aBh:FnScope ["_law_cell","_law_k"] ["_law_cell","_law_k"] (aG sMixed):=fnScOk (by decide +kernel)
def yG (F:Fun K "_law_mixed" "_law_mixed" sMixed f fd):FnOk P w K mg base CX0 1 f fd ["_law_cell","_law_k"] oT:=by
 refine F.ok aBh (λvs H Q E h=>?_) (λcdv A outer s H vs Q E hr h=>?_)
 ·obtain ⟨_,_,rfl,_⟩:=h
  rfl
 ·obtain ⟨c,k,rfl,k0,k1,q⟩:=h
  refine ⟨_,aF (aK (aM bK (aM bL (aM cZ (aM bK (pv 0) aH) aH) (aM cZ aH (aM bL (aM bL aH (pv 1)) (pv 1)))) aH)),?_⟩;have c1:=bN c (m:=2147483647) (by decide);have bk1:Bt 32 k:=eE 32 (c:=1001) k0 (by omega);have b2:Bt 34 (2*k):=(eE 2 (x:=2) (c:=3) (by decide) (by decide)).mul bk1;have b3:Bt 66 (c%2147483647+13):=eE 66 (c:=2147483647+13) (by omega) (by omega);have b4:Bt 67 (69621+2*k*k):=(eE 66 (x:=69621) (c:=69622) (by decide) (by decide)).add (b2.mul bk1);refine ⟨_,rfl,_,_,rfl,rfl,(by show (0:Int)<2147483647;decide),_,_,rfl,rfl,_,rfl,_,_,rfl,rfl,⟨bl,b6 bk1⟩,_,rfl,_,_,rfl,rfl,⟨b6 b2,b6 bk1⟩,_,_,rfl,rfl,_,_,rfl,rfl,⟨b6 b3,b6 b4⟩,_,_,rfl,rfl,(by show (0:Int)<2147483587;decide),?_⟩;have e:=bN ((c%2147483647+13)*(69621+2*k*k)) (m:=2147483587) (by decide);exact q _ e.1 e.2
abbrev Lw (x:Str):Prop:=∀ c∈cps x,97<=c/\c<=122
def aAg {c:Nat}(h:97<=c/\c<=122):Lw ⟨#[c]⟩:=λd hd=>by
 have:d=c:=by simpa [cps] using hd
 rw [this];exact h
def aAh (hx:Lw x)(hy:Lw y):Lw (x++y):=λc hc=>by
 rw [eO] at hc
 rcases Aj.mp hc with h|h
 ·exact hx c h
 ·exact hy c h
def aAq {e:Int}(h0:0<=e)(h:e<26):∃ c,atI LET.cps.toList e=some c/\97<=c/\c<=122:=by
 obtain ⟨n,rfl⟩:=Dw h0;exact ⟨97+n,iK (aAp (by omega)),by omega,by omega⟩
def pW:Sp:=λvs H Q _=>∃ n:Int,vs=[.int n]/\0<=n/\∀ (x:Str) (n':Int) p H',0<=n'->Wr x->Same H H'->H' p=some (.tup [.str x,.int n'])->Q (.ref p) H'
def jI:FnScope ["_law_left","_law_word","_law_many","_law_k"] ["_law_left"] (aG sWord):=fnScOk (by decide +kernel)
def aBw (F:Fun K "_law_word_by" "_law_word_by" sWord f fd)(T:Txt mg):FnOk P w K mg base CX0 1 f fd ["_law_left"] pW:=by
 refine F.ok jI (λvs H Q E h=>?_) (λcdv A outer s H vs Q E hr h=>?_)
 ·obtain ⟨_,rfl,_⟩:=h
  rfl
 ·obtain ⟨n,rfl,n0,k⟩:=h
  refine ⟨_,(aC (aT (i:=1) jI.nd rfl (Or.inl rfl) aJ)
   (aC (aT (i:=2) jI.nd rfl (Or.inl rfl) (aM cZ aH (aM bK (pv 0) aH)))
   (aC (aT (i:=0) jI.nd rfl (Or.inl rfl) (aM bB (pv 0) aH))
   (aC (dW Bc rfl (fR rfl T.range (aA (pv 2) aE)) (aY (i:=3) jI.nd rfl (Or.inl rfl))
    (aC (aT (i:=1) jI.nd rfl (Or.inl rfl) (aM eW (pv 1) (cR vE aJ (aM bK (pv 0) aH) (λ_ _=>rfl))))
    (aF (aT (i:=0) jI.nd rfl (Or.inl rfl) (aM bB (pv 0) aH)))))
   (aF (aK (bF (aA (pv 1) (aA (pv 0) aE))))))))),?_⟩
  refine cut5 ?_
  intros
  have zL:LET.length<=AB:=by decide +kernel
  have e8:=bN n (m:=8) (by decide);refine ⟨_,rfl,_,_,rfl,rfl,(by show (0:Int)<8;decide),_,_,rfl,rfl,?_⟩;refine ⟨_,rfl,_,_,rfl,rfl,⟨by decide,b9⟩,?_⟩;refine ⟨_,rfl,_,rfl,by omega,by omega,?_⟩;refine eY (λi σ H'=>∃ (x:Str) (l:Int) (v3:Option V),σ=[some (.int l),some (.str x),some (.int (1+n%8)),v3]/\x.length=i/\Lw x/\0<=l/\H'=H) ⟨"",n/8,none,rfl,rfl,(by decide +kernel),DV n0 (by decide),rfl⟩ ?_ ?_
  ·rintro i σ H' hi ⟨x,l,v3,rfl,xl,lw,l0,rfl⟩
   have e:=bN l (m:=26) (by decide);obtain ⟨c,hc,hc'⟩:=aAq e.1 e.2;refine ⟨_,rfl,_,rfl,_,_,rfl,rfl,(by show (0:Int)<26;decide),LET,_,c,rfl,rfl,zL,hc,_,_,rfl,rfl,fM (by show x.length+1<=1000;omega),?_⟩;refine ⟨_,rfl,_,_,rfl,rfl,⟨by decide,b9⟩,?_⟩;refine ⟨_,_,_,rfl,?_,aAh lw (aAg hc'),DV l0 (by decide),rfl⟩;rw [lenA,xl];rfl
  ·rintro σ H' ⟨x,l,v3,rfl,xl,lw,l0,rfl⟩
   exact ⟨_,rfl,_,rfl,(show 2<=AB by decide +kernel),λp hp=>k x l p _ l0 ⟨by omega,by omega,lw⟩ (Same.upd hp) aB⟩
def fF {X:Cx}{K:Aa}(h:X.K=K):IxR X (rIxT K):=h▸gY
def aAr (c:Int):0<=(if c<0 then -c else c):=by split<;>omega
def jH:∀ {ss:List Str},sortedS ss=true->ss.Pairwise (λa b=>a.cps.toList<=b.cps.toList)
 |[],_=>.nil
 |x::r,h=>by
  have key:∀ (r:List Str) (x:Str),risingS x r=true->(∀ y∈r,x.cps.toList<=y.cps.toList)/\r.Pairwise (λa b=>a.cps.toList<=b.cps.toList):=by
   intro r
   induction r with
   |nil=>intro x _;exact ⟨(λ_ h=>nomatch h),.nil⟩
   |cons y r ih=>
    intro x hx;have hx':(!ltCps y.cps.toList x.cps.toList&&risingS y r)=true:=hx;simp only [Cq,Bool.not_eq_true'] at hx';obtain ⟨h1,h2⟩:=hx';rw [ltCps_eq] at h1;have le:x.cps.toList<=y.cps.toList:=List.not_lt.mp (of_decide_eq_false h1);obtain ⟨i1,i2⟩:=ih y h2;refine ⟨λz hz=>?_,.cons i1 i2⟩
    rcases Ae.mp hz with rfl|hz
    ·exact le
    ·exact List.le_trans le (i1 z hz)
  obtain ⟨k1,k2⟩:=key r x h;exact .cons k1 k2
def fA (h:a.Perm b)(ha:sortedS a=true)(hb:sortedS b=true):a=b:=by
 refine h.eq_of_pairwise (le:=λa b=>a.cps.toList<=b.cps.toList) (λx y _ _ h1 h2=>?_) (jH ha) (jH hb);exact TM.ext (List.le_antisymm h1 h2)
theorem bG {α β:Type}{R R':α->β->Prop}(k:∀ a b,R a b->R' a b):∀ {xs:List α} {ys:List β},Paired R xs ys->Paired R' xs ys
 |_,_,.nil=>.nil
 |_,_,.cons h t=>.cons (k _ _ h) (bG k t)
theorem fD {α β:Type}{R:α->β->Prop}:∀ {xs:List α} {ys:List β} {a:α} {b:β},Paired R xs ys->R a b->Paired R (xs++[a]) (ys++[b])
 |_,_,_,_,.nil,r=>.cons r .nil
 |_,_,_,_,.cons h t,r=>.cons h (fD t r)
theorem dP {α β:Type}{R:α->β->Prop}:∀ {xs:List α} {ys:List β} {i:Nat} {a:α},Paired R xs ys->xs[i]?=some a->∃ b,ys[i]?=some b/\R a b
 |_,_,_,_,.nil,h=>by simp at h
 |_,_,0,_,.cons r t,h=>by
  simp at h;subst h;exact ⟨_,rfl,r⟩
 |_,_,i+1,_,.cons r t,h=>by
  rw [Cg] at h;obtain ⟨b,e,r'⟩:=dP t h;exact ⟨b,by rw [Cg];exact e,r'⟩
theorem bY {α β:Type}{R:α->β->Prop}:∀ {xs:List α} {ys:List β},Paired R xs ys->xs.length=ys.length
 |_,_,.nil=>rfl
 |_,_,.cons _ t=>by rw [Br,Br,bY t]
def aC6 {e:Int}(h0:0<=e)(h:e<26):atI LET.cps.toList e=some (97+e.toNat):=by
 obtain ⟨n,rfl⟩:=Dw h0;exact iK (aAp (by omega))
def zB {a0 b0 a b:Int}(e:G a b=G a0 b0)(hb:0<=b)(h:¬ b=0):0<=a%b/\G b (a%b)=G a0 b0:=⟨Int.emod_nonneg a h,by rw [aFw];exact e⟩
def xE:FnScope ["one","other","rest"] ["one","other"] (aG sGcd):=fnScOk (by decide +kernel)
def aE1 (F:Fun K "common_divisor" "common_divisor" sGcd f fd):FnOk P w K mg base CX0 1 f fd ["one","other"] aA4:=by
 refine F.ok xE (λvs H Q E h=>?_) (λcdv A outer s H vs Q E hr h=>?_)
 ·obtain ⟨a,b,rfl,_⟩:=h
  rfl
 ·obtain ⟨a,b,rfl,ha,hb,k⟩:=h
  refine ⟨_,aC (xN Bc (aP rN (pv 1) aH (aU _))
   (aC (aT (i:=2) xE.nd rfl (Or.inl rfl) (aM bK (pv 0) (pv 1)))
   (aC (aT (i:=0) xE.nd rfl (Or.inl rfl) (pv 1))
   (aF (aT (i:=1) xE.nd rfl (Or.inl rfl) (pv 2))))))
   (aF (aK (pv 0))),?_⟩
  refine wJ (λσ H'=>H'=H/\∃ (x y:Int) (r:Option V),σ=[some (.int x),some (.int y),r]/\0<=x/\0<=y/\G x y=G a b) (λσ _=>match σ with|[_,some (.int y),_]=>y.toNat|_=>0) ⟨rfl,a,b,none,rfl,ha,hb,rfl⟩ ?_ ?_
  ·rintro σ H' ⟨rfl,x,y,r,rfl,hx,hy,e⟩
   refine ⟨_,rfl,rfl,_,rfl,?_⟩;refine ite2 (λhc=>?_) (λhc=>?_)
   ·have hy0:¬ y=0:=by
     intro z;subst z;simp at hc
    have t:=zB e hy hy0;refine ⟨_,rfl,_,rfl,_,_,rfl,rfl,(by show 0<y;omega),_,rfl,_,rfl,⟨rfl,y,x%y,_,rfl,hy,t.1,t.2⟩,?_⟩;have:=Int.emod_lt_of_pos x (show 0<y by omega);have:=t.1;show (x%y).toNat<y.toNat;omega
   ·have hy0:y=0:=by
     by_cases z:y=0
     ·exact z
     ·exfalso
      apply hc
      simp [z]
    subst hy0;rw [aFv hx] at e;exact ⟨_,rfl,by rw [e];exact k⟩
  ·rintro σ H' Q1 Q2 hq ⟨v,e,z,q⟩
   exact ⟨v,e,z,by obtain ⟨k,e,q⟩:=q;exact ⟨k,e,hq _ _ q⟩⟩
def uW {t b:Int}(h1:1<=b)(hs:Bt 9000 b):0<G t b/\Bt 9000 (G t b):=by
 have p:=aC9 (a:=t) (b:=b) (by omega);exact ⟨p,hs.le (by omega) (aFx (by omega))⟩
def aDz:FnScope ["top","bottom","divisor"] ["top","bottom"] (aG sLow):=fnScOk (by decide +kernel)
def aEy (F:Fun K "lowest_terms" "lowest_terms" sLow f fd)(cG:Cal P w K mg base CX0 1 "common_divisor" ["one","other"] aA4):FnOk P w K mg base CX0 2 f fd ["top","bottom"] rG:=by
 refine F.ok aDz (λvs H Q E h=>?_) (λcdv A outer s H vs Q E hr h=>?_)
 ·obtain ⟨a,b,rfl,_⟩:=h
  rfl
 ·obtain ⟨t,b,rfl,ht,hb,hs,k⟩:=h
  refine ⟨_,aC (aT (i:=2) aDz.nd rfl (Or.inl rfl) (aV cG hr rfl aR (aA (pv 0) (aA (pv 1) aE))))
   (aF (aK (bF (aA (aM bB (pv 0) (pv 2)) (aA (aM bB (pv 1) (pv 2)) aE))))),?_⟩
  refine ⟨_,rfl,_,rfl,t,b,rfl,ht,by omega,?_⟩;have g:=uW (t:=t) hb hs;refine ⟨_,rfl,_,rfl,_,_,rfl,rfl,g,_,rfl,_,rfl,_,_,rfl,rfl,g,zLn2,λp hp=>?_⟩;exact k p _ (Same.upd hp) aB
def fV {M t b N:Int}(hM:0<M)(h:Fr M t b N):t<=N/\b<=M:=by
 have hb:=Int.le_of_dvd hM h.dvd;refine ⟨?_,hb⟩;have n0:=h.nonneg hM;have:=Int.mul_le_mul_of_nonneg_left hb n0;rw [<- h.e] at this;exact Int.le_of_mul_le_mul_right this hM
def Two.botS {t1 b1 t2 b2:Int}(T:Two K H p q t1 b1 t2 b2):1<=b1*b2/\Bt 8000 (b1*b2):=by
 have:=DH T.hb1 T.am.b1 (by decide) (by have:=T.hb1;omega);exact ⟨by omega,T.sb1.mul T.sb2⟩
def aDt:FnScope ["one","other"] ["one","other"] (aG sPlus):=fnScOk (by decide +kernel)
def aB3 (F:Fun K "plus" "plus" sPlus f fd)(mN:mg "NOUGHT" = some (.ref aN))(sN:∀ H:Hp,SqT K H aN [.int 0,.int 1])(cL:Cal P w K mg base CX0 2 "lowest_terms" ["top","bottom"] rG):FnOk P w K mg base CX0 3 f fd ["one","other"] (pY K):=by
 refine F.ok aDt (λvs H Q E h=>?_) (λcdv A outer s H vs Q E hr h=>?_)
 ·obtain ⟨_,_,_,_,_,_,rfl,_⟩:=h
  rfl
 ·obtain ⟨p,q,t1,b1,t2,b2,rfl,T,k⟩:=h
  refine ⟨_,aC (bC (aP (aAc hr.units) (pv 0) (dY (v:=.ref aN) rfl mN rfl) (aU _)) (aF (aK (pv 1))) aQ)
   (aF (aK (aV cL hr rfl aR (aA (aM cZ (aM bL (pit 0 0) (pit 1 1)) (aM bL (pit 1 0) (pit 0 1))) (aA (aM bL (pit 0 1) (pit 1 1)) aE))))),?_⟩
  have bs:=T.botS;have hs:=SqT.of (K:=K) T.sq;have m1:=Bu T.ht1 (show 0<=b2 by have:=T.am.b1;omega);have m2:=Bu T.am.t0 (show 0<=b1 by have:=T.hb1;omega);have a0:=T.am.t0;have a1:=T.am.b1;refine ⟨_,rfl,p,aN,[t1,b1],[0,1],rfl,rfl,T.sp,sN H,_,rfl,ite2 (λhc=>?_) (λ_=>?_)⟩
  ·have e:=of_decide_eq_true hc
   injection e with e1 e;injection e with e2 e;subst e1 e2;refine ⟨_,rfl,?_⟩;have u:=kY (t:=0*b2+t2*1) (b:=1*b2) (by omega) (by omega) T.am (by rw [Ca,Int.zero_add,Int.one_mul,Int.mul_one]);rw [u.1,u.2] at k;exact k q H (Same.refl H) T.sq
  ·refine ⟨p,_,_,rfl,T.sp,rfl,q,_,_,rfl,hs,rfl,_,_,rfl,rfl,⟨b6 T.st1,b6 T.sb2⟩,q,_,_,rfl,hs,rfl,p,_,_,rfl,T.sp,rfl,_,_,rfl,rfl,⟨b6 T.st2,b6 T.sb1⟩,_,_,rfl,rfl,?_⟩
   exact ⟨p,_,_,rfl,T.sp,rfl,q,_,_,rfl,hs,rfl,_,_,rfl,rfl,⟨b6 T.sb1,b6 T.sb2⟩,_,_,rfl,by omega,bs.1,bs.2.mono (by decide),k⟩
def aBb:FnScope ["one","other"] ["one","other"] (aG sTimes):=fnScOk (by decide +kernel)
def mul1 {a b:Int}(ha:1<=a)(hb:1<=b):1<=a*b:=by
 have:=DH ha hb (by decide) (by omega);omega
def yA (F:Fun K "times" "times" sTimes f fd)(cL:Cal P w K mg base CX0 2 "lowest_terms" ["top","bottom"] rG):FnOk P w K mg base CX0 3 f fd ["one","other"] (oR K):=by
 refine F.ok aBb (λvs H Q E h=>?_) (λcdv A outer s H vs Q E hr h=>?_)
 ·obtain ⟨_,_,_,_,_,_,rfl,_⟩:=h
  rfl
 ·obtain ⟨p,q,t1,b1,t2,b2,rfl,T,k⟩:=h
  refine ⟨_,aF (aK (aV cL hr rfl aR (aA (aM bL (pit 0 0) (pit 1 0)) (aA (aM bL (pit 0 1) (pit 1 1)) aE)))),?_⟩;refine ⟨p,_,_,rfl,T.sp,rfl,q,_,_,rfl,T.sq,rfl,_,_,rfl,rfl,⟨b6 T.st1,b6 T.st2⟩,?_⟩;exact ⟨p,_,_,rfl,T.sp,rfl,q,_,_,rfl,T.sq,rfl,_,_,rfl,rfl,⟨b6 T.sb1,b6 T.sb2⟩,_,_,rfl,Bu T.a1.t0 T.a2.t0,mul1 T.a1.b1 T.a2.b1,(T.sb1.mul T.sb2).mono (by decide),k⟩
def aDu:FnScope ["one","other"] ["one","other"] (aG sOver):=fnScOk (by decide +kernel)
def aB4 (F:Fun K "over" "over" sOver f fd)(mN:mg "NOUGHT" = some (.ref aN))(sN:∀ H:Hp,SqT K H aN [.int 0,.int 1])(cL:Cal P w K mg base CX0 2 "lowest_terms" ["top","bottom"] rG):FnOk P w K mg base CX0 3 f fd ["one","other"] (sW K):=by
 refine F.ok aDu (λvs H Q E h=>?_) (λcdv A outer s H vs Q E hr h=>?_)
 ·obtain ⟨_,_,_,_,_,_,rfl,_⟩:=h
  rfl
 ·obtain ⟨p,q,t1,b1,t2,b2,rfl,T,h1,k⟩:=h
  refine ⟨_,aC (bC (aP (aAc hr.units) (pv 1) (dY (v:=.ref aN) rfl mN rfl) (aU _)) (aF qN) aQ)
   (aF (aK (aV cL hr rfl aR (aA (aM bL (pit 0 0) (pit 1 1)) (aA (aM bL (pit 0 1) (pit 1 0)) aE))))),?_⟩
  refine ⟨_,rfl,q,aN,[t2,b2],[0,1],rfl,rfl,T.sq,sN H,_,rfl,?_⟩;rw [decide_eq_false (λe=>by injection e with e1 e;omega)];refine iteF ⟨p,_,_,rfl,T.sp,rfl,q,_,_,rfl,T.sq,rfl,_,_,rfl,rfl,⟨b6 T.st1,b6 T.sb2⟩,?_⟩;exact ⟨p,_,_,rfl,T.sp,rfl,q,_,_,rfl,T.sq,rfl,_,_,rfl,rfl,⟨b6 T.sb1,b6 T.st2⟩,_,_,rfl,Bu T.a1.t0 (by have:=T.a2.b1;omega),mul1 T.a1.b1 h1,(T.sb1.mul T.st2).mono (by decide),k⟩
def zD {M1 M2 t1 b1 n1 t2 b2 n2:Int}(h1:0<M1)(h2:0<M2)(f1:Fr M1 t1 b1 n1)(f2:Fr M2 t2 b2 n2)(le:n2*M1<=n1*M2):t2*b1<=t1*b2/\Fr (M1*M2) ((t1*b2-t2*b1)/G (t1*b2-t2*b1) (b1*b2)) ((b1*b2)/G (t1*b2-t2*b1) (b1*b2)) (n1*M2-n2*M1):=by
 have e1:=f1.e;have e2:=f2.e;have a1:=f1.am.b1;have a2:=f2.am.b1;have bb:1<=b1*b2:=mul1 a1 a2;have MM:0<M1*M2:=Int.mul_pos h1 h2;have key:(t1*b2-t2*b1)*(M1*M2)=(n1*M2-n2*M1)*(b1*b2):=by grind
 have le':0<=t1*b2-t2*b1:=by
  have r:0<=(n1*M2-n2*M1)*(b1*b2):=Bu (by omega) (by omega);rw [<- key] at r;exact Int.nonneg_of_mul_nonneg_left r MM
 refine ⟨by omega,jR le' bb,?_⟩;have c:=fU (t1*b2-t2*b1) (b1*b2);generalize (t1*b2-t2*b1)/G (t1*b2-t2*b1) (b1*b2)=x at *
 generalize b1*b2/G (t1*b2-t2*b1) (b1*b2)=y at *
 refine Bp (show b1*b2≠0 by omega) ?_
 grind
def aD0:FnScope ["one","other"] ["one","other"] (aG sLess):=fnScOk (by decide +kernel)
def aCa (F:Fun K "less" "less" sLess f fd):FnOk P w K mg base CX0 1 f fd ["one","other"] (sY K):=by
 refine F.ok aD0 (λvs H Q E h=>?_) (λcdv A outer s H vs Q E hr h=>?_)
 ·obtain ⟨_,_,_,_,_,_,rfl,_⟩:=h
  rfl
 ·obtain ⟨p,q,t1,b1,t2,b2,rfl,T,k⟩:=h
  refine ⟨_,aF (aK (dM jO (aM bL (pit 0 0) (pit 1 1)) (aM bL (pit 1 0) (pit 0 1)) (aU _))),?_⟩;refine ⟨p,_,_,rfl,T.sp,rfl,q,_,_,rfl,T.sq,rfl,_,_,rfl,rfl,⟨b6 T.st1,b6 T.sb2⟩,q,_,_,rfl,T.sq,rfl,p,_,_,rfl,T.sp,rfl,_,_,rfl,rfl,⟨b6 T.st2,b6 T.sb1⟩,_,_,rfl,rfl,k⟩
def aBi:FnScope ["one","other"] ["one","other"] (aG sMinus):=fnScOk (by decide +kernel)
def yH (F:Fun K "minus" "minus" sMinus f fd)(cE:Cal P w K mg base CX0 2 "less" ["one","other"] (sY K))(cL:Cal P w K mg base CX0 2 "lowest_terms" ["top","bottom"] rG):FnOk P w K mg base CX0 3 f fd ["one","other"] (oU K):=by
 refine F.ok aBi (λvs H Q E h=>?_) (λcdv A outer s H vs Q E hr h=>?_)
 ·obtain ⟨_,_,_,_,_,_,rfl,_⟩:=h
  rfl
 ·obtain ⟨p,q,t1,b1,t2,b2,rfl,T,le,k⟩:=h
  refine ⟨_,aC (bC (cU (aV cE hr rfl aR (aA (pv 0) (aA (pv 1) aE)))) (aF qN) aQ)
   (aF (aK (aV cL hr rfl aR (aA (aM qR (aM bL (pit 0 0) (pit 1 1)) (aM bL (pit 1 0) (pit 0 1))) (aA (aM bL (pit 0 1) (pit 1 1)) aE))))),?_⟩
  refine ⟨_,rfl,_,rfl,p,q,t1,b1,t2,b2,rfl,T,_,rfl,?_⟩;rw [decide_eq_false (by omega)];refine iteF ⟨p,_,_,rfl,T.sp,rfl,q,_,_,rfl,T.sq,rfl,_,_,rfl,rfl,⟨b6 T.st1,b6 T.sb2⟩,q,_,_,rfl,T.sq,rfl,p,_,_,rfl,T.sp,rfl,_,_,rfl,rfl,⟨b6 T.st2,b6 T.sb1⟩,_,_,rfl,rfl,?_⟩;exact ⟨p,_,_,rfl,T.sp,rfl,q,_,_,rfl,T.sq,rfl,_,_,rfl,rfl,⟨b6 T.sb1,b6 T.sb2⟩,_,_,rfl,by omega,mul1 T.a1.b1 T.a2.b1,(T.sb1.mul T.sb2).mono (by decide),k⟩
def DK.nil:DK [] []:=⟨rfl,.nil⟩
theorem DK.len (h:DK kvs ks):kvs.length=ks.length:=by
 have:=congrArg List.length h.keys;rwa [Ab,Ab] at this
def DK.get (h:DK kvs ks)(y:Str):(valV kvs (As y)).isSome=true↔y∈ks:=by
 rw [<- dJ,List.any_eq_true];constructor
 ·rintro ⟨kv,hm,e⟩
  have e':kv.1=As y:=of_decide_eq_true e;have:kv.1∈ks.map As:=by rw [<- h.keys];exact An.mpr ⟨kv,hm,rfl⟩
  obtain ⟨z,hz,ez⟩:=An.mp this;rw [e'] at ez;cases ez;exact hz
 ·intro hy
  have:As y∈kvs.map (·.1):=by rw [h.keys];exact An.mpr ⟨y,hy,rfl⟩
  obtain ⟨kv,hm,e⟩:=An.mp this;exact ⟨kv,hm,decide_eq_true e⟩
def DK.put (h:DK kvs ks)(y:Str)(v:V):∃ ks',DK (putK kvs (As y) v) ks'/\(∀ z,z∈ks'↔z∈ks\/z=y)/\ks'.length<=ks.length+1:=by
 unfold putK;split
 ·rename_i hany
  have hy:y∈ks:=(h.get y).mp (by rw [<- dJ];exact hany);refine ⟨ks,⟨?_,h.nd⟩,λz=>⟨.inl,λq=>q.elim id λe=>e▸hy⟩,CQ _⟩;rw [<- h.keys,Bh];refine BV λkv _=>?_;show (if kv.1=As y then (kv.1,v) else kv).1=kv.1;split<;>rfl
 ·rename_i hany
  have hy:y∉ks:=λq=>hany (by rw [dJ];exact (h.get y).mpr q);refine ⟨ks++[y],⟨by rw [AC,AC,h.keys];rfl,?_⟩,λz=>by simp,by simp⟩;exact AN.mpr ⟨h.nd,by simp,λa ha b hb e=>hy (by rw [Am.mp hb] at e;exact e▸ha)⟩
def aBn {a b:List Str}(h:a.Perm b)(ha:a.Pairwise leS)(hb:b.Pairwise leS):a=b:=
 h.eq_of_pairwise (le:=leS) (λx y _ _ h1 h2=>TM.ext (List.le_antisymm h1 h2)) ha hb
end
structure HA (H:Hp)(kvs:List (Key×V))(ks:List Str)(M:Int)(f:Str->Int):Prop where
 dk:DK kvs ks
 am:∀ y∈ks,∃ (p:Addr) (t b:Int),valV kvs (As y)=some (.ref p)/\H p=some (.tup [.int t,.int b])/\Fr M t b (f y)
 out:∀ y,y∉ks->f y=0
def HA.keep {M:Int}{f:Str->Int}(h:HA H kvs ks M f)(k:Tk H H'):HA H' kvs ks M f:=⟨h.dk,λy hy=>by
 obtain ⟨p,t,b,e1,e2,e3⟩:=h.am y hy;exact ⟨p,t,b,e1,k _ _ e2,e3⟩,h.out⟩
def HA.congr {M:Int}{f g:Str->Int}(h:HA H kvs ks M f)(e:∀ y,f y=g y):HA H kvs ks M g:=by
 have:f=g:=funext e;exact this▸h
def Fr.scale {M t b n c:Int}(h:Fr M t b n):Fr (M*c) t b (n*c):=⟨h.am,by have:=h.e;grind⟩
def HA.scale {M:Int}{f:Str->Int}(c:Int)(h:HA H kvs ks M f):HA H kvs ks (M*c) (λy=>f y*c):=⟨h.dk,λy hy=>by
 obtain ⟨p,t,b,e1,e2,e3⟩:=h.am y hy;exact ⟨p,t,b,e1,e2,Fr.scale e3⟩,λy hy=>by show f y*c=0;rw [h.out y hy,Ca]⟩
def HA.nonneg {M:Int}{f:Str->Int}(h:HA H kvs ks M f)(M0:0<M)(y:Str):0<=f y:=by
 by_cases hy:y∈ks
 ·obtain ⟨_,_,_,_,_,fr⟩:=h.am y hy
  exact fr.nonneg M0
 ·rw [h.out y hy]
  exact CM _
theorem DK.at (h:DK kvs ks){i:Nat}(hk:kvs[i]?=some kv):∃ y,ks[i]?=some y/\kv.1=As y:=by
 have:=congrArg (λl=>l[i]?) h.keys;simp only [Ah,hk,Dq] at this;cases hy:ks[i]? with
 |none=>rw [hy] at this;cases this
 |some y=>
  rw [hy] at this;exact ⟨y,rfl,AF this⟩
theorem take_snoc {ks:List Str}{i:Nat}{y:Str}(h:ks[i]?=some y):ks.take (i+1)=ks.take i++[y]:=by rw [Ci,h];rfl
def gC {ks:List Str}(nd:ks.Nodup){i:Nat}{y:Str}(h:ks[i]?=some y):y∉ks.take i:=λhm=>by
 have hi:=(Ad.mp h).1;have e:ks.take i++ks.drop i=ks:=List.take_append_drop i ks;rw [<- e] at nd;have hd:y∈ks.drop i:=by
  have:(ks.drop i)[0]?=some y:=by rw [List.getElem?_drop];simpa using h
  exact Ar this
 exact (AN.mp nd).2.2 y hm y hd rfl
theorem wU {f:Str->Int}{ks:List Str}{i:Nat}{y:Str}(h:ks[i]?=some y):((ks.take (i+1)).map f).sum=((ks.take i).map f).sum+f y:=by
 rw [take_snoc h,AC,List.sum_append];simp
theorem iW {f:Str->Int}(nn:∀ y,0<=f y):∀ (ks:List Str) (i:Nat),0<=((ks.take i).map f).sum/\((ks.take i).map f).sum<=(ks.map f).sum
 |[],i=>by simp
 |y::ks,0=>by
  have:=(iW nn ks ks.length).1;rw [Bq] at this;have:=nn y;rw [List.take_zero,Ao,BN];simp;omega
 |y::ks,i+1=>by
  have:=iW nn ks i;have:=nn y;rw [List.take_succ_cons,Ao,Ao,BN,BN];omega
theorem gH {f:Str->Int}(nn:∀ y,0<=f y):∀ {ks:List Str},y∈ks->f y<=(ks.map f).sum
 |z::ks,h=>by
  have h0:=(iW nn ks ks.length).1;rw [Bq] at h0;have hz:=nn z;rw [Ao,BN]
  rcases Ae.mp h with rfl|h
  ·omega
  ·have:=gH nn h
   omega
theorem Tk.dk (h:H a=some (.dK kvs)):Tk H (upd H a o):=λb xs e=>by
 rw [aD (λz=>by rw [z,h] at e;cases e)];exact e
def HA.put {M t b:Int}{f g:Str->Int}{r:Addr}(h:HA H kvs ks M f)(hr:H r=some (.tup [.int t,.int b]))(fr:Fr M t b (g y))(eg:∀ z,z≠y->g z=f z) :
  ∃ ks',HA H (putK kvs (As y) (.ref r)) ks' M g/\(∀ z,z∈ks'↔z∈ks\/z=y)/\ks'.length<=ks.length+1:=by
 obtain ⟨ks',d,m,l⟩:=h.dk.put y (.ref r);refine ⟨ks',⟨d,λz hz=>?_,λz hz=>?_⟩,m,l⟩
 ·rw [bZ]
  by_cases e:z=y
  ·subst e
   rw [if_pos rfl];exact ⟨r,t,b,rfl,hr,fr⟩
  ·rw [if_neg (λq=>e (BG q)),eg z e]
   exact h.am z (((m z).mp hz).elim id λq=>absurd q e)
 ·have hn:z∉ks/\z≠y:=⟨λq=>hz ((m z).mpr (.inl q)),λq=>hz ((m z).mpr (.inr q))⟩
  rw [eg z hn.2,h.out z hn.1]
structure HI (kvs:List (Key×V))(ks:List Str)(f:Str->Int):Prop where
 dk:DK kvs ks
 v:∀ y∈ks,valV kvs (As y)=some (.int (f y))
 out:∀ y,y∉ks->f y=0
def HI.congr {f g:Str->Int}(h:HI kvs ks f)(e:∀ y,f y=g y):HI kvs ks g:=by
 have:f=g:=funext e;exact this▸h
def HI.put {f g:Str->Int}(h:HI kvs ks f)(eg:∀ z,z≠y->g z=f z) :
  ∃ ks',HI (putK kvs (As y) (.int (g y))) ks' g/\(∀ z,z∈ks'↔z∈ks\/z=y)/\ks'.length<=ks.length+1:=by
 obtain ⟨ks',d,m,l⟩:=h.dk.put y (.int (g y));refine ⟨ks',⟨d,λz hz=>?_,λz hz=>?_⟩,m,l⟩
 ·rw [bZ]
  by_cases e:z=y
  ·subst e
   rw [if_pos rfl]
  ·rw [if_neg (λq=>e (BG q)),eg z e]
   exact h.v z (((m z).mp hz).elim id λq=>absurd q e)
 ·have hn:z∉ks/\z≠y:=⟨λq=>hz ((m z).mpr (.inl q)),λq=>hz ((m z).mpr (.inr q))⟩
  rw [eg z hn.2,h.out z hn.1]
theorem HI.getD {f:Str->Int}(h:HI kvs ks f)(y:Str):(valV kvs (As y)).getD (.int 0)=.int (f y):=by
 by_cases hy:y∈ks
 ·rw [h.v y hy]
  rfl
 ·have hv:valV kvs (As y)=none:=by
   cases hz:valV kvs (As y) with
   |none=>rfl
   |some _=>exact absurd ((h.dk.get y).mp (by rw [hz];rfl)) hy
  rw [hv,h.out y hy];rfl
theorem sG {kv:Key×V}:∀ {kvs:List (Key×V)},(kvs.map (·.1)).Nodup->kv∈kvs->valV kvs kv.1=some kv.2
 |p::ps,nd,h=>by
  rw [Ao] at nd;have nd':=AU.mp nd
  rcases Ae.mp h with rfl|h
  ·rw [bJ rfl]
  ·have:p.1≠kv.1:=λe=>nd'.1 (by rw [e];exact An.mpr ⟨kv,h,rfl⟩)
   rw [bE this];exact sG nd'.2 h
def DK.nodup (h:DK kvs ks):(kvs.map (·.1)).Nodup:=by
 rw [h.keys];exact CC.mpr (h.nd.imp λn e=>n (BG e))
theorem HI.vals {f:Str->Int}(h:HI kvs ks f):kvs.map (·.2)=(ks.map f).map V.int:=by
 refine List.ext_getElem? λi=>?_;rw [Ah,Ah,Ah];cases hk:kvs[i]? with
 |none=>
  have:kvs.length<=i:=List.getElem?_eq_none_iff.mp hk;rw [Cs (by rw [<- h.dk.len];exact this)];rfl
 |some kv=>
  obtain ⟨y,hy,ey⟩:=h.dk.at hk;have ev:=sG h.dk.nodup (Ar hk);rw [ey,h.v y (Ar hy)] at ev;rw [hy];exact ev.symm
def zC {M t b S m:Int}(hM:0<M)(h:Fr M t b S)(t1:1<=t)(m0:0<=m):Fr S (m*b/G (m*b) (1*t)) (1*t/G (m*b) (1*t)) (m*M):=by
 have b1:=h.am.b1;have mb:=Bu m0 (show 0<=b by omega);refine ⟨jR mb (by omega),?_⟩;have c:=fU (m*b) (1*t);have e:=h.e;generalize m*b/G (m*b) (1*t)=x at *
 generalize 1*t/G (m*b) (1*t)=y at *
 refine Bp (show b≠0 by omega) ?_
 grind
def aCx {M S t b n ts bs m:Int}(hM:0<M)(h:Fr M t b n)(k:Fr S ts bs (m*M)):Fr S (t*ts/G (t*ts) (b*bs)) (b*bs/G (t*ts) (b*bs)) (n*m):=by
 have b1:=h.am.b1;have b2:=k.am.b1;have tt:=Bu h.am.t0 k.am.t0;have bb:1<=b*bs:=by
  have:=DH b1 b2 (by decide) (by omega);omega
 refine ⟨jR tt bb,?_⟩;have c:=fU (t*ts) (b*bs);have e1:=h.e;have e2:=k.e;generalize t*ts/G (t*ts) (b*bs)=x at *
 generalize b*bs/G (t*ts) (b*bs)=y at *
 refine Bp (show b*bs≠0 by omega) ?_
 grind
def Tk.frz (h:H a=some (.frz ob (.dK kvs))):Tk H (upd H a o):=λb xs e=>by
 rw [aD (λz=>by rw [z,h] at e;cases e)];exact e
def aDq {K:Aa}{H:Hp}{a b:Addr}{xs:List V}{kvs kvs':List (Key×V)}{ob:Obj}(h:H a=some (.frz ob (.dK kvs)))(e:SqT K H b xs):SqT K (upd H a (.dK kvs')) b xs:=by
 rcases e with (e|⟨o,e⟩)|e
 ·exact .inl (.inl (by rw [aD (λz=>by rw [z,h] at e;cases e)];exact e))
 ·exact .inl (.inr ⟨o,by rw [aD (λz=>by rw [z,h] at e;cases e)];exact e⟩)
 ·exact .inr e
def jQ {H:Hp}{a:Addr}{kvs:List (Key×V)}(h:H a=some (.dK kvs)):∀ o u,H a≠some (.frz o u):=λo u z=>by rw [h] at z;cases z
def lE (K:Aa):Sp:=λvs H Q _=>∃ (d:Addr) (kvs:List (Key×V)) (ks:List Str) (M:Int) (f:Str->Int),vs=[.ref d]/\H d=some (.dK kvs)/\HA H kvs ks M f/\0<M/\Bt 2000 M/\Bt 2000 (ks.map f).sum /\
 ∀ (p:Addr) (t b:Int) H',Same H H'->SqT K H' p [.int t,.int b]->Fr M t b (ks.map f).sum->Q (.ref p) H'
structure PuIn (H:Hp)(d1 d2:Addr)(kvs1 kvs2:List (Key×V))(ks1 ks2:List Str)(M:Int)(f g:Str->Int):Prop where
 r1:H d1=some (.dK kvs1)
 r2:H d2=some (.dK kvs2)
 a1:HA H kvs1 ks1 M f
 a2:HA H kvs2 ks2 M g
 M0:0<M
 l1:ks1.length<=100
 l2:ks2.length<=100
 bM:Bt 2000 M
 b1:∀ y,Bt 2000 (f y)
 b2:∀ y,Bt 2000 (g y)
def aA1:Sp:=λvs H Q _=>∃ (d1 d2:Addr) (kvs1 kvs2:List (Key×V)) (ks1 ks2:List Str) (M:Int) (f g:Str->Int),vs=[.ref d1,.ref d2]/\PuIn H d1 d2 kvs1 kvs2 ks1 ks2 M f g /\
 ∀ d kvs ks H',Same H H'->H d=none->H' d=some (.dK kvs)->HA H' kvs ks M (λy=>f y+g y)->(∀ y,y∈ks↔y∈ks1\/y∈ks2)->ks.length<=200->Q (.ref d) H'
structure ShIn (H:Hp)(d:Addr)(kvs:List (Key×V))(ks:List Str)(M m:Int)(f:Str->Int):Prop where
 r:H d=some (.dK kvs)
 a:HA H kvs ks M f
 p:∀ y∈ks,1<=f y
 M0:0<M
 m1:1<=m
 le:m*M<=(ks.map f).sum
 l:ks.length<=100
 bM:Bt 1500 M
 bm:Bt 300 m
 bS:Bt 1500 (ks.map f).sum
structure Shd (H:Hp)(r:Addr)(ks:List Str)(M m:Int)(f:Str->Int)(dg ds:Addr)(kg kt:List (Key×V))(gs ts:List Str):Prop where
 hr:H r=some (.tup [.ref dg,.ref ds])
 hg:H dg=some (.dK kg)
 ht:H ds=some (.dK kt)
 ag:HA H kg gs (ks.map f).sum (λy=>f y*m)
 at':HA H kt ts (M*(ks.map f).sum) (λy=>f y*((ks.map f).sum-m*M))
 mg:∀ y,y∈gs↔y∈ks
 mt:∀ y,y∈ts↔y∈ks/\m*M<(ks.map f).sum
 lg:gs.length<=100
 lt:ts.length<=100
def lF (K:Aa):Sp:=λvs H Q _=>∃ (d:Addr) (kvs:List (Key×V)) (ks:List Str) (M m:Int) (f:Str->Int),vs=[.ref d,.int m]/\ShIn H d kvs ks M m f /\
 ∀ r dg ds kg kt gs ts H',Same H H'->H dg=none->H ds=none->Shd H' r ks M m f dg ds kg kt gs ts->Q (.ref r) H'
section
variable {P:AE}{w:World}{K:Aa}{mg:Str->Option Value}{base:Heap}
def lS:FnScope ["holding","found","lot"] ["holding"] (aG sTotal):=fnScOk (by decide +kernel)
def xY {f aN:Addr}{fd:Bj}(F:Fun K "total_of" "total_of" sTotal f fd)(mN:mg "NOUGHT" = some (.ref aN))(sN:∀ H:Hp,SqT K H aN [.int 0,.int 1])(cP:Cal P w K mg base CX0 3 "plus" ["one","other"] (pY K)):FnOk P w K mg base CX0 4 f fd ["holding"] (lE K):=by
 refine F.ok lS (λvs H Q E h=>?_) (λcdv A outer s H vs Q E hr h=>?_)
 ·obtain ⟨_,_,_,_,_,rfl,_⟩:=h
  rfl
 ·obtain ⟨d,kvs,ks,M,fn,rfl,hd,ha,M0,bM,bS,k⟩:=h
  refine ⟨_,(aC (aT (i:=1) lS.nd rfl (Or.inl rfl) (dY (v:=.ref aN) rfl mN rfl))
   (aC (fQ (dW Bc rfl (eI (pv 0)) (aY (i:=2) lS.nd rfl (Or.inl rfl))
    (aF (aT (i:=1) lS.nd rfl (Or.inl rfl) (aV cP hr rfl aR (aA (pv 1) (aA (aI (aO hr) (pv 0) (pv 2) (λ_ _=>rfl)) aE)))))))
   (aF (aK (pv 1))))),?_⟩
  refine cut3 ?_
  intros
  refine ⟨_,rfl,d,kvs,rfl,hd,λob=>?_⟩;have hld:(upd H d (.frz ob (.dK kvs))) d=some (.frz ob (.dK kvs)):=aB;have A1:=ha.keep (Tk.dk (o:=.frz ob (.dK kvs)) hd);have th:∀ {H':Hp},Same (upd H d (.frz ob (.dK kvs))) H'->Same H (upd H' d (.dK kvs)):=λs=>eU hd s;generalize upd H d (.frz ob (.dK kvs))=H1 at hld A1 th ⊢;have nn:=ha.nonneg M0;refine gD (λi σ H'=>∃ (g:Addr) (t b:Int) (v2:Option V),σ=[some (.ref d),some (.ref g),v2]/\SqT K H' g [.int t,.int b]/\Fr M t b ((ks.take i).map fn).sum/\Same H1 H')
   ⟨aN,0,1,none,rfl,sN _,Fr.zero,Same.refl _⟩ ?_ ?_ ?_
  ·rintro i σ H' _ ⟨_,_,_,_,rfl,_,_,s2⟩
   exact s2 _ _ hld
  ·rintro i ⟨kk,kv⟩ σ H' hkv ⟨g,t,b,v2,rfl,hg,fr,s2⟩
   obtain ⟨y,hy,ey⟩:=ha.dk.at hkv;cases ey;obtain ⟨p,t2,b2,e1,e2,f2⟩:=A1.am y (Ar hy);have gg:DGet H' d (.str y) (some (.ref p)):=by
    have:=DGet.r (k:=As y) (.inr ⟨ob,s2 _ _ hld⟩);rw [e1] at this;exact this
   have sm:=fV M0 fr;have sm2:=fV M0 f2;have tk:=iW nn ks i;have fm:=gH nn (Ar hy);have fb:=fr.am;have f2b:=f2.am;refine ⟨_,rfl,_,rfl,_,rfl,d,_,rfl,gg,g,p,t,b,t2,b2,rfl,⟨hg,s2 _ _ e2,fb.t0,fb.b1,f2b,((bS.le tk.1 tk.2).le fb.t0 sm.1).mono (by decide),(bM.le (by have:=fb.b1;omega) sm.2).mono (by decide),((bS.le (nn y) fm).le f2b.t0 sm2.1).mono (by decide),(bM.le (by have:=f2b.b1;omega) sm2.2).mono (by decide)⟩,λr H3 s3 h3=>?_⟩;refine ⟨r,_,_,_,rfl,SqT.of h3,?_,s2.trans s3⟩;rw [wU hy];exact fr.plus f2
  ·rintro σ H' ⟨g,t,b,v2,rfl,hg,fr,s2⟩
   rw [ha.dk.len,Bq] at fr;exact ⟨d,ob,kvs,s2 _ _ hld,jQ hd,_,rfl,k g t b _ (th s2) (aDq (s2 _ _ hld) hg) fr⟩
def aBd:FnScope ["one","other","found","lot"] ["one","other"] (aG sPut):=fnScOk (by decide +kernel)
def aEv {f aN:Addr}{fd:Bj}(F:Fun K "put_together" "put_together" sPut f fd)(T:Txt mg)(mN:mg "NOUGHT" = some (.ref aN))(sN:∀ H:Hp,SqT K H aN [.int 0,.int 1])(cP:Cal P w K mg base CX0 3 "plus" ["one","other"] (pY K)):FnOk P w K mg base CX0 4 f fd ["one","other"] aA1:=by
 refine F.ok aBd (λvs H Q E h=>?_) (λcdv A outer s H vs Q E hr h=>?_)
 ·obtain ⟨_,_,_,_,_,_,_,_,_,rfl,_⟩:=h
  rfl
 ·obtain ⟨d1,d2,kvs1,kvs2,ks1,ks2,M,fn,gn,rfl,B,k⟩:=h
  refine ⟨_,(aC (aT (i:=2) aBd.nd rfl (Or.inl rfl) (bP eF rfl T.dict' iJ (aA (pv 0) aE)))
   (aC (fQ (dW Bc rfl (eI (pv 1)) (aY (i:=3) aBd.nd rfl (Or.inl rfl))
    (aF (bR (aO hr) (pv 2) (pv 3) (aV cP hr rfl aR (aA (jB (aO hr) (pv 2) (pv 3) (dY (v:=.ref aN) rfl mN rfl) ⟨rfl,rfl,rfl,rfl⟩) (aA (aI (aO hr) (pv 1) (pv 3) (λ_ _=>rfl)) aE))) rfl))))
   (aF (aK (pv 2))))),?_⟩
  refine cut3 ?_
  intros
  obtain ⟨r1,r2,a1,a2,M0,l1,l2,bM,b1,b2⟩:=B;refine ⟨_,rfl,d1,kvs1,rfl,.inl r1,λd3 h3=>?_⟩;have s1:Same H (upd H d3 (.dK kvs1)):=Same.upd h3;have hd3:(upd H d3 (.dK kvs1)) d3=some (.dK kvs1):=aB;have r2':=s1 _ _ r2;refine ⟨_,rfl,d2,kvs2,rfl,r2',λob=>?_⟩;have hld:Hld d2 ob kvs2 (upd H d3 (.dK kvs1)) (upd (upd H d3 (.dK kvs1)) d2 (.frz ob (.dK kvs2))):=⟨aB,λb hb=>aD hb,.inl r2'⟩;have th:∀ b,b≠d3->b≠d2->(upd (upd H d3 (.dK kvs1)) d2 (.frz ob (.dK kvs2))) b=H b:=λb n1 n2=>by rw [aD n2,aD n1]
  generalize upd (upd H d3 (.dK kvs1)) d2 (.frz ob (.dK kvs2))=H1 at hld th ⊢;have n32:d3≠d2:=λz=>by
   subst z;rw [h3] at r2;cases r2
  have hd3':H1 d3=some (.dK kvs1):=by rw [hld.2.1 d3 n32];exact hd3
  have f1:Fz H H1:=(Fz.of s1).trans hld.fz;have A1:=a1.keep f1.tk;have A2:=a2.keep f1.tk;have nn1:=a1.nonneg M0;have nn2:=a2.nonneg M0;refine gD (λi σ H'=>∃ (kvs3:List (Key×V)) (ks3:List Str) (v3:Option V),σ=[some (.ref d1),some (.ref d2),some (.ref d3),v3]/\H' d3=some (.dK kvs3)/\HA H' kvs3 ks3 M (λy=>fn y+if y∈ks2.take i then gn y else 0)/\(∀ y,y∈ks3↔y∈ks1\/y∈ks2.take i)/\ks3.length<=ks1.length+i/\∀ b o,b≠d3->H1 b=some o->H' b=some o)
   ⟨kvs1,ks1,none,rfl,hd3',A1.congr λy=>by simp,λy=>by simp,Ak _,λ_ _ _ e=>e⟩ ?_ ?_ ?_
  ·rintro i σ H' _ ⟨_,_,_,rfl,_,_,_,_,s2⟩
   exact s2 _ _ (Au n32) hld.1
  ·rintro i ⟨kk,kv⟩ σ H' hkv ⟨kvs3,ks3,v3,rfl,h3',A3,mem,len,s2⟩
   obtain ⟨y,hy,ey⟩:=a2.dk.at hkv;cases ey;have hi:=(Ad.mp hy).1;have yn:=gC a2.dk.nd hy;obtain ⟨p2,t2,b2',e1,e2,fr2⟩:=A2.am y (Ar hy);have tk:Tk H1 H':=λb o e=>s2 _ _ (λz=>by rw [z,hd3'] at e;cases e) e;have gg:DGet H' d2 (.str y) (some (.ref p2)):=by
    have:=DGet.r (k:=As y) (.inr ⟨ob,s2 _ _ (Au n32) hld.1⟩);rw [e1] at this;exact this
   have fe:(fn y+if y∈ks2.take i then gn y else 0)=fn y:=by rw [if_neg yn];omega
   obtain ⟨p,t,b,ep,sp,fr⟩:∃ (p:Addr) (t b:Int),(valV kvs3 (As y)).getD (.ref aN)=.ref p/\SqT K H' p [.int t,.int b]/\Fr M t b (fn y):=by
    by_cases hm:y∈ks3
    ·obtain ⟨p,t,b,q1,q2,q3⟩:=A3.am y hm
     exact ⟨p,t,b,by rw [q1];rfl,SqT.of q2,by rw [<- fe];exact q3⟩
    ·have hv:valV kvs3 (As y)=none:=by
      cases hz:valV kvs3 (As y) with
      |none=>rfl
      |some _=>exact absurd ((A3.dk.get y).mp (by rw [hz];rfl)) hm
     have z0:=A3.out y hm;refine ⟨aN,0,1,by rw [hv];rfl,sN _,?_⟩;rw [<- fe,z0];exact Fr.zero
   have sm:=fV M0 fr;have sm2:=fV M0 fr2;have fb:=fr.am;have f2b:=fr2.am;refine ⟨_,rfl,d3,rfl,.inl ⟨kvs3,.inl h3'⟩,_,rfl,_,DGet.k (k:=As y) h3',?_⟩;rw [ep];refine ⟨_,rfl,_,rfl,d2,_,rfl,gg,p,p2,t,b,t2,b2',rfl,⟨sp,tk _ _ e2,fb.t0,fb.b1,f2b,((b1 y).le fb.t0 sm.1).mono (by decide),(bM.le (by have:=fb.b1;omega) sm.2).mono (by decide),((b2 y).le f2b.t0 sm2.1).mono (by decide),(bM.le (by have:=f2b.b1;omega) sm2.2).mono (by decide)⟩,λr H3 s3 hr3=>?_⟩;have h33:=s3 _ _ h3';refine ⟨_,rfl,_,rfl,d3,_,rfl,DPut.k (k:=As y) h33 (aW (by rw [A3.dk.len];omega)),?_⟩;have tk3:Tk H3 (upd H3 d3 (.dK (putK kvs3 (As y) (.ref r)))):=Tk.dk h33;obtain ⟨ks4,A4,m4,l4⟩:=(A3.keep (Same.tk s3)).put (g:=λz=>fn z+if z∈ks2.take (i+1) then gn z else 0) (y:=y) (r:=r) hr3 (by
    have:y∈ks2.take (i+1):=by rw [take_snoc hy];simp
    show Fr M _ _ (fn y+if y∈ks2.take (i+1) then gn y else 0);rw [if_pos this];exact fr.plus fr2) (λz hz=>by
    show (fn z+if z∈ks2.take (i+1) then gn z else 0)=fn z+if z∈ks2.take i then gn z else 0;have:z∈ks2.take (i+1)↔z∈ks2.take i:=by rw [take_snoc hy];simp [hz]
    simp only [this])
   refine ⟨_,ks4,_,rfl,aB,A4.keep tk3,λz=>?_,by omega,λb' o nb e=>?_⟩
   ·rw [m4,mem,take_snoc hy]
    simp [or_assoc]
   ·rw [aD nb]
    exact s3 _ _ (s2 _ _ nb e)
  ·rintro σ H' ⟨kvs3,ks3,v3,rfl,h3',A3,mem,len,s2⟩
   rw [a2.dk.len,Bq] at A3 mem;rw [a2.dk.len] at len;have hd2:=s2 _ _ (Au n32) hld.1;have tk2:Tk H' (upd H' d2 (.dK kvs2)):=Tk.frz hd2;refine ⟨d2,ob,kvs2,hd2,jQ r2,_,rfl,k d3 kvs3 ks3 _ (λb o e=>?_) h3 (by rw [aD n32];exact h3') ((A3.keep tk2).congr λy=>?_) mem (by omega)⟩
   ·by_cases z:b=d2
    ·subst z
     rw [r2] at e;cases e;exact aB
    ·rw [aD z]
     have nb:b≠d3:=λz=>by rw [z,h3] at e;cases e
     exact s2 _ _ nb (by rw [th b nb z];exact e)
   ·by_cases hy:y∈ks2
    ·rw [if_pos hy]
    ·rw [if_neg hy,a2.out y hy]
def gA:FnScope ["holding","many","share","goes","stays","lot","left"] ["holding","many"] (aG sShared):=fnScOk (by decide +kernel)
def uE {f aN:Addr}{fd:Bj}(F:Fun K "shared" "shared" sShared f fd)(mN:mg "NOUGHT" = some (.ref aN))(sN:∀ H:Hp,SqT K H aN [.int 0,.int 1])(cT:Cal P w K mg base CX0 4 "total_of" ["holding"] (lE K))(cO:Cal P w K mg base CX0 4 "over" ["one","other"] (sW K))
  (cI:Cal P w K mg base CX0 4 "times" ["one","other"] (oR K)) (cM:Cal P w K mg base CX0 4 "minus" ["one","other"] (oU K)):FnOk P w K mg base CX0 5 f fd ["holding","many"] (lF K):=by
 refine F.ok gA (λvs H Q E h=>?_) (λcdv A outer s H vs Q E hr h=>?_)
 ·obtain ⟨_,_,_,_,_,_,rfl,_⟩:=h
  rfl
 ·obtain ⟨d,kvs,ks,M,m,fn,rfl,B,k⟩:=h
  refine ⟨_,(aC (aT (i:=2) gA.nd rfl (Or.inl rfl) (aV cO hr rfl aR (aA (bF (aA (pv 1) (aA aH aE))) (aA (aV cT hr rfl aR (aA (pv 0) aE)) aE))))
   (aC (aT (i:=3) gA.nd rfl (Or.inl rfl) bW)
   (aC (aT (i:=4) gA.nd rfl (Or.inl rfl) bW)
   (aC (fQ (dW Bc rfl (eI (pv 0)) (aY (i:=5) gA.nd rfl (Or.inl rfl))
    (aC (bR (aO hr) (pv 3) (pv 5) (aV cI hr rfl aR (aA (aI (aO hr) (pv 0) (pv 5) (λ_ _=>rfl)) (aA (pv 2) aE))) rfl)
    (aC (aT (i:=6) gA.nd rfl (Or.inl rfl) (aV cM hr rfl aR (aA (aI (aO hr) (pv 0) (pv 5) (λ_ _=>rfl)) (aA (aI (aO hr) (pv 3) (pv 5) (λ_ _=>rfl)) aE))))
    (aF (bC (aP (aEn hr.units) (pv 6) (dY (v:=.ref aN) rfl mN rfl) (aU _))
     (aF (bR (aO hr) (pv 4) (pv 5) (pv 6) rfl))
     aQ))))))
   (aF (aK (bF (aA (pv 3) (aA (pv 4) aE))))))))),?_⟩
  refine cut5 ?_
  intros
  obtain ⟨r0,a0,pos,M0,m1,le,l0,bM,bm,bS⟩:=B;have nn:=a0.nonneg M0;have mM:0<m*M:=Int.mul_pos (by omega) M0;have S0:0<(ks.map fn).sum:=by omega
  refine ⟨_,rfl,(show 2<=AB by decide +kernel),λz hz=>?_⟩;have s1:Same H (upd H z (.tup [.int m,.int 1])):=Same.upd hz;refine ⟨_,rfl,d,kvs,ks,M,fn,rfl,s1 _ _ r0,a0.keep (Same.tk s1),M0,bM.mono (by decide),bS.mono (by decide),λp t b H2 fz2 sp fr=>?_⟩;have sm:=fV M0 fr;have fb:=fr.am;have t1:1<=t:=by
   have h0:=fb.t0;have:t≠0:=λz=>by have:=(fr.nought M0).mpr z;omega
   omega
  have bt:Bt 1500 t:=bS.le fb.t0 sm.1;have bb:Bt 1500 b:=bM.le (by have:=fb.b1;omega) sm.2;have hz2:=fz2 _ _ (aB (H:=H) (a:=z) (o:=.tup [.int m,.int 1]));refine ⟨z,p,m,1,t,b,rfl,⟨SqT.of hz2,sp,mW (by omega),fb,bm.mono (by decide),(eE 2 (c:=2) (by decide) (by decide)).mono (by decide),bt.mono (by decide),bb.mono (by decide)⟩,t1,λq H3 s3 hq=>?_⟩;have frs:=zC M0 fr t1 (show 0<=m by omega);generalize m*b/G (m*b) (1*t)=ts at hq frs;generalize 1*t/G (m*b) (1*t)=bs at hq frs;have sms:=fV S0 frs;have bts:Bt 1800 ts:=(bm.mul bM).le frs.am.t0 sms.1;have bbs:Bt 1500 bs:=bS.le (by have:=frs.am.b1;omega) sms.2;have f3:Same H H3:=(s1.trans fz2).trans s3;intro dg hdg;have s4:Same H3 (upd H3 dg (.dK [])):=Same.upd hdg;intro ds hds;have s5:Same (upd H3 dg (.dK [])) (upd (upd H3 dg (.dK [])) ds (.dK [])):=Same.upd hds;have ngs:dg≠ds:=λz=>by rw [<- z,aB] at hds;cases hds
  have hg5:(upd (upd H3 dg (.dK [])) ds (.dK [])) dg=some (.dK []):=s5 _ _ aB;have ht5:(upd (upd H3 dg (.dK [])) ds (.dK [])) ds=some (.dK []):=aB;have hq5:=s5 _ _ (s4 _ _ hq);have f5:Same H (upd (upd H3 dg (.dK [])) ds (.dK [])):=f3.trans (s4.trans s5);have r5:=f5 _ _ r0;have dg0:H dg=none:=same_none f3 hdg;have ds0:H ds=none:=same_none (f3.trans s4) hds;have nH:∀ {x:Addr} {o:HO},H3 x=some o->x≠dg/\x≠ds:=λ{x o} e=>⟨(λz=>by rw [z,hdg] at e;cases e),(λz=>by
   have:=s4 _ _ e;rw [z,hds] at this;cases this)⟩
  have nd:d≠dg/\d≠ds:=nH (f3 _ _ r0);have nq:=nH hq;have old:∀ x o,H x=some o->x≠dg/\x≠ds:=λx o e=>nH (f3 x o e);clear s4 s5 hq hdg hds nH;generalize upd (upd H3 dg (.dK [])) ds (.dK [])=H5 at hg5 ht5 hq5 f5 r5;refine ⟨_,rfl,d,kvs,rfl,r5,λob=>?_⟩;have hld:Hld d ob kvs H5 (upd H5 d (.frz ob (.dK kvs))):=⟨aB,λb hb=>aD hb,.inl r5⟩;generalize upd H5 d (.frz ob (.dK kvs))=H6 at hld ⊢;have f6:∀ b o,b≠d->H b=some o->H6 b=some o:=λb o n e=>by rw [hld.2.1 b n];exact f5 _ _ e
  have A6:=a0.keep (λb xs e=>f6 b _ (λz=>by rw [z,r0] at e;cases e) e);have hg6:H6 dg=some (.dK []):=by rw [hld.2.1 dg (Au nd.1)];exact hg5
  have ht6:H6 ds=some (.dK []):=by rw [hld.2.1 ds (Au nd.2)];exact ht5
  have hq6:=hld.fz.at hq5 λ_ z=>by cases z
  clear hg5 ht5 hq5 f5 r5;refine gD (λi σ H'=>∃ (kg kt:List (Key×V)) (gs ts':List Str) (v5 v6:Option V),σ=[some (.ref d),some (.int m),some (.ref q),some (.ref dg),some (.ref ds),v5,v6]/\H' dg=some (.dK kg)/\H' ds=some (.dK kt) /\
    HA H' kg gs (ks.map fn).sum (λy=>if y∈ks.take i then fn y*m else 0)/\HA H' kt ts' (M*(ks.map fn).sum) (λy=>if y∈ks.take i then fn y*((ks.map fn).sum-m*M) else 0) /\
    (∀ y,y∈gs↔y∈ks.take i)/\(∀ y,y∈ts'↔y∈ks.take i/\m*M<(ks.map fn).sum)/\gs.length<=i/\ts'.length<=i/\∀ b o,b≠dg->b≠ds->H6 b=some o->H' b=some o)
   ⟨[],[],[],[],none,none,rfl,hg6,ht6,⟨.nil,(λ_ h=>nomatch h),λy _=>by simp⟩,⟨.nil,(λ_ h=>nomatch h),λy _=>by simp⟩,λy=>by simp,λy=>by simp,Ak _,Ak _,λ_ _ _ _ e=>e⟩ ?_ ?_ ?_
  ·rintro i σ H' _ ⟨_,_,_,_,_,_,rfl,_,_,_,_,_,_,_,_,s2⟩
   exact s2 _ _ nd.1 nd.2 hld.1
  ·rintro i ⟨kk,kv⟩ σ H' hkv ⟨kg,kt,gs,ts',v5,v6,rfl,hg,ht,AG,AT,mG,mT,lG,lT,s2⟩
   obtain ⟨y,hy,ey⟩:=a0.dk.at hkv;cases ey;have hi:=(Ad.mp hy).1;have yn:=gC a0.dk.nd hy;have ym:=Ar hy;have yi:y∈ks.take (i+1):=by rw [take_snoc hy];simp
   have yo:∀ z,z≠y->(z∈ks.take (i+1)↔z∈ks.take i):=λz hz=>by rw [take_snoc hy];simp [hz]
   obtain ⟨p1,t1',b1',e1,e2,fr1⟩:=A6.am y ym;have tk:Tk H6 H':=λb o e=>s2 _ _ (λz=>by rw [z,hg6] at e;cases e) (λz=>by rw [z,ht6] at e;cases e) e;have hd':=s2 _ _ nd.1 nd.2 hld.1;have gget:∀ {X:Hp},X d=some (.frz ob (.dK kvs))->DGet X d (.str y) (some (.ref p1)):=λ{X} e=>by
    have:=DGet.r (k:=As y) (.inr ⟨ob,e⟩);rw [e1] at this;exact this
   have sm1:=fV M0 fr1;have fb1:=fr1.am;have fy:=gH nn ym;have bf:Bt 1500 (fn y):=bS.le (nn y) fy;have bt1:Bt 1500 t1':=bf.le fb1.t0 sm1.1;have bb1:Bt 1500 b1':=bM.le (by have:=fb1.b1;omega) sm1.2;refine ⟨_,rfl,_,rfl,d,_,rfl,gget hd',_,rfl,p1,q,t1',b1',ts,bs,rfl,⟨SqT.of (tk _ _ e2),SqT.of (tk _ _ hq6),fb1,frs.am,bt1.mono (by decide),bb1.mono (by decide),bts.mono (by decide),bbs.mono (by decide)⟩,λg1 H7 s7 hg1=>?_⟩;have frg:=aCx M0 fr1 frs;generalize t1'*ts/G (t1'*ts) (b1'*bs)=tg at hg1 frg;generalize b1'*bs/G (t1'*ts) (b1'*bs)=bg at hg1 frg;have hg7:=s7 _ _ hg;refine ⟨_,rfl,_,rfl,dg,_,rfl,DPut.k (k:=As y) hg7 (aW (by rw [AG.dk.len];omega)),?_⟩;have tk7:Tk H7 (upd H7 dg (.dK (putK kg (As y) (.ref g1)))):=Tk.dk hg7;obtain ⟨gs',AG',mG',lG'⟩:=(AG.keep (Same.tk s7)).put (g:=λz=>if z∈ks.take (i+1) then fn z*m else 0) (y:=y) (r:=g1) hg1 (by
    show Fr _ _ _ (if y∈ks.take (i+1) then fn y*m else 0);rw [if_pos yi];exact frg) (λz hz=>by
    show (if z∈ks.take (i+1) then fn z*m else 0)=if z∈ks.take i then fn z*m else 0;simp only [yo z hz])
   have hg8:(upd H7 dg (.dK (putK kg (As y) (.ref g1)))) dg=some (.dK (putK kg (As y) (.ref g1))):=aB;have ht8:(upd H7 dg (.dK (putK kg (As y) (.ref g1)))) ds=some (.dK kt):=by rw [aD (Au ngs)];exact s7 _ _ ht
   have hd8:(upd H7 dg (.dK (putK kg (As y) (.ref g1)))) d=some (.frz ob (.dK kvs)):=by rw [aD nd.1];exact s7 _ _ hd'
   have AG8:=AG'.keep tk7;have AT8:=(AT.keep (Same.tk s7)).keep tk7;have hg18:=tk7 _ _ hg1;have e28:=tk7 _ _ (s7 _ _ (tk _ _ e2));have s28:∀ b o,b≠dg->b≠ds->H6 b=some o->(upd H7 dg (.dK (putK kg (As y) (.ref g1)))) b=some o:=λb o n1 n2 e=>by rw [aD n1];exact s7 _ _ (s2 _ _ n1 n2 e)
   have eg:valV (putK kg (As y) (.ref g1)) (As y)=some (.ref g1):=by rw [bZ,if_pos rfl]
   clear tk7 hg7 AG' s2 hd' tk AG AT hg ht;generalize upd H7 dg (.dK (putK kg (As y) (.ref g1)))=H8 at *
   have gg8:DGet H8 dg (.str y) (some (.ref g1)):=by
    have:=DGet.k (k:=As y) hg8;rw [eg] at this;exact this
   have smg:=fV S0 frg;have btg:Bt 1800 tg:=(bf.mul bm).le frg.am.t0 smg.1;have bbg:Bt 1500 bg:=bS.le (by have:=frg.am.b1;omega) smg.2;have le':fn y*m*M<=fn y*(ks.map fn).sum:=by
    rw [Cv];exact Int.mul_le_mul_of_nonneg_left le (nn y)
   obtain ⟨lm,frl⟩:=zD M0 S0 fr1 frg le';refine ⟨_,rfl,_,rfl,d,_,rfl,gget hd8,_,rfl,_,rfl,dg,_,rfl,gg8,p1,g1,t1',b1',tg,bg,rfl,⟨SqT.of e28,SqT.of hg18,fb1,frg.am,bt1.mono (by decide),bb1.mono (by decide),btg.mono (by decide),bbg.mono (by decide)⟩,lm,λl1 H9 s9 hl1=>?_⟩;generalize (t1'*bg-tg*b1')/G (t1'*bg-tg*b1') (b1'*bg)=tl at hl1 frl;generalize b1'*bg/G (t1'*bg-tg*b1') (b1'*bg)=bl' at hl1 frl;have MS0:0<M*(ks.map fn).sum:=Int.mul_pos M0 S0;have en:fn y*(ks.map fn).sum-fn y*m*M=fn y*((ks.map fn).sum-m*M):=by grind
   rw [en] at frl;have z0:=frl.nought MS0;have py:=pos y ym;have zz:tl=0↔¬ m*M<(ks.map fn).sum:=by
    rw [<- z0];constructor
    ·intro z
     rcases Int.mul_eq_zero.mp z with z|z<;>omega
    ·intro z
     have:(ks.map fn).sum-m*M=0:=by omega
     rw [this,Int.mul_zero]
   refine ⟨_,rfl,l1,aN,[tl,bl'],[0,1],rfl,rfl,SqT.of hl1,sN _,_,rfl,ite2 (λhc=>?_) (λhc=>?_)⟩
   ·have lt:m*M<(ks.map fn).sum:=by
     by_cases q:m*M<(ks.map fn).sum
     ·exact q
     ·exfalso
      have t0:=zz.mpr q;have am:=frl.am;rw [t0] at am;have hb:bl'=1:=by
       have g:=am.g;unfold G at g;have b1:=am.b1;simp at g;omega
      have e2:decide ([tl,bl']=[0,1])=true:=decide_eq_true (by rw [t0,hb]);exact absurd ((congrArg (!·) e2).symm.trans hc) (by decide)
    have ht9:=s9 _ _ ht8;refine ⟨_,rfl,_,rfl,_,rfl,ds,_,rfl,DPut.k (k:=As y) ht9 (aW (by rw [AT8.dk.len];omega)),?_⟩;have tk9:Tk H9 (upd H9 ds (.dK (putK kt (As y) (.ref l1)))):=Tk.dk ht9;obtain ⟨ts2,AT',mT',lT'⟩:=(AT8.keep (Same.tk s9)).put (g:=λz=>if z∈ks.take (i+1) then fn z*((ks.map fn).sum-m*M) else 0) (y:=y) (r:=l1) hl1 (by
     show Fr _ _ _ (if y∈ks.take (i+1) then fn y*((ks.map fn).sum-m*M) else 0);rw [if_pos yi];exact frl) (λz hz=>by
     show (if z∈ks.take (i+1) then fn z*((ks.map fn).sum-m*M) else 0)=if z∈ks.take i then fn z*((ks.map fn).sum-m*M) else 0;simp only [yo z hz])
    refine ⟨_,_,gs',ts2,_,_,rfl,by rw [aD ngs];exact s9 _ _ hg8,aB,(AG8.keep (Same.tk s9)).keep tk9,AT'.keep tk9,λz=>?_,λz=>?_,by omega,by omega,λb o n1 n2 e=>by rw [aD n2];exact s9 _ _ (s28 _ _ n1 n2 e)⟩
    ·rw [mG',mG,take_snoc hy]
     simp
    ·rw [mT',mT,take_snoc hy]
     simp;constructor
     ·rintro (q|q)
      ·exact ⟨.inl q.1,q.2⟩
      ·exact ⟨.inr q,lt⟩
     ·rintro ⟨q|q,_⟩
      ·exact .inl ⟨q,lt⟩
      ·exact .inr q
   ·have nlt:¬ m*M<(ks.map fn).sum:=λq=>hc (by
     have:tl≠0:=λz=>zz.mp z q;have e2:decide ([tl,bl']=[0,1])=false:=decide_eq_false λz=>this (by injection z);show (!decide ([tl,bl']=[0,1]))=true;rw [e2];rfl)
    have c0:(ks.map fn).sum-m*M=0:=by omega
    refine ⟨_,_,gs',ts',_,_,rfl,s9 _ _ hg8,s9 _ _ ht8,AG8.keep (Same.tk s9),(AT8.keep (Same.tk s9)).congr λz=>?_,λz=>?_,λz=>?_,by omega,by omega,λb o n1 n2 e=>s9 _ _ (s28 _ _ n1 n2 e)⟩
    ·rw [c0,Int.mul_zero]
     simp
    ·rw [mG',mG,take_snoc hy]
     simp
    ·rw [mT]
     constructor
     ·exact λq=>absurd q.2 nlt
     ·exact λq=>absurd q.2 nlt
  ·rintro σ H' ⟨kg,kt,gs,ts',v5,v6,rfl,hg,ht,AG,AT,mG,mT,lG,lT,s2⟩
   rw [a0.dk.len] at lG lT AG AT mG mT;rw [Bq] at mG mT AG AT;have hd7:=s2 _ _ nd.1 nd.2 hld.1;have tk7:Tk H' (upd H' d (.dK kvs)):=Tk.frz hd7;have sF:Same H (upd H' d (.dK kvs)):=λb o e=>by
    by_cases z:b=d
    ·subst z
     rw [r0] at e;cases e;exact aB
    ·rw [aD z]
     exact s2 _ _ (old b o e).1 (old b o e).2 (f6 b o z e)
   have hg':(upd H' d (.dK kvs)) dg=some (.dK kg):=by rw [aD (Au nd.1)];exact hg
   have ht':(upd H' d (.dK kvs)) ds=some (.dK kt):=by rw [aD (Au nd.2)];exact ht
   have AG':=AG.keep tk7;have AT':=AT.keep tk7;refine ⟨d,ob,kvs,hd7,jQ r0,?_⟩;generalize upd H' d (.dK kvs)=H9 at *
   refine ⟨_,rfl,_,rfl,(show 2<=AB by decide +kernel),λr hr'=>?_⟩;have sR:Same H9 (upd H9 r (.tup [.ref dg,.ref ds])):=Same.upd hr';exact k r dg ds kg kt gs ts' _ (sF.trans sR) dg0 ds0 ⟨aB,sR _ _ hg',sR _ _ ht',(AG'.keep (Same.tk sR)).congr λy=>(by
    by_cases q:y∈ks
    ·simp [q]
    ·simp [q,a0.out y q]),(AT'.keep (Same.tk sR)).congr λy=>(by
    by_cases q:y∈ks
    ·simp [q]
    ·simp [q,a0.out y q]),mG,mT,by omega,by omega⟩
end
def flds (dl dt db:Addr)(day:Int):List (Str×V):=[("deeds",.ref dl),("things",.ref dt),("day",.int day),("before",.ref db)]
section
variable {dl dt db:Addr}{day y:Int}
def aCy:putF "before" (.ref db) (putF "day" (.int day) (putF "things" (.ref dt) (putF "deeds" (.ref dl) [])))=flds dl dt db day:=by kernel_rfl
def dI:(flds dl dt db day).lookup ("deeds":Str)=some (V.ref dl):=by kernel_rfl
def aZ:(flds dl dt db day).lookup ("things":Str)=some (V.ref dt):=by kernel_rfl
def jE:(flds dl dt db day).lookup ("day":Str)=some (V.int day):=by kernel_rfl
def kE:(flds dl dt db day).lookup ("before":Str)=some (V.ref db):=by kernel_rfl
def qW:putF "day" (.int y) (flds dl dt db day)=flds dl dt db y:=by kernel_rfl
end
structure Bk (C:Addr)(H:Hp)(p dl dt db:Addr)(bs:List V)(kvs:List (Key×V))(day:Int)(bf:List V):Prop where
 ob:∃ dx,H p=some (.ins C dx (flds dl dt db day))
 hl:H dl=some (.lst bs)
 ht:H dt=some (.dK kvs)
 hb:H db=some (.lst bf)
 ne:dl≠db
def Out (p dl dt db b:Addr):Prop:=b≠p/\b≠dl/\b≠dt/\b≠db
def Kp (p dl dt db:Addr)(H H':Hp):Prop:=∀ b o,Out p dl dt db b->H b=some o->H' b=some o
section
variable {C:Addr}{H H' H'':Hp}{p dl dt db:Addr}{bs:List V}{kvs:List (Key×V)}{day:Int}{bf:List V}
def Kp.of (s:Same H H'):Kp p dl dt db H H':=λb o _ e=>s b o e
theorem Kp.trans (h:Kp p dl dt db H H')(k:Kp p dl dt db H' H''):Kp p dl dt db H H'':=λb o u e=>k b o u (h b o u e)
def Bk.keep (B:Bk C H p dl dt db bs kvs day bf)(s:Same H H'):Bk C H' p dl dt db bs kvs day bf:=by
 obtain ⟨⟨dx,h⟩,h1,h2,h3,n⟩:=B;exact ⟨⟨dx,s _ _ h⟩,s _ _ h1,s _ _ h2,s _ _ h3,n⟩
theorem Bk.out (B:Bk C H p dl dt db bs kvs day bf)(h:H b=some (.tup xs)):Out p dl dt db b:=by
 obtain ⟨⟨dx,h0⟩,h1,h2,h3,n⟩:=B;exact ⟨fJ h h0 (by intro z;cases z),fJ h h1 (by intro z;cases z),fJ h h2 (by intro z;cases z),fJ h h3 (by intro z;cases z)⟩
def Bk.tk (B:Bk C H p dl dt db bs kvs day bf)(k:Kp p dl dt db H H'):Tk H H':=λb xs h=>k b _ (B.out h) h
def Bk.outN (B:Bk C H p dl dt db bs kvs day bf)(h:H b=none):Out p dl dt db b:=by
 obtain ⟨⟨dx,h0⟩,h1,h2,h3,n⟩:=B;exact ⟨(λz=>by rw [z,h0] at h;cases h),(λz=>by rw [z,h1] at h;cases h),(λz=>by rw [z,h2] at h;cases h),(λz=>by rw [z,h3] at h;cases h)⟩
end
structure Cl (K:Aa)(mg:Str->Option Value)(C:Addr):Prop where
 cl:Cls K C
 nE:NoAttr K C "deeds"
 nT:NoAttr K C "things"
 nD:NoAttr K C "day"
 nB:NoAttr K C "before"
def qA (C:Addr):Sp:=λvs H Q _=>∃ (p dx:Addr),vs=[.ref p]/\H p=some (.ins C dx [])/\∀ dl dt db H',H dl=none->H dt=none->H db=none->Bk C H' p dl dt db [] [] 0 []->(∀ b o,H b=some o->b≠p->H' b=some o)->Q .non H'
def gP (k:List (Key×V))(e:Str×Option V):List (Key×V):=match e.2 with
 |none=>iH k (.inr e.1)
 |some v=>putK k (.inr e.1) v
def undo (kvs:List (Key×V))(ns:List (Str×Option V)):List (Key×V):=ns.foldl gP kvs
structure BfN (H H':Hp)(bf bf':List V)(kvs:List (Key×V))(day:Int)(kvs':List (Key×V)):Prop where
 ex:∃ t l cs ns,bf'=bf++[.ref t]/\H' t=some (.tup [.ref l,.int day])/\H' l=some (.lst (cs.map V.ref))/\H l=none/\Paired (λc (e:Str×Option V)=>H' c=some (.tup [.str e.1,e.2.getD .non])) cs ns/\(∀ e∈ns,∀ v,e.2=some v->∃ a,v=.ref a)/\undo kvs' ns=kvs/\ns.length<=2/\(∀ e∈ns,(valV kvs' (.inr e.1)).isSome=true)/\(ns.map (·.1)).Nodup
theorem BfN.len {day:Int}(h:BfN H H' bf bf' kvs day kvs'):bf'.length=bf.length+1:=by
 obtain ⟨t,l,cs,ns,e,_⟩:=h.ex;rw [e,Az];rfl
theorem BfN.from {day:Int}(h:BfN H H' bf bf' kvs day kvs')(f:∀ b,H b=none->H0 b=none):BfN H0 H' bf bf' kvs day kvs':=by
 obtain ⟨t,l,cs,ns,e1,e2,e3,e4,r⟩:=h.ex;exact ⟨t,l,cs,ns,e1,e2,e3,f l e4,r⟩
theorem BfN.upd {day:Int}(h:BfN H H' bf bf' kvs day kvs'){fs fs':List (Str×V)}(e:H' x=some (.ins C dx fs)):BfN H (L2.upd H' x (.ins C dx fs')) bf bf' kvs day kvs':=by
 obtain ⟨t,l,cs,ns,e1,e2,e3,e4,e5,r⟩:=h.ex;have ne:∀ {b:Addr} {o:HO},H' b=some o->(∀ C dx fs,o≠.ins C dx fs)->(L2.upd H' x (.ins C dx fs')) b=some o:=λ{b o} q n=>by
  rw [aD (λz=>by rw [z,e] at q;exact n _ _ _ (AF q).symm)];exact q
 exact ⟨t,l,cs,ns,e1,ne e2 (λ_ _ _ z=>by cases z),ne e3 (λ_ _ _ z=>by cases z),e4,bG (λ_ _ q=>ne q (λ_ _ _ z=>by cases z)) e5,r⟩
def Mor (kvs more:List (Key×V)):Prop:=more=[]\/(∃ (x:Str) (v:V),more=[(.inr x,v)])\/∃ (x y:Str) (v w:V),more=[(.inr x,v),(.inr y,w)]/\x≠y/\(valV kvs (.inr x)).isSome=true
theorem fP {k:Key}(h:valV kvs k=some u):putK kvs k v=kvs.map (λkv=>if kv.1=k then (kv.1,v) else kv):=by
 unfold putK;rw [dJ,h];exact if_pos rfl
theorem pR {k:Key}:∀ {kvs:List (Key×V)},(kvs.map (·.1)).Nodup->valV kvs k=some u->∀ kv∈kvs,kv.1=k->kv=(k,u)
 |[],_,h,_,m,_=>nomatch m
 |a::kvs,nd,h,kv,m,e=>by
  rw [Ao,AU] at nd
  by_cases q:a.1=k
  ·rw [bJ q] at h
   rcases Ae.mp m with rfl|m
   ·exact Prod.ext e (AF h)
   ·exact absurd (by rw [q,<- e];exact Ai m) nd.1
  ·rw [bE q] at h
   rcases Ae.mp m with rfl|m
   ·exact absurd e q
   ·exact pR nd.2 h kv m e
theorem qL {k:Key}(nd:(kvs.map (·.1)).Nodup)(h:valV kvs k=some u):putK (putK kvs k v) k u=kvs:=by
 have e1:=fP (v:=v) h;have h2:valV (putK kvs k v) k=some v:=by rw [bZ,if_pos rfl]
 rw [fP (v:=u) h2,e1,Bh];refine (BV λkv m=>?_).trans (List.map_id _);show (if (if kv.1=k then (kv.1,v) else kv).1=k then ((if kv.1=k then (kv.1,v) else kv).1,u) else (if kv.1=k then (kv.1,v) else kv))=kv
 by_cases q:kv.1=k
 ·rw [if_pos q]
  show (if kv.1=k then (kv.1,u) else (kv.1,v))=kv;rw [if_pos q];have:=pR nd h kv m q;rw [this]
 ·rw [if_neg q,if_neg q]
def vR {k:Key}(h:valV kvs k=none):iH (kvs++[(k,v)]) k=kvs:=by
 unfold iH;rw [Ct,List.filter_eq_self.mpr λkv m=>?_]
 ·simp
 ·refine decide_eq_true λq=>?_
  have:(kvs.any λkv=>decide (kv.1=k))=true:=List.any_eq_true.mpr ⟨kv,m,decide_eq_true q⟩;rw [dJ,h] at this;cases this
theorem xM {j k:Key}(ne:j≠k)(h:valV kvs j=some u):putK (putK (putK kvs j v) k w) j u=putK (putK (putK kvs j v) j u) k w:=by
 have h1:valV (putK kvs j v) j=some v:=by rw [bZ,if_pos rfl]
 have h2:valV (putK (putK kvs j v) k w) j=some v:=by rw [bZ,if_neg ne,h1]
 rw [fP (v:=u) h2,fP (v:=u) h1];cases hk:valV (putK kvs j v) k with
 |none=>
  have hk':valV ((putK kvs j v).map λkv=>if kv.1=j then (kv.1,u) else kv) k=none:=by rw [<- fP (v:=u) h1,bZ,if_neg (Au ne),hk]
  rw [cH w hk,cH w hk',AC]
  congr 1
  show [if k=j then (k,u) else (k,w)]=[(k,w)];rw [if_neg (Au ne)]
 |some x=>
  have hk':valV ((putK kvs j v).map λkv=>if kv.1=j then (kv.1,u) else kv) k=some x:=by rw [<- fP (v:=u) h1,bZ,if_neg (Au ne),hk]
  rw [fP (v:=w) hk,fP (v:=w) hk',Bh,Bh];refine BV λkv _=>?_;show (if (if kv.1=k then (kv.1,w) else kv).1=j then ((if kv.1=k then (kv.1,w) else kv).1,u) else (if kv.1=k then (kv.1,w) else kv))=(if (if kv.1=j then (kv.1,u) else kv).1=k then ((if kv.1=j then (kv.1,u) else kv).1,w) else (if kv.1=j then (kv.1,u) else kv))
  by_cases a:kv.1=k
  ·have b:¬ kv.1=j:=λq=>ne (q.symm.trans a)
   simp only [if_pos a,if_neg b]
  ·by_cases b:kv.1=j
   ·simp only [if_neg a,if_pos b]
   ·simp only [if_neg a,if_neg b]
def pT (nd:(kvs.map (·.1)).Nodup):gP (putK kvs (.inr x) v) (x,valV kvs (.inr x))=kvs:=by
 unfold gP;cases h:valV kvs (.inr x) with
 |none=>
  show iH (putK kvs (.inr x) v) (.inr x)=kvs;rw [cH v h];exact vR h
 |some u=>exact qL nd h
def befO (kvs:List (Key×V))(kv:Key×V):Str×Option V:=(match kv.1 with|.inr x=>x|.inl _=>"",valV kvs kv.1)
def sH {kvs more:List (Key×V)}(nd:(kvs.map (·.1)).Nodup)(m:Mor kvs more):undo (dA kvs more) (more.map (befO kvs))=kvs:=by
 rcases m with rfl|⟨x,v,rfl⟩|⟨x,y,v,w,rfl,ne,hs⟩
 ·rfl
 ·exact pT nd
 ·obtain ⟨u,hu⟩:=Dj.mp hs
  show gP (gP (putK (putK kvs (.inr x) v) (.inr y) w) (x,valV kvs (.inr x))) (y,valV kvs (.inr y))=kvs;have ne':(As x:Key)≠As y:=λq=>ne (BG q);rw [hu];show gP (putK (putK (putK kvs (.inr x) v) (.inr y) w) (.inr x) u) (y,valV kvs (.inr y))=kvs;rw [xM ne' hu,qL nd hu];exact pT nd
theorem aC3 (e:kv.1=.inr y):befO kvs kv=(y,valV kvs (.inr y)):=by
 unfold befO;rw [e]
theorem aD8 :∀ {ys:List V} {ns:List (Str×Option V)},ys.length=ns.length->(∀ (j:Nat) y,ys[j]?=some y->∃ c e,y=.ref c/\ns[j]?=some e/\Pr c e)->∃ cs:List Addr,ys=cs.map V.ref/\Paired Pr cs ns
 |[],[],_,_=>⟨[],rfl,.nil⟩
 |[],_::_,h,_=>by simp at h
 |_::_,[],h,_=>by simp at h
 |y::ys,w::ws,l,h=>by
  obtain ⟨q,w',rfl,hw,hq⟩:=h 0 y rfl;simp at hw;subst hw;obtain ⟨cs,e,p⟩:=aD8 (ys:=ys) (ns:=ws) (by simpa using l) λj y hj=>by
   obtain ⟨c,e,h1,h2,h3⟩:=h (j+1) y (by simpa using hj);exact ⟨c,e,h1,by simpa using h2,h3⟩
  exact ⟨q::cs,by rw [e];rfl,.cons hq p⟩
theorem zN {k:Key}:∀ {kvs:List (Key×V)},valV kvs k=some v->∃ kv∈kvs,kv.2=v
 |[],h=>by cases h
 |a::kvs,h=>by
  by_cases q:a.1=k
  ·rw [bJ q] at h
   exact ⟨a,AO,AF h⟩
  ·rw [bE q] at h
   obtain ⟨kv,m,e⟩:=zN h;exact ⟨kv,AL _ m,e⟩
def yP {kvs more:List (Key×V)}(m:Mor kvs more):∀ e∈more.map (befO kvs),(valV (dA kvs more) (.inr e.1)).isSome=true:=by
 rcases m with rfl|⟨x,v,rfl⟩|⟨x,y,v,w,rfl,ne,hs⟩
 ·intro e h;cases h
 ·intro e h
  rw [Am.mp h];show (valV (putK kvs (.inr x) v) (.inr x)).isSome=true;rw [bZ,if_pos rfl];rfl
 ·intro e h
  show (valV (putK (putK kvs (.inr x) v) (.inr y) w) (.inr e.1)).isSome=true;rw [bZ];split
  ·rfl
  ·rename_i q
   rw [bZ];split
   ·rfl
   ·rename_i q2
    rcases Ae.mp h with rfl|h
    ·exact absurd rfl q2
    ·rw [Am.mp h] at q
     exact absurd rfl q
def aE7 {kvs more:List (Key×V)}(m:Mor kvs more):((more.map (befO kvs)).map (·.1)).Nodup:=by
 rcases m with rfl|⟨x,v,rfl⟩|⟨x,y,v,w,rfl,ne,hs⟩
 ·exact DF
 ·exact Bz (λ_ h=>absurd h Ag) .nil
 ·refine Bz (λz h=>?_) (Bz (λ_ h=>absurd h Ag) .nil)
  have e:z=y:=Am.mp h;rw [e];exact ne
def aFt {kvs more:List (Key×V)}{day:Int}(nd:(kvs.map (·.1)).Nodup)(rf:∀ kv∈kvs,∃ a,kv.2=.ref a)(m:Mor kvs more)(ml:more.length<=2)(ht:H' t=some (.tup [.ref D,.int day]))(hD:H' D=some (.lst ys))(h0:H D=none)(yl:ys.length=more.length)(hy:∀ (j:Nat) kv y,more[j]?=some kv->ys[j]?=some y->∃ c,y=.ref c/\H' c=some (.tup [.str (befO kvs kv).1,(befO kvs kv).2.getD .non])):BfN H H' bf (bf++[.ref t]) kvs day (dA kvs more):=by
 obtain ⟨cs,rfl,p⟩:=aD8 (Pr:=λc (e:Str×Option V)=>H' c=some (.tup [.str e.1,e.2.getD .non])) (ys:=ys) (ns:=more.map (befO kvs)) (by rw [Ab];exact yl) λj y hj=>by
  have jl:=(Ad.mp hj).1;obtain ⟨kv,hkv⟩:∃ kv,more[j]?=some kv:=⟨_,Al (by omega)⟩;obtain ⟨c,e,h⟩:=hy j kv y hkv hj;exact ⟨c,_,e,by rw [Ah,hkv];rfl,h⟩
 refine ⟨t,D,cs,more.map (befO kvs),rfl,ht,hD,h0,p,λe he v ev=>?_,sH nd m,by rw [Ab];exact ml,yP m,aE7 m⟩;obtain ⟨kv,hkv,rfl⟩:=An.mp he;obtain ⟨kv',m',e'⟩:=zN (show valV kvs kv.1=some v from ev);rw [<- e'];exact rf kv' m'
def kQ (C:Addr):Sp:=λvs H Q _=>∃ p dl dt db bs kvs day bf q c more,vs=[.ref p,.ref q,.ref c]/\Bk C H p dl dt db bs kvs day bf/\H c=some (.dK more)/\Out p dl dt db c/\(∃ ss:List Str,more.map (·.1)=ss.map As)/\more.length<=2/\bs.length<=100/\kvs.length<=100/\bf.length<=100/\(kvs.map (·.1)).Nodup/\(∀ kv∈kvs,∃ a,kv.2=.ref a)/\Mor kvs more /\
 ∀ bf' H',BfN H H' bf bf' kvs day (dA kvs more)->Bk C H' p dl dt db (bs++[.ref q]) (dA kvs more) day bf'->Kp p dl dt db H H'->Q (.int bs.length) H'
def lL:Sp:=λvs H Q _=>∃ (x:Str) (m l:Int),vs=[.str x,.int m,.int l]/\∀ q d1 d2 t e H',Same H H'->H' q=some (.tup [.str "lot",.int l,.ref d1,.ref d2])->H' d1=some (.dK [(.inr x,.ref t)])->H' t=some (.tup [.int m,.int 1])->H' d2=some (.dK [(.inr x,.ref e)])->H' e=some (.tup [])->H d1=none->H d2=none->Q (.ref q) H'
def nG:Sp:=λvs H Q _=>∃ m:Int,vs=[.int m]/\1<=m/\m<=1000000/\Q .non H
def lK:Sp:=λvs H Q _=>∃ m:Int,vs=[.int m]/\0<=m/\m<=1000000/\Q .non H
def gR:Sp:=λvs H Q _=>∃ x:Str,vs=[.str x]/\Wr x/\∀ H',Same H H'->Q .non H'
def Bk.ns {p dl dt db:Addr}{bs:List V}{day:Int}(B:Bk C H p dl dt db bs kvs day bf):p≠dl/\p≠dt/\p≠db/\dl≠dt/\dt≠db:=by
 obtain ⟨⟨dx,h0⟩,h1,h2,h3,n⟩:=B;exact ⟨fJ h0 h1 (by intro z;cases z),fJ h0 h2 (by intro z;cases z),fJ h0 h3 (by intro z;cases z),fJ h1 h2 (by intro z;cases z),fJ h2 h3 (by intro z;cases z)⟩
def wW (C:Addr):Sp:=λvs H Q _=>∃ p dl dt db bs kvs day bf x,vs=[.ref p,.str x]/\Bk C H p dl dt db bs kvs day bf/\valV kvs (.inr x)=none/\Q .non H
def qB (C:Addr):Sp:=λvs H Q _=>∃ p dl dt db bs kvs day bf,vs=[.ref p]/\Bk C H p dl dt db bs kvs day bf/\∀ z,H z=none->Q (.ref z) (upd H z (.lst bs))
def oQ (C:Addr):Sp:=λvs H Q _=>∃ p dl dt db bs kvs day bf,vs=[.ref p]/\Bk C H p dl dt db bs kvs day bf/\Q (.int day) H
section
variable {P:AE}{w:World}{K:Aa}{mg:Str->Option Value}{base:Heap}
def xC:FnScope ["name","many","last_day"] ["name","many","last_day"] (aG sNewLot):=fnScOk (by decide +kernel)
def uJ (F:Fun K "new_lot" "new_lot" sNewLot f fd):FnOk P w K mg base CX0 1 f fd ["name","many","last_day"] lL:=by
 refine F.ok xC (λvs H Q E h=>?_) (λcdv A outer s H vs Q E hr h=>?_)
 ·obtain ⟨_,_,_,rfl,_⟩:=h
  rfl
 ·obtain ⟨x,m,l,rfl,k⟩:=h
  refine ⟨_,(aF (aK (bF (aA aJ (aA (pv 2) (aA (gL (bV (pv 0) (bF (aA (pv 1) (aA aH aE))) gI) rfl rfl (by simp) (by decide)) (aA (gL (bV (pv 0) (bF aE) gI) rfl rfl (by simp) (by decide)) aE))))))),?_⟩;refine ⟨_,rfl,λd1 h1=>⟨_,rfl,_,rfl,zLn2,λt ht=>⟨?_,[(.inr x,.ref t)],rfl,by show 1<=15;decide,λd2 h2=>⟨_,rfl,zLn0,λe he=>⟨?_,[(.inr x,.ref e)],rfl,by show 1<=15;decide,zLn4,λq hq=>?_⟩⟩⟩⟩⟩
  ·rw [aD (λz=>by rw [<- z,aB] at ht;cases ht)]
   exact aB
  ·rw [aD (λz=>by rw [<- z,aB] at he;cases he)]
   exact aB
  rw [show dA [] [((.inr x:Key),V.ref t)]=[(.inr x,.ref t)] from rfl] at h2 he hq ⊢;rw [show dA [] [((.inr x:Key),V.ref e)]=[(.inr x,.ref e)] from rfl] at hq ⊢;have t1:t≠d1:=λz=>by rw [z,aB] at ht;cases ht
  have s1:Same H (upd (upd (upd H d1 (.dK [])) t (.tup [.int m,.int 1])) d1 (.dK [(.inr x,.ref t)])):=dD ((Same.upd h1).trans (Same.upd ht)) h1;have h2':=same_none s1 h2;have s2:=Same.upd (o:=.dK []) h2;have s3:=Same.upd (o:=.tup []) he;have e2:e≠d2:=λz=>by rw [z,aB] at he;cases he
  have s4:Same (upd (upd (upd H d1 (.dK [])) t (.tup [.int m,.int 1])) d1 (.dK [(.inr x,.ref t)])) _:=dD (o:=.dK [(.inr x,.ref e)]) (s2.trans s3) h2;have s5:=Same.upd (o:=.tup [.str "lot",.int l,.ref d1,.ref d2]) hq;have s45:=s4.trans s5;refine k q d1 d2 t e _ (s1.trans s45) aB (s45 _ _ aB) (s45 _ _ ?_) (s5 _ _ aB) (s5 _ _ ?_) h1 h2'
  ·rw [aD t1]
   exact aB
  ·rw [aD e2]
   exact aB
def aDw:FnScope ["many"] ["many"] (aG sRNoSp):=fnScOk (by decide +kernel)
def aB6 {tk:Tok}(F:Fun K "refuse_no_spoons" "refuse_no_spoons" sRNoSp f fd)(mS:mg "MOST_SPOONS" = some (.int 1000000 tk))(cW:Cal P w K mg base CX0 1 "is_whole_number" ["thing"] spWh):FnOk P w K mg base CX0 2 f fd ["many"] nG:=by
 refine F.ok aDw (λvs H Q E h=>?_) (λcdv A outer s H vs Q E hr h=>?_)
 ·obtain ⟨_,rfl,_⟩:=h
  rfl
 ·obtain ⟨m,rfl,m1,m2,k⟩:=h
  refine ⟨_,(aF (bC (PW.pt (jJ (eC (cU (aV cW hr rfl aR (aA (pv 0) aE)))) (gG (eC (qM rO rO aH (pv 0) (dY (v:=.int 1000000) rfl mS ⟨_,rfl⟩)))))) (aF iR) aQ)),?_⟩;refine ⟨_,rfl,_,true,rfl,.int,_,rfl,iteF ⟨_,rfl,_,_,rfl,rfl,_,rfl,ite2 (λ_=>⟨_,_,rfl,rfl,_,rfl,?_⟩) (λz=>absurd (decide_eq_true m1) z)⟩⟩;rw [decide_eq_true m2];exact iteF k
def aBg:FnScope ["day"] ["day"] (aG sRNoDay):=fnScOk (by decide +kernel)
def yE {tk:Tok}(F:Fun K "refuse_no_day" "refuse_no_day" sRNoDay f fd)(mS:mg "LATEST_DAY" = some (.int 1000000 tk))(cW:Cal P w K mg base CX0 1 "is_whole_number" ["thing"] spWh):FnOk P w K mg base CX0 2 f fd ["day"] lK:=by
 refine F.ok aBg (λvs H Q E h=>?_) (λcdv A outer s H vs Q E hr h=>?_)
 ·obtain ⟨_,rfl,_⟩:=h
  rfl
 ·obtain ⟨m,rfl,m1,m2,k⟩:=h
  refine ⟨_,(aF (bC (PW.pt (jJ (eC (cU (aV cW hr rfl aR (aA (pv 0) aE)))) (gG (eC (qM rO rO aH (pv 0) (dY (v:=.int 1000000) rfl mS ⟨_,rfl⟩)))))) (aF iR) aQ)),?_⟩;refine ⟨_,rfl,_,true,rfl,.int,_,rfl,iteF ⟨_,rfl,_,_,rfl,rfl,_,rfl,ite2 (λ_=>⟨_,_,rfl,rfl,_,rfl,?_⟩) (λz=>absurd (decide_eq_true m1) z)⟩⟩;rw [decide_eq_true m2];exact iteF k
def xA:FnScope ["thing"] ["thing"] (aG sRNoName):=fnScOk (by decide +kernel)
def uH (F:Fun K "refuse_no_name" "refuse_no_name" sRNoName f fd)(cI:Cal P w K mg base CX0 1 "is_ware" ["thing"] (iZ K)):FnOk P w K mg base CX0 2 f fd ["thing"] gR:=by
 refine F.ok xA (λvs H Q E h=>?_) (λcdv A outer s H vs Q E hr h=>?_)
 ·obtain ⟨_,rfl,_⟩:=h
  rfl
 ·obtain ⟨x,rfl,wx,k⟩:=h
  refine ⟨_,(aF (bC (eC (cU (aV cI hr rfl aR (aA (pv 0) aE)))) (aF iR) aQ)),?_⟩;exact ⟨_,rfl,_,rfl,.inr ⟨x,rfl,by have:=wx.l8;omega,λ_ H' s'=>⟨_,rfl,iteF (k _ s')⟩,λn=>absurd wx n⟩⟩
def aD3:FnScope ["self"] ["self"] (aG xH):=fnScOk (by decide +kernel)
def aCd (F:Fun K "__init__" "Books.__init__" xH f fd)(T:Cl K mg C):FnOk P w K mg base CX0 1 f fd ["self"] (qA C):=by
 refine F.ok aD3 (λvs H Q E h=>?_) (λcdv A outer s H vs Q E hr h=>?_)
 ·obtain ⟨_,_,rfl,_⟩:=h
  rfl
 ·obtain ⟨p,dx,rfl,hp,k⟩:=h
  refine ⟨_,(aC (kS (pv 0) (dH aE) rfl) (aC (kS (pv 0) bW rfl) (aC (kS (pv 0) aH rfl) (aF (kS (pv 0) (dH aE) rfl))))),?_⟩;refine cut4 ?_
  intros
  refine ⟨zLn0,λdl hl=>?_⟩;have n1:p≠dl:=aX hp hl;refine ⟨_,rfl,p,C,dx,[],rfl,(by rw [aD n1];exact hp),T.cl,T.nE,(by show 0<1000;decide),λdt ht=>?_⟩;have n2:p≠dt:=λz=>by rw [<- z,aB] at ht;cases ht
  have n3:dl≠dt:=λz=>by rw [<- z,aD (Au n1),aB] at ht;cases ht
  have ht0:H dt=none:=by rw [aD (Au n2),aD (Au n3)] at ht;exact ht
  refine ⟨_,rfl,p,C,dx,_,rfl,(by rw [aD n2];exact aB),T.cl,T.nT,(by show 1<1000;decide),?_⟩;refine ⟨_,rfl,p,C,dx,_,rfl,aB,T.cl,T.nD,(by show 2<1000;decide),?_⟩;refine ⟨zLn0,λdb hb=>?_⟩;have n4:p≠db:=λz=>by rw [<- z,aB] at hb;cases hb
  have n5:dt≠db:=λz=>by rw [<- z,aD (Au n2),aD (Au n2),aB] at hb;cases hb
  have n6:dl≠db:=λz=>by rw [<- z,aD (Au n1),aD (Au n1),aD n3,aD (Au n1),aB] at hb;cases hb
  have hb0:H db=none:=by rw [aD (Au n4),aD (Au n4),aD (Au n5),aD (Au n4),aD (Au n6)] at hb;exact hb
  refine ⟨_,rfl,p,C,dx,_,rfl,(by rw [aD n4];exact aB),T.cl,T.nB,(by show 3<1000;decide),?_⟩;refine k dl dt db _ hl ht0 hb0 ⟨⟨dx,Eq.trans aB (congrArg (λl=>some (HO.ins C dx l)) aCy)⟩,?_,?_,?_,n6⟩ λb o e nb=>?_
  ·rw [aD (Au n1),aD n6,aD (Au n1),aD (Au n1),aD n3,aD (Au n1)]
   exact aB
  ·rw [aD (Au n2),aD n5,aD (Au n2),aD (Au n2)]
   exact aB
  ·rw [aD (Au n4)]
   exact aB
  ·rw [aD nb,aD (aX e hb0),aD nb,aD nb,aD (aX e ht0),aD nb,aD (aX e hl)]
   exact e
def ndNt:(["name","self"]:List Str).Nodup:=by decide +kernel
def aDv:FnScope ["self","deed","changed"] ["self","deed","changed"] (aG rK):=fnScOk (by decide +kernel)
def aB5 (F:Fun K "note" "Books.note" rK f fd)(T:Txt mg)(L:Cl K mg C):FnOk P w K mg base CX0 1 f fd ["self","deed","changed"] (kQ C):=by
 refine F.ok aDv (λvs H Q E h=>?_) (λcdv A outer s H vs Q E hr h=>?_)
 ·obtain ⟨_,_,_,_,_,_,_,_,_,_,_,rfl,_⟩:=h
  rfl
 ·obtain ⟨p,dl,dt,db,bs,kvs,day,bf,q,c,more,rfl,B,hc,oc,⟨ss,es⟩,ml,bl',kl,fl,ndk,rfk,mor,k⟩:=h
  refine ⟨_,(aC (bD (mE Bb Bx Bw dB (bU (pv 0) rfl) (aA (bF (aA (pA (eQ (N':=["name","self"]) (λσ=>[none,some 0].map λt=>t.bind λj=>(σ[j]?).join) rfl rfl (by decide +kernel) (by decide +kernel)
     (iF (sc:=aG rK) rfl (by decide +kernel)) (λ_ _ _=>dR (sc:=aG rK) (N:=["self","deed","changed"]) [none,some 0] rfl rfl rfl rfl (by decide +kernel))
     (eI (pv 2)) (λ_ _ _ _ _ _=>aY (i:=0) ndNt rfl (Or.inl rfl)) (λ_ _ _ _ _ _=>dE)
     (λ_ _ _ _ _ _=>bF (aA (pv 0) (aA (xT (aO hr) (gK (K:=K) rfl (pv 1) rfl) (pv 0) ⟨rfl,rfl,rfl,rfl⟩) aE))))) (aA (bU (pv 0) rfl) aE))) aE)))
   (aC (bD (mE CF PySem.F.slot_dict_update PySem.F.type_dict_update uT (bU (pv 0) rfl) (aA (pv 2) aE)))
   (aC (bD (mE Bb Bx Bw dB (bU (pv 0) rfl) (aA (pv 1) aE)))
   (aF (aK (aM qR (aS bA rfl T.len Be (aA (bU (pv 0) rfl) aE)) aH)))))),?_⟩
  refine cut4 ?_
  intros
  obtain ⟨n1,n2,n3,n4,n5⟩:=B.ns;obtain ⟨⟨dx,h0⟩,hl,ht,hb,n6⟩:=id B;obtain ⟨c1,c2,c3,c4⟩:=oc;refine ⟨_,rfl,p,C,dx,_,_,rfl,h0,L.cl,L.nB,kE,.inl ⟨rfl,_,SqL.of hb⟩,_,rfl,c,more,rfl,hc,λob D hD=>?_⟩;refine dU (Ys.dict aB) (λj _ y H'=>∃ c kv,y=.ref c/\more[j]?=some kv/\H' c=some (.tup [.str (befO kvs kv).1,(befO kvs kv).2.getD .non])) (λ_ _ _ _ _ ⟨c,kv,e1,e2,e3⟩ tk=>⟨c,kv,e1,e2,tk _ _ e3⟩) hD (by rw [Ab];omega) (λi v H' R hv sm hR=>?_) (λys H5 sm hD5 yl hy=>?_)
  ·rw [Ah] at hv
   obtain ⟨kv,hkv,rfl⟩:=AA.mp hv;obtain ⟨y,ey⟩:∃ y:Str,kv.1=.inr y:=by
    have z:(more.map (·.1))[i]?=some kv.1:=by rw [Ah,hkv];rfl
    rw [es,Ah] at z;obtain ⟨y,_,e⟩:=AA.mp z;exact ⟨y,e.symm⟩
   rw [ey];have hp':=sm p _ (by rw [aD (Au c1)];exact h0);have ht':=sm dt _ (by rw [aD (Au c3)];exact ht);exact ⟨(Keep.refl _).set rfl,_,rfl,_,rfl,p,C,dx,_,_,rfl,hp',L.cl,L.nT,aZ,dt,rfl,.inl ⟨kvs,.inl ht'⟩,_,rfl,_,DGet.k (k:=.inr y) ht',zLn2,λz hz=>hR _ _ (Same.upd hz) ⟨z,kv,rfl,hkv,by rw [aC3 ey];exact aB⟩⟩
  ·have s6:=eU hc sm
   refine ⟨c,ob,more,sm _ _ aB,(λo u z=>by have z':H c=some (.frz o u):=z;rw [hc] at z';cases z'),_,rfl,p,C,dx,_,_,rfl,s6 _ _ h0,L.cl,L.nD,jE,zLn2,λz hz=>?_⟩;have t7:=Same.upd (o:=.tup [.ref D,.int day]) hz;have s7:=s6.trans t7;refine ⟨db,_,_,rfl,rfl,s7 _ _ hb,aW (by omega),?_⟩;generalize hH7:upd (upd H5 c (.dK more)) z (.tup [.ref D,.int day])=H7 at s7;refine ⟨_,rfl,p,C,dx,_,_,rfl,(by rw [aD n3];exact s7 _ _ h0),L.cl,L.nT,aZ,.inr (.inr (.inl ⟨rfl,.inl ⟨kvs,by rw [aD n5];exact s7 _ _ ht⟩⟩)),_,rfl,dt,c,kvs,more,rfl,rfl,Au c3,(by rw [aD n5];exact s7 _ _ ht),(by rw [aD c4];exact s7 _ _ hc),by omega,?_⟩;have hl9:upd (upd H7 db (.lst (bf++[.ref z]))) dt (.dK (dA kvs more)) dl=some (.lst bs):=by rw [aD n4,aD n6];exact s7 _ _ hl
   refine ⟨_,rfl,p,C,dx,_,_,rfl,(by rw [aD n2,aD n3];exact s7 _ _ h0),L.cl,L.nE,dI,.inl ⟨rfl,_,SqL.of hl9⟩,_,rfl,dl,_,_,rfl,rfl,hl9,aW (by omega),?_⟩;refine ⟨_,rfl,p,C,dx,_,_,rfl,(by rw [aD n1,aD n2,aD n3];exact s7 _ _ h0),L.cl,L.nE,dI,dl,_,rfl,.inl (SqL.of aB),_,_,rfl,rfl,?_⟩;have e1:((bs++[V.ref q]).length:Int)-1=(bs.length:Int):=by rw [Az];show ((bs.length+1:Nat):Int)-1=_;omega
   show Q (V.int (((bs++[V.ref q]).length:Int)-1)) _;rw [e1];have ztup:H7 z=some (.tup [.ref D,.int day]):=by rw [<- hH7];exact aB
   have Dc:D≠c:=λq=>by rw [q,aB] at hD;cases hD
   have hD0:H D=none:=by rw [aD Dc] at hD;exact hD
   have Dlst:H7 D=some (.lst ys):=by rw [<- hH7];exact t7 _ _ (by rw [aD Dc];exact hD5)
   have nO:∀ {b:Addr} {o:HO},H b=some o->D≠b:=λ{b o} e q=>by rw [q,e] at hD0;cases hD0
   have zO:∀ {b:Addr} {o:HO},H b=some o->(∀ xs,o≠.tup xs)->z≠b:=λ{b o} e q w=>by
    have:=s7 _ _ e;rw [<- w,ztup] at this;exact q _ (AF this).symm
   have hzF:upd (upd (upd H7 db (.lst (bf++[.ref z]))) dt (.dK (dA kvs more))) dl (.lst (bs++[.ref q])) z=some (.tup [.ref D,.int day]):=by rw [aD (zO hl λ_ w=>by cases w),aD (zO ht λ_ w=>by cases w),aD (zO hb λ_ w=>by cases w)];exact ztup
   have hDF:upd (upd (upd H7 db (.lst (bf++[.ref z]))) dt (.dK (dA kvs more))) dl (.lst (bs++[.ref q])) D=some (.lst ys):=by rw [aD (nO hl),aD (nO ht),aD (nO hb)];exact Dlst
   refine k (bf++[.ref z]) _ (aFt ndk rfk mor ml (hzF) (hDF) hD0 (by rw [Ab] at yl;exact yl) (λj kv y hkv hy'=>?_)) ⟨⟨dx,?_⟩,aB,?_,?_,n6⟩ λb o ⟨o1,o2,o3,o4⟩ e=>?_
   ·obtain ⟨x,hx⟩:∃ x,(more.map λe=>kV e.1)[j]?=some x:=⟨_,by rw [Ah,hkv];rfl⟩
    obtain ⟨c',kv',r1,r2,r3⟩:=hy j x y hx hy';rw [hkv] at r2;cases r2;have r4:H7 c'=some (.tup [.str (befO kvs kv).1,(befO kvs kv).2.getD .non]):=by rw [<- hH7];exact t7 _ _ (by rw [aD (λw=>by rw [w,sm _ _ aB] at r3;cases r3)];exact r3)
    have cO:∀ {b:Addr} {o:HO},H b=some o->(∀ xs,o≠.tup xs)->c'≠b:=λ{b o} e q w=>by
     have:=s7 _ _ e;rw [<- w,r4] at this;exact q _ (AF this).symm
    exact ⟨c',r1,by rw [aD (cO hl λ_ w=>by cases w),aD (cO ht λ_ w=>by cases w),aD (cO hb λ_ w=>by cases w)];exact r4⟩
   ·rw [aD n1,aD n2,aD n3];exact s7 _ _ h0
   ·rw [aD (Au n4)];exact aB
   ·rw [aD (Au n6),aD (Au n5)];exact aB
   ·rw [aD o2,aD o3,aD o4];exact s7 _ _ e
def aGb:FnScope ["self","name"] ["self","name"] (aG sHad):=fnScOk (by decide +kernel)
def aE0 (F:Fun K "refuse_had" "Books.refuse_had" sHad f fd)(L:Cl K mg C):FnOk P w K mg base CX0 1 f fd ["self","name"] (wW C):=by
 refine F.ok aGb (λvs H Q E h=>?_) (λcdv A outer s H vs Q E hr h=>?_)
 ·obtain ⟨_,_,_,_,_,_,_,_,_,rfl,_⟩:=h
  rfl
 ·obtain ⟨p,dl,dt,db,bs,kvs,day,bf,x,rfl,B,nv,k⟩:=h
  obtain ⟨⟨dx,h0⟩,hl,ht,hb,n6⟩:=id B;refine ⟨_,(aF (bC (nP (tY (aO hr) (pv 1) (bU (pv 0) rfl))) (aF iR) aQ)),?_⟩;have g:DGet H dt (.str x) none:=by rw [<- nv];exact DGet.k (k:=.inr x) ht
  exact ⟨_,rfl,_,rfl,p,C,dx,_,_,rfl,h0,L.cl,L.nT,aZ,dt,_,rfl,g,_,rfl,iteF k⟩
def aD4:FnScope ["self"] ["self"] (aG xJ):=fnScOk (by decide +kernel)
def aCh {f C:Addr}{fd:Bj}(F:Fun K "done" "Books.done" xJ f fd)(T:Txt mg)(L:Cl K mg C):FnOk P w K mg base CX0 1 f fd ["self"] (qB C):=by
 refine F.ok aD4 (λvs H Q E h=>?_) (λcdv A outer s H vs Q E hr h=>?_)
 ·obtain ⟨_,_,_,_,_,_,_,_,rfl,_⟩:=h
  rfl
 ·obtain ⟨p,dl,dt,db,bs,kvs,day,bf,rfl,B,k⟩:=h
  obtain ⟨⟨dx,h0⟩,hl,ht,hb,n6⟩:=id B;refine ⟨_,(aF (aK (bP (fH (K:=K) rfl) rfl T.list' gO (aA (bU (pv 0) rfl) aE)))),?_⟩;exact ⟨_,rfl,p,C,dx,_,_,rfl,h0,L.cl,L.nE,dI,dl,_,rfl,.inl (SqL.of hl),λz hz=>k z hz⟩
def aBa:FnScope ["self"] ["self"] (aG qF):=fnScOk (by decide +kernel)
def xZ (F:Fun K "today" "Books.today" qF f fd)(L:Cl K mg C):FnOk P w K mg base CX0 1 f fd ["self"] (oQ C):=by
 refine F.ok aBa (λvs H Q E h=>?_) (λcdv A outer s H vs Q E hr h=>?_)
 ·obtain ⟨_,_,_,_,_,_,_,_,rfl,_⟩:=h
  rfl
 ·obtain ⟨p,dl,dt,db,bs,kvs,day,bf,rfl,B,k⟩:=h
  obtain ⟨⟨dx,h0⟩,hl,ht,hb,n6⟩:=id B;refine ⟨_,(aF (aK (bU (pv 0) rfl))),?_⟩;exact ⟨_,rfl,p,C,dx,_,_,rfl,h0,L.cl,L.nD,jE,k⟩
end
theorem aA6 {j:Int}(h0:0<=j)(h:j<=x.length):cps (BO x none (some j))=(cps x).take j.toNat:=by
 have e:BO x none (some j)=StrLaws.sliceText x none (some j):=rfl;rw [e,StrLaws.sliceText_to ⟨h0,by rw [lenC] at h;exact h⟩];simp [cps]
theorem aA8 {j:Int}(h0:0<=j)(h:j<=x.length):cps (BO x (some j) none)=(cps x).drop j.toNat:=by
 have e:BO x (some j) none=StrLaws.sliceText x (some j) none:=rfl;rw [e,StrLaws.sliceText_from ⟨h0,by rw [lenC] at h;exact h⟩];simp [cps];exact DB (by simp;have:x.length=x.cps.size:=rfl;omega)
def sgn (n:Int)(i:Nat):Nat:=97+((n/24+3*(i:Int))%26).toNat
def tK {n:Int}{i j:Nat}(hi:i<8)(hj:j<8)(h:sgn n i=sgn n j):i=j:=by
 have e1:=bN (n/24+3*(i:Int)) (m:=26) (by decide);have e2:=bN (n/24+3*(j:Int)) (m:=26) (by decide);unfold sgn at h;generalize n/24=A at *
 omega
def nmC (n:Int)(w:List Nat)(i:Nat):List Nat:=if n%3=0 then w.take (i+1) else if n%3=1 then w.take (n/3%8).toNat++[sgn n i]++w.drop (n/3%8+1).toNat else sgn n i::w.take ((n/7+((0:Int)+i)*((0:Int)+i))%8).toNat
def aCm {n:Int}{i j:Nat}(hw:w.length=8)(hi:i<8)(hj:j<8)(h:nmC n w i=nmC n w j):i=j:=by
 unfold nmC at h;split at h
 ·have:=congrArg List.length h
  rw [Bn,Bn] at this;omega
 ·split at h
  ·rw [DC,DC] at h
   have h':=List.append_cancel_left h;simp at h';exact tK hi hj h'
  ·simp at h
   exact tK hi hj h.1
def NmS (n:Int)(w:List Nat)(ws:List Str):Prop:=∀ (k:Nat) x,ws[k]?=some x->cps x=nmC n w k/\Wr x
theorem NmS.nd {n:Int}(h:NmS n (cps x) ws)(xl:x.length=8)(l:ws.length<=8):ws.Nodup:=by
 refine Dg.mpr λi j hi hj hij e=>?_;have e1:=(h i ws[i] (Al hi)).1;have e2:=(h j ws[j] (Al hj)).1;rw [e,e2] at e1;have:=aCm (by rw [<- lenC];exact xl) (by omega) (by omega) e1;omega
def NmS.add {n:Int}(h:NmS n w ws)(e:cps x=nmC n w ws.length/\Wr x):NmS n w (ws++[x]):=λk y hk=>by
 rcases fZ hk with ⟨_,z⟩|⟨rfl,rfl⟩
 ·exact h k y z
 ·exact e
def aAt (e:cps y=l)(h1:1<=l.length)(h8:l.length<=8)(hl:∀ c∈l,97<=c/\c<=122):Wr y:=⟨by rw [lenC,e];exact h1,by rw [lenC,e];exact h8,by rw [e];exact hl⟩
def nm_a {n:Int}{i:Nat}(xl:x.length=8)(xw:Lw x)(w0:n%3=0)(hi:i<8):cps (BO x none (some ((0:Int)+i+1)))=nmC n (cps x) i/\Wr (BO x none (some ((0:Int)+i+1))):=by
 have e:=aA6 (x:=x) (j:=(0:Int)+i+1) (by omega) (by omega);rw [show ((0:Int)+i+1).toNat=i+1 by omega] at e;have lx:=lenC x;refine ⟨by unfold nmC;rw [if_pos w0];exact e,aAt e (by rw [Bn];omega) (by rw [Bn];omega) λc hc=>xw c (DT hc)⟩
def nm_b {n:Int}{i c:Nat}(xl:x.length=8)(xw:Lw x)(w0:¬ n%3=0)(w1:n%3=1)(cc:c=sgn n i)(cb:97<=c/\c<=122):cps (BO x none (some (n/3%8))++⟨#[c]⟩++BO x (some (n/3%8+1)) none)=nmC n (cps x) i/\Wr (BO x none (some (n/3%8))++⟨#[c]⟩++BO x (some (n/3%8+1)) none):=by
 have ea:=bN (n/3) (m:=8) (by decide);have e:cps (BO x none (some (n/3%8))++⟨#[c]⟩++BO x (some (n/3%8+1)) none)=(cps x).take (n/3%8).toNat++[sgn n i]++(cps x).drop (n/3%8+1).toNat:=by
  rw [eO,eO,aA6 (by omega) (by omega),aA8 (by omega) (by omega),cc]
 have lx:=lenC x;refine ⟨by unfold nmC;rw [if_neg w0,if_pos w1];exact e,aAt e ?_ ?_ λd hd=>?_⟩
 ·rw [Az,Az,Bn,List.length_drop,List.length_singleton];omega
 ·rw [Az,Az,Bn,List.length_drop,List.length_singleton];omega
 ·rcases Aj.mp hd with z|z
  ·rcases Aj.mp z with z|z
   ·exact xw d (DT z)
   ·rw [Am.mp z,<- cc];exact cb
  ·exact xw d (List.mem_of_mem_drop z)
def nm_c {n:Int}{i c:Nat}(xl:x.length=8)(xw:Lw x)(w0:¬ n%3=0)(w1:¬ n%3=1)(cc:c=sgn n i)(cb:97<=c/\c<=122):cps ((⟨#[c]⟩:Str)++BO x none (some ((n/7+((0:Int)+i)*((0:Int)+i))%8)))=nmC n (cps x) i/\Wr ((⟨#[c]⟩:Str)++BO x none (some ((n/7+((0:Int)+i)*((0:Int)+i))%8))):=by
 have ea:=bN (n/7+((0:Int)+i)*((0:Int)+i)) (m:=8) (by decide);have e:cps ((⟨#[c]⟩:Str)++BO x none (some ((n/7+((0:Int)+i)*((0:Int)+i))%8)))=sgn n i::(cps x).take ((n/7+((0:Int)+i)*((0:Int)+i))%8).toNat:=by
  rw [eO,aA6 (by omega) (by omega),cc];rfl
 have lx:=lenC x;have first:=e;rw [show sgn n i::(cps x).take ((n/7+((0:Int)+i)*((0:Int)+i))%8).toNat=nmC n (cps x) i by unfold nmC;rw [if_neg w0,if_neg w1]] at first;refine ⟨first,?_⟩;clear first;generalize (n/7+((0:Int)+i)*((0:Int)+i))%8=a at *
 refine aAt e ?_ ?_ λd hd=>?_
 ·simp
 ·rw [Br,Bn];omega
 ·rcases Ae.mp hd with rfl|z
  ·rw [<- cc];exact cb
  ·exact xw d (DT z)
def oS:Sp:=λvs H Q _=>∃ s:Int,vs=[.int s]/\0<=s/\s<2147483587/\∀ (ws:List Str) p H',ws.length=8->ws.Nodup->(∀ x∈ws,Wr x)->Same H H'->H' p=some (.lst (ws.map V.str))->Q (.ref p) H'
section
variable {P:AE}{w:World}{K:Aa}{mg:Str->Option Value}{base:Heap}
def fB:FnScope ["_law_seed","_law_letters","_law_word","_law_k","_law_at","_law_found","_law_sign"] ["_law_seed"] (aG sNames):=fnScOk (by decide +kernel)
def yF {f:Addr}{fd:Bj}(F:Fun K "_law_names" "_law_names" sNames f fd)(T:Txt mg):FnOk P w K mg base CX0 1 f fd ["_law_seed"] oS:=by
 refine F.ok fB (λvs H Q E h=>?_) (λcdv A outer s H vs Q E hr h=>?_)
 ·obtain ⟨_,rfl,_⟩:=h
  rfl
 ·obtain ⟨n,rfl,n0,nl,k⟩:=h
  refine ⟨_,(aC (aT (i:=1) fB.nd rfl (Or.inl rfl) aJ)
   (aC (aT (i:=2) fB.nd rfl (Or.inl rfl) aJ)
   (aC (dW Bc rfl (fR rfl T.range (aA aH aE)) (aY (i:=3) fB.nd rfl (Or.inl rfl))
    (aF (aT (i:=2) fB.nd rfl (Or.inl rfl) (aM eW (pv 2) (cR vE (pv 1) (aM bK (aM bK (aM bL (pv 0) (aM cZ (aM bL aH (pv 3)) aH)) aH) aH) (λ_ _=>rfl))))))
   (aC (aT (i:=4) fB.nd rfl (Or.inl rfl) (aM bK (aM bB (pv 0) aH) aH))
   (aC (aT (i:=5) fB.nd rfl (Or.inl rfl) (dH aE))
   (aC (dW Bc rfl (fR rfl T.range (aA aH aE)) (aY (i:=3) fB.nd rfl (Or.inl rfl))
    (aC (aT (i:=6) fB.nd rfl (Or.inl rfl) (cR vE (pv 1) (aM bK (aM cZ (aM bB (pv 0) aH) (aM bL aH (pv 3))) aH) (λ_ _=>rfl)))
    (aF (bC (aP dN (aM bK (pv 0) aH) aH (aU _))
     (aF (bD (mE Bb Bx Bw dB (pv 5) (aA (gW qC (pv 2) lZ (gJ (aM cZ (pv 3) aH))) aE))))
     (aF (bC (aP dN (aM bK (pv 0) aH) aH (aU _))
      (aF (bD (mE Bb Bx Bw dB (pv 5) (aA (aM eW (aM eW (gW qC (pv 2) lZ (gJ (pv 4))) (pv 6)) (gW qC (pv 2) (gJ (aM cZ (pv 4) aH)) lZ)) aE))))
      (aF (bD (mE Bb Bx Bw dB (pv 5) (aA (aM eW (pv 6) (gW qC (pv 2) lZ (gJ (aM bK (aM cZ (aM bB (pv 0) aH) (aM bL (pv 3) (pv 3))) aH)))) aE))))))))))
   (aF (aK (pv 5))))))))),?_⟩
  refine cut7 ?_
  intros
  have zL:LET.length<=AB:=by decide +kernel
  have bn:Bt 64 n:=eE 64 (c:=10000000000000000000) n0 (by omega);refine ⟨8,rfl,by decide,by decide,?_⟩;refine eY (λi σ H'=>∃ (x:Str) (v3:Option V),σ=[some (.int n),some (.str LET),some (.str x),v3,none,none,none]/\x.length=i/\Lw x/\H'=H) ⟨"",none,rfl,rfl,(by decide +kernel),rfl⟩ ?_ ?_
  ·rintro i σ H' hi ⟨x,v3,rfl,xl,xw,rfl⟩
   have hi8:i<8:=hi;have bi:Bt 64 ((0:Int)+i):=eE 64 (c:=10000000000000000000) (by omega) (by omega);have b2:Bt 128 (2*((0:Int)+i)):=(eE 64 (x:=2) (c:=10000000000000000000) (by decide) (by decide)).mul bi;have b3:Bt 129 (2*((0:Int)+i)+3):=b2.add ((eE 64 (x:=3) (c:=10000000000000000000) (by decide) (by decide)).mono (by decide));have e:=bN (n*(2*((0:Int)+i)+3)%1009) (m:=26) (by decide);obtain ⟨c,hc,hc'⟩:=aAq e.1 e.2;refine ⟨_,rfl,_,rfl,_,rfl,_,rfl,_,_,rfl,rfl,⟨bl,b6 bi⟩,_,_,rfl,rfl,_,_,rfl,rfl,⟨b6 bn,b6 b3⟩,_,_,rfl,rfl,(by show (0:Int)<1009;decide),_,_,rfl,rfl,(by show (0:Int)<26;decide),LET,_,c,rfl,rfl,zL,hc,_,_,rfl,rfl,fM (by show x.length+1<=1000;omega),?_⟩;refine ⟨_,_,rfl,?_,aAh xw (aAg hc'),rfl⟩;rw [lenA,xl];rfl
  ·rintro σ H' ⟨x,v3,rfl,xl,xw,rfl⟩
   have xl8:x.length=8:=xl;have ea:=bN (n/3) (m:=8) (by decide);refine ⟨_,rfl,_,_,rfl,rfl,⟨by decide,b9⟩,_,_,rfl,rfl,(by show (0:Int)<8;decide),?_⟩;refine ⟨(show 0<=AB by decide +kernel),λp hp=>?_⟩;have s1:Same H' (upd H' p (.lst [])):=Same.upd hp;refine ⟨8,rfl,by decide,by decide,?_⟩;refine eY (λi σ H2=>∃ (ws:List Str) (v3 v6:Option V),σ=[some (.int n),some (.str LET),some (.str x),v3,some (.int (n/3%8)),some (.ref p),v6]/\ws.length=i/\Same H' H2/\H2 p=some (.lst (ws.map V.str))/\NmS n (cps x) ws) ⟨[],_,none,rfl,rfl,s1,aB,λk y h=>by simp at h⟩ ?_ ?_
   ·rintro i σ H2 hi ⟨ws,v3',v6,rfl,wl,s2,hp2,nm⟩
    have hi8:i<8:=hi;have bi:Bt 64 ((0:Int)+i):=eE 64 (c:=10000000000000000000) (by omega) (by omega);have e:=bN (n/24+3*((0:Int)+i)) (m:=26) (by decide);have hc:=aC6 e.1 e.2;generalize hcc:97+((n/24+3*((0:Int)+i))%26).toNat=c at hc;have cc:c=sgn n i:=by rw [<- hcc];unfold sgn;rw [show ((0:Int)+i)=(i:Int) by omega]
    have cb:97<=c/\c<=122:=by omega
    have cx:=lenC x;refine ⟨_,rfl,_,rfl,_,_,rfl,rfl,⟨by decide,b9⟩,_,rfl,_,_,rfl,rfl,⟨bl,b6 bi⟩,_,_,rfl,rfl,_,_,rfl,rfl,(by show (0:Int)<26;decide),LET,_,c,rfl,rfl,zL,hc,?_⟩;have zx:x.length<=AB:=fM (by omega);have put:∀ y:Str,(cps y=nmC n (cps x) i/\Wr y)->(∃ a xs v,V.ref p=.ref a/\[V.str y]=[v]/\H2 a=some (.lst xs)/\xs.length<AB/\∃ (ws':List Str) (v3 v6:Option V),[some (.int n),some (.str LET),some (.str x),some (.int ((0:Int)+i)),some (.int (n/3%8)),some (.ref p),some (.str ⟨#[c]⟩)]=[some (.int n),some (.str LET),some (.str x),v3,some (.int (n/3%8)),some (.ref p),v6]/\ws'.length=i+1/\Same H' (upd H2 a (.lst (xs++[v])))/\(upd H2 a (.lst (xs++[v]))) p=some (.lst (ws'.map V.str))/\NmS n (cps x) ws'):=λy hy=>by
     refine ⟨p,ws.map V.str,.str y,rfl,rfl,hp2,aW (by rw [Ab];omega),ws++[y],_,_,rfl,by rw [Az,wl];rfl,λb o e=>?_,by rw [AC];exact aB,nm.add (by rw [wl];exact hy)⟩;rw [aD (λz=>by rw [z,hp] at e;cases e)];exact s2 _ _ e
    refine ⟨_,rfl,_,_,rfl,rfl,(by show (0:Int)<3;decide),rfl,_,rfl,ite2 (λw0=>?_) (λw0=>?_)⟩
    ·have w0':n%3=0:=V.int.inj (of_decide_eq_true w0)
     refine ⟨_,rfl,.inl ⟨rfl,_,SqL.of hp2⟩,_,rfl,_,rfl,_,_,rfl,rfl,_,rfl,x,rfl,zx,?_⟩;obtain ⟨a,xs,v,h1,h2,h3,h4,h5⟩:=put (BO x none (some ((0:Int)+i+1))) (nm_a xl8 xw w0' hi8);exact ⟨a,xs,v,h1,h2,h3,h4,h5⟩
    ·have w0':¬ n%3=0:=λz=>w0 (decide_eq_true (congrArg V.int z))
     refine ⟨_,rfl,_,_,rfl,rfl,(by show (0:Int)<3;decide),rfl,_,rfl,ite2 (λw1=>?_) (λw1=>?_)⟩
     ·have w1':n%3=1:=V.int.inj (of_decide_eq_true w1)
      have l1:=PyProof.Txt.length_slice_le x none (some (n/3%8));have l2:=PyProof.Txt.length_slice_le x (some (n/3%8+1)) none;refine ⟨_,rfl,.inl ⟨rfl,_,SqL.of hp2⟩,_,rfl,_,rfl,_,rfl,x,rfl,zx,_,rfl,_,_,rfl,rfl,fM (by show _+1<=1000;omega),_,rfl,_,rfl,_,_,rfl,rfl,_,rfl,x,rfl,zx,_,_,rfl,rfl,fM (by rw [lenA];show _+1+_<=1000;omega),?_⟩;obtain ⟨a,xs,v,h1,h2,h3,h4,h5⟩:=put (BO x none (some (n/3%8))++⟨#[c]⟩++BO x (some (n/3%8+1)) none) (nm_b xl8 xw w0' w1' cc cb);exact ⟨a,xs,v,h1,h2,h3,h4,h5⟩
     ·have w1':¬ n%3=1:=λz=>w1 (decide_eq_true (congrArg V.int z))
      have l1:=PyProof.Txt.length_slice_le x none (some ((n/7+((0:Int)+i)*((0:Int)+i))%8));refine ⟨_,rfl,.inl ⟨rfl,_,SqL.of hp2⟩,_,rfl,_,rfl,_,rfl,_,_,rfl,rfl,⟨by decide,b9⟩,_,rfl,_,rfl,_,_,rfl,rfl,⟨b6 bi,b6 bi⟩,_,_,rfl,rfl,_,_,rfl,rfl,(by show (0:Int)<8;decide),_,rfl,x,rfl,zx,_,_,rfl,rfl,fM (by show 1+_<=1000;omega),?_⟩;obtain ⟨a,xs,v,h1,h2,h3,h4,h5⟩:=put ((⟨#[c]⟩:Str)++BO x none (some ((n/7+((0:Int)+i)*((0:Int)+i))%8))) (nm_c xl8 xw w0' w1' cc cb);exact ⟨a,xs,v,h1,h2,h3,h4,h5⟩
   ·rintro σ H2 ⟨ws,v3',v6,rfl,wl,s2,hp2,nm⟩
    exact ⟨_,rfl,k ws p H2 wl (nm.nd xl8 (by omega)) (λy hy=>by obtain ⟨i,hi⟩:=Bf.mp hy;exact (nm i y hi).2) s2 hp2⟩
end
end K77
namespace L2
open PySem PySem.Spec PyProof.Rows
def EqIn (P:AE)(w:World)(A:Around)(s:Shared)(y x:Value):Prop:=∀ (E:Value->Shared->Prop) (Q:Bool->Shared->Prop),Q true s->wpAny (model P w) A (eqBool y x) Q E s
section
open AutoSeq1 MeetsSeq MeetsSeq2 MeetsSeq3 SeqAt
variable {P:AE}{w:World}
end
section
variable {X:Cx}
def rNeLD (K:Aa):R2:=λx y H Q=>∃ a b xs ys,x=.ref a/\y=.ref b/\SqL K H a xs/\SqL K H b ys/\xs.length=ys.length /\
 (∀ (j:Nat) x y,xs[j]?=some x->ys[j]?=some y->∃ da db ka kb,x=.ref da/\y=.ref db/\Rd H da (.dK ka)/\Rd H db (.dK kb)/\DDeq K H ka kb)/\Q (.bl false) H
end
end L2
namespace HT
open PySem PyProof.Rows
def lexLtS:List Str->List Str->Bool
 |[],[]=>false
 |[],_::_=>true
 |_::_,[]=>false
 |x::xs,y::ys=>if x=y then lexLtS xs ys else decide (x.cps.toList<y.cps.toList)
section
open PySem.SeqAt
open PySem.AutoSeq1 (wpAny_loadPart')
open PySem.MeetsSeq PySem.MeetsSeq2 PySem.MeetsSeq3
end
section
variable {prog:AE}{w:World}{A:Around}{E:Value->Shared->Prop}{s:Shared}
end
end HT
namespace L2
open PySem PySem.Spec PyProof.Rows
section
variable {X:Cx}
def rLtTS (K:Aa):R2:=λx y H Q=>∃ a b ns ms,x=.ref a/\y=.ref b/\SqT K H a (ns.map V.str)/\SqT K H b (ms.map V.str)/\Q (.bl (HT.lexLtS ns ms)) H
end
end L2
namespace HT
open PySem PySem.Spec PyProof.Rows
section
variable {prog:AE}{w:World}{A:Around}{E:Value->Shared->Prop}{s:Shared}
def cat_tup0 {t b:Addr}{ws:List Value}{Q:Value->Shared->Prop}(ht:IsTup s.heap t #[])(hb:IsTup s.heap b ws.toArray)(h:Q (.ref b) s):wpAny (model prog w) A (Dh .Add (.ref t) (.ref b)) Q E s:=by
 obtain ⟨⟨cls,dd,data,sl⟩,ho,hc,n,hd⟩:=id ht;obtain ⟨⟨cls2,dd2,data2,sl2⟩,ho2,hc2,n2,hd2⟩:=id hb;simp only at hc hd hc2 hd2;subst hc hd hc2 hd2;exact concat_meets ⟨_,ho,rfl⟩ ⟨_,ho2,rfl⟩ noFill_tuple_add seq_tuple_add PySem.F.slot_tuple_add Eb (DX _ _)
   (tuple_addW0 t b #[] ws.toArray n n2 dd dd2 sl sl2 (by simp)) ⟨ho,ho2,h⟩
end
end HT
namespace L2
open PySem PySem.Spec PyProof.Rows
section
variable {X:Cx}
def zY (K:Aa):R2:=λx y H Q=>∃ a b ys,x=.ref a/\y=.ref b/\SqT K H a []/\SqT K H b ys/\Q (.ref b) H
def xX:OpR X (Dh .Add) (zY X.K):=by
 intro pins s σ H x y v u Q I rx ry h;obtain ⟨a,b,ys,rfl,rfl,ha,hb,q⟩:=h;cases rx;cases ry;obtain ⟨its,r1,p1,_⟩:=I.tuple ha;obtain ⟨its2,r2,p2,_⟩:=I.tuple hb;cases r1;exact HT.cat_tup0 p1 p2 ⟨.ref b,H,I,rfl,q⟩
def aEe (K:Aa):R2:=λx y H Q=>zY K x y H Q\/aEf K x y H Q
def xW:OpR X (Dh .Add) (aEe X.K):=by
 intro pins s σ H x y v u Q I rx ry h
 rcases h with h|h
 ·exact xX pins s σ H x y v u Q I rx ry h
 ·exact aBv pins s σ H x y v u Q I rx ry h
def rRepT (K:Aa):R2:=λx y H Q=>∃ a k xs,x=.ref a/\y=.int k/\SqT K H a xs/\xs≠[]/\2<=k/\k<=1000/\xs.length<=1000/\∀ p,H p=none->Q (.ref p) (upd H p (.tup (Cy k.toNat xs).flatten))
end
def Itr3 (lo c:Int)(n:Nat):It:=⟨λi _=>i<n,λi H x H'=>H'=H/\x=.int (lo+(i:Nat)*c),λi _=>n<=i⟩
def iRng3 (ta:TA):TI:=λσ H R=>ta σ H λvs H1=>∃ i j c:Int,vs=[.int i,.int j,.int c]/\(-(2^20)<=i/\i<=2^20/\-(2^20)<=j/\j<=2^20/\0<c/\c<=2^20)/\R (Itr3 i c (if i<j then (j-i-1)/c+1 else 0).toNat) H1
def tSortR (K:Aa)(te:TE):TE:=λσ H Q=>te σ H λx H1=>∃ (a:Addr) (ns:List Int),x=.ref a/\SqL K H1 a (ns.map V.int)/\ns.length<64 /\
 ∀ (p:Addr) (ns':List Int),ns'.Perm ns->ns'.Pairwise (· ≥ ·)->H1 p=none->Q (.ref p) (upd H1 p (.lst (ns'.map V.int)))
abbrev rngObj (n:Int)(t u v:Tok):Obj:={ cls:=.type "range",data:=.fields #[.int 0 t,.int n u,.int 1 v] }
abbrev rngIt (n:Int):Obj:={ cls:=.type "range_iterator",data:=.fields #[rawInt (n-1),rawInt n,rawInt (-1)] }
section
variable {prog:AE}{w:World}{A:Around}{E:Value->Shared->Prop}{s:Shared}
end
def iRev (ta:TA):TI:=λσ H R=>ta σ H λvs H1=>∃ n:Int,vs=[.int n]/\0<=n/\n<2^62/\R (Itr3 (n-1) (-1) n.toNat) H1
def Itv (K:Aa)(a:Addr)(n:Nat):It:=
 ⟨λi H=>∃ xs,SqL K H a xs/\xs.length=n/\i<n,λi H x H'=>H'=H/\∀ xs,SqL K H a xs->xs[n-1-i]?=some x,λi H=>n<=i⟩
def iRevL (K:Aa)(ta:TA):TI:=λσ H R=>ta σ H λvs H1=>∃ a xs,vs=[.ref a]/\SqL K H1 a xs/\R (Itv K a xs.length) H1
end L2
namespace L2
open PySem PySem.Spec PyProof.Rows PySem.W
structure Cal1 (P:AE)(w:World)(K:Frag)(mg:Str->Option Value)(base:Heap)(CX:CXT)(k:Nat)(x:Str)(ps:List Str)(sp:Sp)(dv:V):Prop where
 ex:∃ (f:Addr) (fd:Bj) (u:Value),mg x=some (.ref f)/\keepIn K (.ref f)=true/\Binds K fd ps [u]/\RelV dv u/\FnOk P w K mg base CX k f fd ps sp
end L2
namespace L2
open PySem PySem.Spec PyProof.Rows
def nZ {K:Aa}{a:Addr}{xs:List V}{g:TG}{tb:TS}{D:Ends}{σ:St}{H:Hp}(Pv:Nat->St->Hp->Prop)(h0:Pv 0 σ H)(hl:∀ i σ H,i<=xs.length->Pv i σ H->SqL K H a xs)
  (hs:∀ i x σ H (D':Ends),(∀ σ' H',Pv (i+1) σ' H'->D'.nx σ' H')->xs[i]?=some x->Pv i σ H->g x σ H (tb D')) (hd:∀ σ H,Pv xs.length σ H->D.nx σ H) :
  ∃ W:Nat->Nat->St->Hp->Prop,(∃ m,W 0 m σ H)/\∀ i m σ H,W i m σ H ->
   ((Itl K a).stop i H/\D.nx σ H)\/((Itl K a).go i H/\∃ N:St->Hp->Prop,(∀ σ' H',N σ' H'->∃ m',m'<m/\W (i+1) m' σ' H')/\∀ x H',(Itl K a).yld i H x H'->g x σ H' λσ2 H2=>tb { D with nx:=N,ct:=N,bk:=D.nx } σ2 H2):=
 jD Pv h0 hl (λi x σ H hx p=>hs i x σ H { D with nx:=Pv (i+1),ct:=Pv (i+1),bk:=D.nx } (λ_ _ h=>h) hx p) hd
def rT {lo:Int}{n:Nat}{g:TG}{tb:TS}{D:Ends}{σ:St}{H:Hp}(Pv:Nat->St->Hp->Prop)(h0:Pv 0 σ H)
  (hs:∀ i σ H (D':Ends),(∀ σ' H',Pv (i+1) σ' H'->D'.nx σ' H')->i<n->Pv i σ H->g (.int (lo+i)) σ H (tb D')) (hd:∀ σ H,Pv n σ H->D.nx σ H) :
  ∃ W:Nat->Nat->St->Hp->Prop,(∃ m,W 0 m σ H)/\∀ i m σ H,W i m σ H ->
   ((Itr lo n).stop i H/\D.nx σ H)\/((Itr lo n).go i H/\∃ N:St->Hp->Prop,(∀ σ' H',N σ' H'->∃ m',m'<m/\W (i+1) m' σ' H')/\∀ x H',(Itr lo n).yld i H x H'->g x σ H' λσ2 H2=>tb { D with nx:=N,ct:=N,bk:=D.nx } σ2 H2):=
 eY Pv h0 (λi σ H hi p=>hs i σ H { D with nx:=Pv (i+1),ct:=Pv (i+1),bk:=D.nx } (λ_ _ h=>h) hi p) hd
def vM {d:Addr}{ob:Obj}{kvs:List (Key×V)}{g:TG}{tb:TS}{D:Ends}{σ:St}{H:Hp}(Pv:Nat->St->Hp->Prop)(h0:Pv 0 σ H)(hl:∀ i σ H,i<=kvs.length->Pv i σ H->H d=some (.frz ob (.dK kvs)))
  (hs:∀ i kv σ H (D':Ends),(∀ σ' H',Pv (i+1) σ' H'->D'.nx σ' H')->kvs[i]?=some kv->Pv i σ H->g (kV kv.1) σ H (tb D')) (hd:∀ σ H,Pv kvs.length σ H->D.nx σ H) :
  ∃ W:Nat->Nat->St->Hp->Prop,(∃ m,W 0 m σ H)/\∀ i m σ H,W i m σ H ->
   ((Itd d ob kvs).stop i H/\D.nx σ H)\/((Itd d ob kvs).go i H/\∃ N:St->Hp->Prop,(∀ σ' H',N σ' H'->∃ m',m'<m/\W (i+1) m' σ' H')/\∀ v H',(Itd d ob kvs).yld i H v H'->g v σ H' λσ2 H2=>tb { D with nx:=N,ct:=N,bk:=D.nx } σ2 H2):=
 gD Pv h0 hl (λi x σ H hx p=>hs i x σ H { D with nx:=Pv (i+1),ct:=Pv (i+1),bk:=D.nx } (λ_ _ h=>h) hx p) hd
section
variable {prog:AE}{w:World}{A:Around}{E:Value->Shared->Prop}{R:Result->Shared->Prop}{I S:Addr}{fp wr:List Addr}{n:Nat}{P:Nat->Value->Prop}{St:Nat->Heap->Prop}{kw:List (Str×Value)}
abbrev lsO (xs:Array Value)(c:Nat):Obj:={ cls:=.type "list",dict:=none,data:=.seq xs c,slots:=#[] }
end
def tMaxD (K:Aa)(d:Int)(te:TE):TE:=λσ H Q=>te σ H λx H1=>∃ l ns,x=.ref l/\SqL K H1 l (ns.map V.int)/\∀ m:Int,(ns=[]/\m=d\/m∈ns/\∀ a∈ns,a<=m)->Q (.int m) H1
section
variable {prog:AE}{w:World}{A:Around}{E:Value->Shared->Prop}{R:Result->Shared->Prop}{I S:Addr}{fp wr:List Addr}{n:Nat}{P:Nat->Value->Prop}{St:Nat->Heap->Prop}{kw:List (Str×Value)}
theorem qU:(toString "min" ++ toString ".loop":String) = "min.loop":=by decide
def aCo (W:Walks prog w A.in1 I fp wr n P St)(bt:Nat->Nat->Bool)(hcmp:CmpOf prog w A.in1 .Lt P bt)(hSf:S∉fp):∀ (k j:Nat) (s:Shared) (vb:Value) (c:Nat),n-(j+1)=k->j+1<=n->St (j+1) s.heap->P (argBest bt j) vb->s.heap.get? S=some (lsO #[vb,vb] c) ->
  (∀ v h' tk,P (argBest bt (n-1)) v->(∀ b o,b∉wr->b≠S->s.heap.get? b=some o->h'.get? b=some o)->R (.ok (.ret v)) { s with heap:=h',toks:=tk })->DP (model prog w) A (.builtin "min.loop" ⟨[.ref I,.none,.ref S],kw⟩) R s:=by
 have hSw:S∉wr:=λh=>hSf (W.sub _ h);intro k;induction k with
 |zero=>
  intro j s vb c hk hj hst hPb hS hR;have hin:j+1=n:=by omega
  refine Ea F.entry_min_loop ?_;rw [DJ Cf _];show wpAny _ A.in1 (seqItems? (.ref S) >>= _) _ _ s;refine Aw (wpAny_seqItems hS rfl ?_);show wpAny _ A.in1 (tryCatch (pyNext (.ref I)) _ >>= _) _ _ s;refine Aw (wpAny_tryCatch (W.done s _ _ (hin▸hst) λh' tk hk'=>?_));have hS':=hk' S _ hSw hS;show wpAny _ A.in1 (updateSeq S (λ_=>#[]) >>= _) _ _ _;refine Aw (wpAny_updateSeq hS' rfl (Aw (wpAny_letGo (AM ?_))));exact hR vb _ tk (by rw [<- hin];exact hPb) λb o hbw hbS e=>(Bm _ _ (Au hbS)).trans (hk' b o hbw e)
 |succ k ih=>
  intro j s vb c hk hj hst hPb hS hR;have hlt:j+1<n:=by omega
  refine Ea F.entry_min_loop ?_;rw [DJ Cf _];show wpAny _ A.in1 (seqItems? (.ref S) >>= _) _ _ s;refine Aw (wpAny_seqItems hS rfl ?_);show wpAny _ A.in1 (tryCatch (pyNext (.ref I)) _ >>= _) _ _ s;refine Aw (wpAny_tryCatch (W.item (j+1) s _ _ hlt hst λv h' tk hP hst' hk'=>?_));have hS':=hk' S _ hSw hS;show wpAny _ A.in1 (tryCatch (holding [v,v] (richCompare .Lt v vb >>= _)) _ >>= _) _ _ _;refine Aw (wpAny_tryCatch (wpAny_holding (Aw (hcmp (j+1) (argBest bt j) v vb _ _ _ hP hPb ?_))));refine Aw (wpAny_holding (BM ?_));refine Aw (wpAny_letGo (AM ?_));cases hb:bt (j+1) (argBest bt j) with
  |true=>
   simp only [if_true];refine Aw (wpAny_updateSeq hS' rfl (Aw (wpAny_letGo ?_)));rw [qU];refine AM ⟨plainId_quiet Cf _,ih (j+1) _ v _ (by omega) hlt (W.frame _ _ _ hst' λb hbf o e=>?_) (by simp only [argBest,hb,if_true];exact hP) (DI _ hS' rfl) λv' h'' tk'' hP' hk''=>hR v' h'' tk'' hP' λb o hbw hbS e=>hk'' b o hbw hbS ((Bm _ _ (Au hbS)).trans (hk' b o hbw e))⟩;exact (Bm _ _ (λh:S=b=>hSf (by rw [h];exact hbf))).trans e
  |false=>
   simp only [Cb,if_false];refine Aw (wpAny_letGo ?_);rw [qU];exact AM ⟨plainId_quiet Cf _,ih (j+1) _ vb c (by omega) hlt hst' (by simp only [argBest,hb,Cb,if_false];exact hPb) hS' λv' h'' tk'' hP' hk''=>hR v' h'' tk'' hP' λb o hbw hbS e=>hk'' b o hbw hbS (hk' b o hbw e)⟩
def yQ {c:Nat}(W:Walks prog w A.in1 I fp wr n P St)(bt:Nat->Nat->Bool)(hcmp:CmpOf prog w A.in1 .Lt P bt)(hSf:S∉fp)(hn:0<n)(hst:St 0 s.heap)(hS:s.heap.get? S=some (lsO #[] c))(hR:∀ v h' tk,P (argBest bt (n-1)) v->(∀ b o,b∉wr->b≠S->s.heap.get? b=some o->h'.get? b=some o)->R (.ok (.ret v)) { s with heap:=h',toks:=tk }):DP (model prog w) A (.builtin "min.loop" ⟨[.ref I,.none,.ref S],kw⟩) R s:=by
 have hSw:S∉wr:=λh=>hSf (W.sub _ h);refine Ea F.entry_min_loop ?_;rw [DJ Cf _];show wpAny _ A.in1 (seqItems? (.ref S) >>= _) _ _ s;refine Aw (wpAny_seqItems hS rfl ?_);show wpAny _ A.in1 (tryCatch (pyNext (.ref I)) _ >>= _) _ _ s;refine Aw (wpAny_tryCatch (W.item 0 s _ _ hn hst λv h' tk hP hst' hk'=>?_));have hS':=hk' S _ hSw hS;show wpAny _ A.in1 (updateSeq S (λ_=>#[v,v]) >>= _) _ _ _;refine Aw (wpAny_updateSeq hS' rfl ?_);rw [qU];refine AM ⟨plainId_quiet Cf _,aCo W bt hcmp hSf _ 0 _ v _ rfl hn (W.frame _ _ _ hst' λb hbf o e=>?_) hP (DI _ hS' rfl) λv' h'' tk'' hP' hk''=>hR v' h'' tk'' hP' λb o hbw hbS e=>hk'' b o hbw hbS ((Bm _ _ (Au hbS)).trans (hk' b o hbw e))⟩;exact (Bm _ _ (λh:S=b=>hSf (by rw [h];exact hbf))).trans e
def aCp {c:Nat}(W:Walks prog w A.in1 I fp wr 0 P St)(hSf:S∉fp)(hst:St 0 s.heap)(hS:s.heap.get? S=some (lsO #[] c))(hR:∀ h' tk,(∀ b o,b∉wr->b≠S->s.heap.get? b=some o->h'.get? b=some o)->R (.ok (.ret d)) { s with heap:=h',toks:=tk }):DP (model prog w) A (.builtin "min.loop" ⟨[.ref I,.none,.ref S],[(x,d)]⟩) R s:=by
 refine Ea F.entry_min_loop ?_;rw [DJ Cf _];show wpAny _ A.in1 (seqItems? (.ref S) >>= _) _ _ s;refine Aw (wpAny_seqItems hS rfl ?_);show wpAny _ A.in1 (tryCatch (pyNext (.ref I)) _ >>= _) _ _ s;refine Aw (wpAny_tryCatch (W.done s _ _ hst λh' tk hk'=>?_));show wpAny _ A.in1 (rule _ >>= _) _ _ _;refine Aw (wpAny_rule (AM ?_));exact hR h' tk λb o hbw _ e=>hk' b o hbw e
def sD (a v:Value):argsOk "min" ⟨[a],[(Str.ofString "default",v)]⟩:=by unfold argsOk;kernel_rfl
def rZ (hh:A.handled=none)(hl:s.heap.IsList l (intItems xs))(h0:xs.size=0->∀ h' tk,(∀ b o,s.heap.get? b=some o->h'.get? b=some o)->Q d { s with heap:=h',toks:=tk })(h1:∀ v h' tk,0<xs.size->(intItems xs)[argBest (λi j=>decide (numAt xs i<numAt xs j)) (xs.size-1)]?=some v->(∀ b o,s.heap.get? b=some o->h'.get? b=some o)->Q v { s with heap:=h',toks:=tk }):wpAny (model prog w) A (call (.builtin "min") [.ref l] [(Str.ofString "default",d)]) Q E s:=by
 refine wpAny_call (codeAny_call_builtin F.plain_min F.entry_min ?_);have hfin:wpAny (model prog w) A.in1 (Builtin.«min» ⟨[.ref l],[(Str.ofString "default",d)]⟩) (λfin s'=>match fin with
   |.done f=>(match (Except.ok f:Result) with|.ok (.ret v)=>Q v s'|.ok _=>False|.error e=>E e s')
   |.again c'=>c'.quiet=true/\DP (model prog w) A c' (λr s'=>match r with|.ok (.ret v)=>Q v s'|.ok _=>False|.error e=>E e s') s') E s:=by
  show wpAny _ A.in1 (Builtin.Builtins.bindParams "min" ["key","default"] 0 ⟨[],[(Str.ofString "default",d)]⟩ >>= _) _ _ s;refine Aw (wpAny_of_eq (show Builtin.Builtins.bindParams "min" ["key","default"] 0 ⟨[],[(Str.ofString "default",d)]⟩=pure [none,some d] from rfl) ?_);refine Aw (AM (Aw (iter_intList hl λs₂ e st hfp hlI=>?_)));subst e;refine Aw (wpAny_newObj_type ?_);rw [qU];have hSf:(s.heap.push { cls:=.type "list_iterator",data:=.fields #[.ref l,.int 0 0] }).objs.size∉[s.heap.objs.size,l]:=λhm=>BP _ (hfp _ hm);have W:=Walks.list (prog:=prog) (w:=w) (A:=A.in1) hh s.heap.objs.size l hlI (intItems xs);have ez:(intItems xs).size=xs.size:=by simp [intItems]
  rw [ez] at W;have st':=W.frame _ _ _ st λb _ o e=>Av (lsO #[] 0) e
  by_cases hx:xs.size=0
  ·rw [hx] at W
   exact AM ⟨plainId_quiet Cf _,aCp W hSf st' (AK _ rfl) λh' tk hk=>h0 hx h' tk (old_kept λb o hb e=>hk b o hb (AJ (AD e)) (Av _ e))⟩
  ·refine AM ⟨plainId_quiet Cf _,yQ W _ (CmpOf.ints_lt (numAt xs) (λ_ _=>intItems_at)) hSf (by omega) st' (AK _ rfl) λv h' tk hP hk=>?_⟩
   exact h1 v h' tk (by omega) hP (old_kept λb o hb e=>hk b o hb (AJ (AD e)) (Av _ e))
 simp only [checkBuiltinCall,F.kind_min];cases hsig:Manifest.signature? "min" with
 |none=>exact AM hfin
 |some sig=>
  have ha':Bind.checkArgs "min" sig ⟨[.ref l],[(Str.ofString "default",d)]⟩=pure ():=by
   have z:=sD (.ref l) d
   simpa only [argsOk,hsig] using z
  simp only [ha'];exact AM hfin
end
def aDj (K:Aa)(te:TE):TE:=λσ H Q=>te σ H λx H1=>∃ l ns,x=.ref l/\SqL K H1 l (ns.map V.int)/\(ns=[]->Q .non H1)/\∀ m:Int,m∈ns->(∀ a∈ns,m<=a)->Q (.int m) H1
def xP (hc:X.calm=true)(hg:Gl X "min")(hm:X.mg "min" = none)(he:PE X e te)(h1:backTo pos (AY [e] X.env)=(false,eval e X.env)::backTo pos (AY [] X.env):=by rfl)(h2:(backTo pos (AY [e] X.env)).any (·.1)=false:=by rfl) :
  PE X (.Call (.Name "min" p) [e] [⟨some "default",.Constant .none 0 cp,kp⟩] pos) (aDj X.K te):=by
 intro pins s σ H Q I h;refine CT (jV I hg hm boot_min (callWith_kw ?_ h1 h2 rfl rfl));rw [h1];refine Cp (thn (he pins s σ H _ I h) λv s1 ⟨x,H1,I1,r1,l,ns,ex,hl,q0,q⟩=>?_);subst ex;cases r1;refine CS ?_;refine kws_cons (thn (qO (X:=X) pins s1 σ H1 (λx H2=>x=.non/\H2=H1) I1 ⟨rfl,rfl⟩) λv2 s2 ⟨x2,H2,I2,r2,e1,e2⟩=>?_);subst e1 e2;cases r2;obtain ⟨its,r',pl,hz⟩:=I2.list hl;refine kws_nil ?_;have hi:=intsAre_of r';obtain ⟨xs,e⟩:=hi.allInts.items;have hns:ns=xs.toList.map (·.1):=by rw [<- hi.numsOf,<- nums_intItems,<- e]
 have hL:s2.heap.IsList l (intItems xs):=e▸pl.isList;refine rZ (I2.ok.hd hc) hL (λh0 h' tk keep=>⟨.non,H2,I2.kept keep,rfl,q0 ?_⟩) λv h' tk hp hv keep=>?_
 ·rw [hns,Array.eq_empty_of_size_eq_zero h0];rfl
 ·obtain ⟨t,rfl⟩:=intItems_at hv
  obtain ⟨g1,g2⟩:=argBest_lt (numAt xs) (xs.size-1);refine ⟨.int (numAt xs (argBest (λi j=>decide (numAt xs i<numAt xs j)) (xs.size-1))),H2,I2.kept keep,⟨t,rfl⟩,q _ ?_ λa ha=>?_⟩
  ·rw [hns,numAt_eq];exact getD_mem (by rw [Ab,BH];omega)
  ·rw [hns] at ha
   obtain ⟨j,hj,rfl⟩:=mem_getD ha;rw [Ab,BH] at hj;rw [<- numAt_eq];exact g2 j (by omega)
def wC (hc:X.calm=true):eT X (.builtin "min") (λxs H Q=>∃ (l:Addr) (ns:List Int),xs=[.ref l]/\SqL X.K H l (ns.map V.int)/\0<ns.length/\∀ m∈ns,(∀ a∈ns,m<=a)->Q (.int m) H):=by
 intro pins s σ H xs us Q I r h;obtain ⟨l,ns,rfl,hl,hp,q⟩:=h;obtain ⟨u,rfl,rx⟩:=vals1 r;cases rx;obtain ⟨its,r',pl,hz⟩:=I.list hl;have hi:=intsAre_of r';obtain ⟨xs,e⟩:=hi.allInts.items;have hns:ns=xs.toList.map (·.1):=by rw [<- hi.numsOf,<- nums_intItems,<- e]
 have hL:s.heap.IsList l (intItems xs):=e▸pl.isList;have hsz:0<xs.size:=by rw [hns,Ab,BH] at hp;exact hp
 refine min_intList (I.ok.hd hc) hL hsz λv h' tk hv keep=>?_;obtain ⟨t,rfl⟩:=intItems_at hv;obtain ⟨g1,g2⟩:=argBest_lt (numAt xs) (xs.size-1);refine ⟨.int (numAt xs (argBest (λi j=>decide (numAt xs i<numAt xs j)) (xs.size-1))),H,I.kept keep,⟨t,rfl⟩,q _ ?_ λa ha=>?_⟩
 ·rw [hns,numAt_eq];exact getD_mem (by rw [Ab,BH];omega)
 ·rw [hns] at ha
  obtain ⟨j,hj,rfl⟩:=mem_getD ha;rw [Ab,BH] at hj;rw [<- numAt_eq];exact g2 j (by omega)
end L2
namespace K77
open PySem PySem.Spec PyProof.Rows L2 GM TM
structure Th where
 x:Str
 k:Str
 l:Option Int
 ks:List Str
 f:Str->Int
 T:Int
 w:Str->List Int
def lv:Option Int->V
 |none=>.non
 |some l=>.int l
structure Wy (H:Hp)(ws:List (Key×V))(ks:List Str)(n:Nat)(w:Str->List Int):Prop where
 dk:∃ wk,DK ws wk/\∀ y,y∈wk↔y∈ks
 at':∀ y∈ks,∃ e,valV ws (.inr y)=some (.ref e)/\H e=some (.tup ((w y).map V.int))/\(w y).length<=n
def Wy.keep {n n':Nat}(h:Wy H ws ks n w)(k:Tk H H')(le:n<=n'):Wy H' ws ks n' w:=⟨h.dk,λy hy=>by
 obtain ⟨e,e1,e2,e3⟩:=h.at' y hy;exact ⟨e,e1,k _ _ e2,AX e3 le⟩⟩
structure Tq (H:Hp)(M:Int)(n:Nat)(q d1 d2:Addr)(z:Th):Prop where
 hq:H q=some (.tup [.str z.k,lv z.l,.ref d1,.ref d2])
 hd:∃ kvs ks,H d1=some (.dK kvs)/\HA H kvs ks M z.f/\∀ y,y∈ks↔y∈z.ks
 hw:∃ ws,H d2=some (.dK ws)/\Wy H ws z.ks n z.w
def KpL (L:List Addr)(H H':Hp):Prop:=∀ b o,b∉L->H b=some o->H' b=some o
def KpL.of (s:Same H H'):KpL L H H':=λb o _ e=>s b o e
def Tg (H:Hp)(L:List Addr)(M:Int)(n:Nat)(v:V)(z:Th):Prop:=∃ q d1 d2,v=.ref q/\Tq H M n q d1 d2 z/\d1∉L/\d2∉L
def Tq.keep {M:Int}{n n':Nat}(h:Tq H M n q d1 d2 z)(o1:d1∉L)(o2:d2∉L)(k:KpL L H H')(t:Tk H H')(le:n<=n'):Tq H' M n' q d1 d2 z:=by
 obtain ⟨h1,⟨kvs,ks,e1,e2,e3⟩,⟨ws,w1,w2⟩⟩:=h;exact ⟨t _ _ h1,⟨kvs,ks,k _ _ o1 e1,e2.keep t,e3⟩,⟨ws,k _ _ o2 w1,w2.keep t le⟩⟩
def Tg.keep {M:Int}{n n':Nat}(h:Tg H L M n v z)(k:KpL L H H')(t:Tk H H')(le:n<=n'):Tg H' L M n' v z:=by
 obtain ⟨q,d1,d2,rfl,h,o1,o2⟩:=h;exact ⟨q,d1,d2,rfl,h.keep o1 o2 k t le,o1,o2⟩
theorem Tq.same {M:Int}{n:Nat}(h:Tq H M n q d1 d2 z)(s:Same H H'):Tq H' M n q d1 d2 z:=h.keep (L:=[]) Ag Ag (KpL.of s) s.tk (Ak _)
structure TOk (M:Int)(n:Nat)(z:Th):Prop where
 wr:Wr z.x
 nd:z.ks.Nodup
 pos:∀ y∈z.ks,1<=z.f y
 out:∀ y,y∉z.ks->z.f y=0
 sum:(z.ks.map z.f).sum=z.T*M
 T0:0<=z.T
 Tb:z.T<=1000000*n
 ln:z.ks.length<=n
structure ZOk (M:Int)(n:Nat)(zs:List Th):Prop where
 nd:(zs.map Th.x).Nodup
 ok:∀ z∈zs,TOk M n z
 kd:∀ z∈zs,(z.k = "lot" /\ ∃ l,z.l=some l)\/((z.k = "store" \/ z.k = "dose")/\z.l=none)
 lots:∀ z∈zs,∀ y∈z.ks,∃ u∈zs,u.x=y/\u.k = "lot"
 M0:0<M
 bM:Bt (26*n+1) M
 ln:zs.length<=n
 n60:n<=52
abbrev Ths (H:Hp)(L:List Addr)(M:Int)(n:Nat):List (Key×V)->List Th->Prop:=Paired (λkv z=>kv.1=.inr z.x/\Tg H L M n kv.2 z)
structure PS (C:Addr)(H:Hp)(L:List Addr)(p dl dt db:Addr)(bs:List V)(kvs:List (Key×V))(day:Int)(bf:List V)(M:Int)(n:Nat)(zs:List Th):Prop where
 bk:Bk C H p dl dt db bs kvs day bf
 th:Ths H L M n kvs zs
 bl:bs.length=n
 fl:bf.length=n
 inL:p∈L/\dl∈L/\dt∈L/\db∈L
 al:∀ b∈L,H b≠none
 g:ZOk M n zs
section
variable {C:Addr}{H H':Hp}{L:List Addr}{p dl dt db:Addr}{bs:List V}{kvs:List (Key×V)}{day:Int}{bf:List V}{M:Int}{n:Nat}{zs:List Th}
def Ths.keep {n':Nat}(h:Ths H L M n kvs zs)(k:KpL L H H')(t:Tk H H')(le:n<=n'):Ths H' L M n' kvs zs:=bG (λkv z ⟨e,r⟩=>⟨e,r.keep k t le⟩) h
theorem Ths.keys:∀ {kvs:List (Key×V)} {zs:List Th},Ths H L M n kvs zs->kvs.map (·.1)=(zs.map Th.x).map As
 |_,_,.nil=>rfl
 |_,_,.cons ⟨e,_⟩ t=>by rw [Ao,Ao,Ao,e,Ths.keys t]
theorem Ths.val:∀ {kvs:List (Key×V)} {zs:List Th},Ths H L M n kvs zs->(zs.map Th.x).Nodup->∀ z∈zs,∃ v,valV kvs (.inr z.x)=some v/\Tg H L M n v z
 |_,_,.nil,_,z,h=>nomatch h
 |kv::kvs,y::zs,.cons ⟨e,r⟩ t,nd,z,h=>by
  rw [Ao,AU] at nd
  rcases Ae.mp h with rfl|h
  ·exact ⟨kv.2,bJ e,r⟩
  ·obtain ⟨v,h1,h2⟩:=Ths.val t nd.2 z h
   refine ⟨v,?_,h2⟩;rw [bE]
   ·exact h1
   ·rw [e]
    intro q;exact nd.1 (BG q▸Ai h)
theorem Ths.non:∀ {kvs:List (Key×V)} {zs:List Th} {x:Str},Ths H L M n kvs zs->x∉zs.map Th.x->valV kvs (.inr x)=none
 |_,_,_,.nil,_=>rfl
 |kv::kvs,y::zs,x,.cons ⟨e,_⟩ t,h=>by
  rw [Ao,Ae,not_or] at h;rw [bE (by rw [e];intro q;exact h.1 (BG q).symm)];exact Ths.non t h.2
def PS.keep (h:PS C H L p dl dt db bs kvs day bf M n zs)(s:Same H H'):PS C H' L p dl dt db bs kvs day bf M n zs:=⟨h.bk.keep s,h.th.keep (KpL.of s) s.tk (Ak _),h.bl,h.fl,h.inL,λb hb z=>h.al b hb (same_none s z),h.g⟩
theorem PS.at (h:PS C H L p dl dt db bs kvs day bf M n zs)(hz:z∈zs):∃ q d1 d2,valV kvs (.inr z.x)=some (.ref q)/\Tq H M n q d1 d2 z/\d1∉L/\d2∉L:=by
 obtain ⟨v,e,q,d1,d2,rfl,r⟩:=h.th.val h.g.nd z hz;exact ⟨q,d1,d2,e,r⟩
def PS.fresh (h:PS C H L p dl dt db bs kvs day bf M n zs)(e:H b=none):b∉L:=λz=>h.al b z e
theorem PS.out (h:PS C H L p dl dt db bs kvs day bf M n zs)(e:b∉L):Out p dl dt db b:=⟨λz=>e (z▸h.inL.1),λz=>e (z▸h.inL.2.1),λz=>e (z▸h.inL.2.2.1),λz=>e (z▸h.inL.2.2.2)⟩
def PS.kpl (h:PS C H L p dl dt db bs kvs day bf M n zs)(k:Kp p dl dt db H H'):KpL L H H':=λb o u e=>k b o (h.out u) e
theorem PS.kl (h:PS C H L p dl dt db bs kvs day bf M n zs):kvs.length=zs.length:=bY h.th
def jA {xs ys:List Int}(h:xs.Perm ys):xs.sum=ys.sum:=by
 induction h with
 |nil=>rfl
 |cons x _ ih=>rw [BN,BN,ih]
 |swap x y l=>simp only [BN];omega
 |trans _ _ i1 i2=>exact i1.trans i2
theorem TOk.hsum {z:Th}{kvs:List (Key×V)}{ks:List Str}(t:TOk M n z)(a:HA H kvs ks M z.f)(m:∀ y,y∈ks↔y∈z.ks):(ks.map z.f).sum=z.T*M:=by
 rw [<- t.sum];exact jA (((AR a.dk.nd t.nd).mpr m).map _)
theorem TOk.len (t:TOk M n z)(a:HA H kvs ks M z.f)(m:∀ y,y∈ks↔y∈z.ks):ks.length=z.ks.length:=((AR a.dk.nd t.nd).mpr m).length_eq
def ZOk.bm (g:ZOk M n zs):Bt 1360 M:=g.bM.mono (by have:=g.n60;omega)
def bT {T:Int}(h0:0<=T)(h:T<=1000000*(n:Int))(hn:n<=52):Bt 26 T:=eE 26 (c:=67108864) h0 (by omega)
def bTM (g:ZOk M n zs)(t:TOk M n z):Bt 1386 (z.T*M):=((bT t.T0 t.Tb g.n60).mul g.bm).mono (by decide)
end
def Wds (z:Th):Prop:=z.k = "lot" \/ z.k = "store" \/ z.k = "dose"
def hV (C:Addr)(K:Aa):Sp:=λvs H Q _=>∃ L p dl dt db bs kvs day bf M n zs x u,∃ ws:List Str,vs=[.ref p,.str x,.ref u]/\PS C H L p dl dt db bs kvs day bf M n zs/\Wr x/\SqT K H u (ws.map V.str) /\
 ((∃ z∈zs,z.x=x/\∀ H',Same H H'->Q (.bl (decide (z.k∈ws))) H')\/(x∉zs.map Th.x/\∀ H',Same H H'->Q (.bl false) H'))
def hU (C:Addr):Sp:=λvs H Q _=>∃ L p dl dt db bs kvs day bf M n zs z,vs=[.ref p,.str z.x]/\PS C H L p dl dt db bs kvs day bf M n zs/\z∈zs /\
 ∀ q d1 d2 H',Same H H'->Tq H' M n q d1 d2 z->d1∉L->d2∉L->Q (.ref q) H'
def wV (C:Addr):Sp:=λvs H Q _=>∃ L p dl dt db bs kvs day bf M n zs z,vs=[.ref p,.str z.x]/\PS C H L p dl dt db bs kvs day bf M n zs/\z∈zs/\∀ H',Same H H'->Q (.int z.T) H'
section
variable {P:AE}{w:World}{K:Aa}{mg:Str->Option Value}{base:Heap}
def aBe:FnScope ["self","name","words"] ["self","name","words"] (aG qH):=fnScOk (by decide +kernel)
theorem aFj {x:Str}{ws:List Str}:inV (.str x) (ws.map V.str)=decide (x∈ws):=by
 by_cases z:x∈ws
 ·rw [vH.mpr z,decide_eq_true z]
 ·rw [decide_eq_false z]
  exact Bool.eq_false_iff.mpr λq=>z (vH.mp q)
def yC {f C:Addr}{fd:Bj}(F:Fun K "is_one_of" "Books.is_one_of" qH f fd)(L:Cl K mg C)(cI:Cal P w K mg base CX0 1 "is_ware" ["thing"] (iZ K)):FnOk P w K mg base CX0 2 f fd ["self","name","words"] (hV C K):=by
 refine F.ok aBe (λvs H Q E h=>?_) (λcdv A outer s H vs Q E hr h=>?_)
 ·obtain ⟨_,_,_,_,_,_,_,_,_,_,_,_,_,_,_,rfl,_⟩:=h
  rfl
 ·obtain ⟨l,p,dl,dt,db,bs,kvs,day,bf,M,n,zs,x,u,ws,rfl,B,wx,hu,k⟩:=h
  refine ⟨_,(aF (aK (iO (aV cI hr rfl aR (aA (pv 1) aE)) (iO (tX (tY (aO hr) (pv 1) (bU (pv 0) rfl))) (iN (dM uB (cR gY (aI (aO hr) (bU (pv 0) rfl) (pv 1) (λ_ _=>rfl)) aH (λ_ _=>rfl)) (pv 2) (by with_unfolding_all rfl))))))),?_⟩;refine ⟨_,rfl,_,rfl,.inr ⟨x,rfl,by have:=wx.l8;omega,λ_ H1 s1=>⟨_,rfl,iteT ?_⟩,λn=>absurd wx n⟩⟩;have B1:=B.keep s1;obtain ⟨⟨dx,h0⟩,hl,ht,hb,n6⟩:=id B1.bk
  rcases k with ⟨z,hz,rfl,k⟩|⟨nx,k⟩
  ·obtain ⟨q,d1,d2,ev,tq,_⟩:=B1.at hz
   have gv:DGet H1 dt (.str z.x) (some (.ref q)):=by rw [<- ev];exact DGet.k (k:=.inr z.x) ht
   refine ⟨_,rfl,_,rfl,p,C,dx,_,_,rfl,h0,L.cl,L.nT,aZ,dt,_,rfl,gv,_,rfl,iteT ?_⟩;refine ⟨_,rfl,p,C,dx,_,_,rfl,h0,L.cl,L.nT,aZ,_,rfl,dt,_,rfl,gv,q,_,_,_,rfl,rfl,SqT.of tq.hq,rfl,_,rfl,u,_,rfl,.inr (s1.tup hu),rfl,vO ws,?_⟩;show Q (V.bl (inV (.str z.k) (ws.map V.str))) H1;rw [aFj];exact k _ s1
  ·have gv:DGet H1 dt (.str x) none:=by rw [<- B1.th.non nx];exact DGet.k (k:=.inr x) ht
   exact ⟨_,rfl,_,rfl,p,C,dx,_,_,rfl,h0,L.cl,L.nT,aZ,dt,_,rfl,gv,_,rfl,iteF (k _ s1)⟩
def aBc:FnScope ["self","name"] ["self","name"] (aG qG):=fnScOk (by decide +kernel)
theorem aDb {M:Int}{n:Nat}(g:ZOk M n zs)(hz:z∈zs):decide (z.k∈(["lot","store","dose"]:List Str))=true:=by
 rcases g.kd z hz with ⟨e,_⟩|⟨e|e,_⟩<;>rw [e]<;>decide +kernel
def yB (F:Fun K "thing_of" "Books.thing_of" qG f fd)(L:Cl K mg C)(mO:MCal P w K mg base CX0 2 C "is_one_of" ["self","name","words"] (hV C K)):FnOk P w K mg base CX0 3 f fd ["self","name"] (hU C):=by
 refine F.ok aBc (λvs H Q E h=>?_) (λcdv A outer s H vs Q E hr h=>?_)
 ·obtain ⟨_,_,_,_,_,_,_,_,_,_,_,_,_,rfl,_⟩:=h
  rfl
 ·obtain ⟨l,p,dl,dt,db,bs,kvs,day,bf,M,n,zs,z,rfl,B,hz,k⟩:=h
  refine ⟨_,(aC (bC (eC (cU (cQ L.cl mO hr aR (pv 0) (aA (pv 1) (aA (bF (aA aJ (aA aJ (aA aJ aE)))) aE))))) (aF iR) aQ)
   (aF (aK (aI (aO hr) (bU (pv 0) rfl) (pv 1) (λ_ _=>rfl))))),?_⟩
  obtain ⟨⟨dx,h0⟩,hl,ht,hb,n6⟩:=id B.bk;refine ⟨_,rfl,p,dx,_,rfl,h0,(by kernel_rfl),_,rfl,zLn3,λu hu=>?_⟩;have t1:=Same.upd (o:=.tup [.str "lot",.str "store",.str "dose"]) hu;refine ⟨l,p,dl,dt,db,bs,kvs,day,bf,M,n,zs,z.x,u,["lot","store","dose"],rfl,B.keep t1,(B.g.ok z hz).wr,SqT.of aB,.inl ⟨z,hz,rfl,λH2 s2=>?_⟩⟩;have s12:=t1.trans s2;rw [aDb B.g hz];obtain ⟨q,d1,d2,ev,tq,o1,o2⟩:=(B.keep s12).at hz;have gv:DGet H2 dt (.str z.x) (some (.ref q)):=by rw [<- ev];exact DGet.k (k:=.inr z.x) (s12 _ _ ht)
  exact ⟨_,rfl,iteF ⟨_,rfl,p,C,dx,_,_,rfl,s12 _ _ h0,L.cl,L.nT,aZ,_,rfl,dt,_,rfl,gv,k q d1 d2 _ s12 tq o1 o2⟩⟩
def aF8:FnScope ["self","name"] ["self","name"] (aG sTot):=fnScOk (by decide +kernel)
def aEu (F:Fun K "total" "Books.total" sTot f fd)(L:Cl K mg C)(mT:MCal P w K mg base CX0 4 C "thing_of" ["self","name"] (hU C))(cT:Cal P w K mg base CX0 4 "total_of" ["holding"] (lE K)):FnOk P w K mg base CX0 5 f fd ["self","name"] (wV C):=by
 refine F.ok aF8 (λvs H Q E h=>?_) (λcdv A outer s H vs Q E hr h=>?_)
 ·obtain ⟨_,_,_,_,_,_,_,_,_,_,_,_,_,rfl,_⟩:=h
  rfl
 ·obtain ⟨l,p,dl,dt,db,bs,kvs,day,bf,M,n,zs,z,rfl,B,hz,k⟩:=h
  refine ⟨_,(aF (aK (cR gY (aV cT hr rfl aR (aA (cR gY (cQ L.cl mT hr aR (pv 0) (aA (pv 1) aE)) aH (λ_ _=>rfl)) aE)) aH (λ_ _=>rfl)))),?_⟩;obtain ⟨⟨dx,h0⟩,hl,ht,hb,n6⟩:=id B.bk;refine ⟨_,rfl,p,dx,_,rfl,h0,(by kernel_rfl),_,rfl,l,p,dl,dt,db,bs,kvs,day,bf,M,n,zs,z,rfl,B,hz,λq d1 d2 H1 s1 tq o1 o2=>?_⟩;obtain ⟨kv,ks,e1,ha,mem⟩:=tq.hd;have to:=B.g.ok z hz;have es:=to.hsum ha mem;refine ⟨q,_,_,_,rfl,rfl,SqT.of tq.hq,rfl,d1,kv,ks,M,z.f,rfl,e1,ha,B.g.M0,B.g.bm.mono (by decide),by rw [es];exact (bTM B.g to).mono (by decide),λr t b H2 s2 sr fr=>?_⟩;rw [es] at fr;obtain ⟨rfl,rfl⟩:=fr.uniq B.g.M0 (⟨mW to.T0,by rw [Int.mul_one]⟩:Fr M z.T 1 (z.T*M));exact ⟨r,_,_,_,rfl,rfl,sr,rfl,k _ (s1.trans s2)⟩
end
theorem fO :∀ {ys:List V} {ss:List Str},ys.length=ss.length->(∀ (j:Nat) y,ys[j]?=some y->∃ c s,y=.ref c/\ss[j]?=some s/\Pr c s)->∃ cs:List Addr,ys=cs.map V.ref/\Paired Pr cs ss
 |[],[],_,_=>⟨[],rfl,.nil⟩
 |[],_::_,h,_=>by simp at h
 |_::_,[],h,_=>by simp at h
 |y::ys,w::ws,l,h=>by
  obtain ⟨q,w',rfl,hw,hq⟩:=h 0 y rfl;simp at hw;subst hw;obtain ⟨qs,e,p⟩:=fO (Pr:=Pr) (ys:=ys) (ss:=ws) (by simpa using l) λj y hj=>by
   obtain ⟨q,w,e1,e2,e3⟩:=h (j+1) y (by rw [Cg];exact hj);rw [Cg] at e2;exact ⟨q,w,e1,e2,e3⟩
  exact ⟨q::qs,by rw [e];rfl,.cons hq p⟩
theorem pG:∀ {ys:List V},(∀ y∈ys,∃ n:Int,y=.int n)->∃ ns:List Int,ys=ns.map V.int
 |[],_=>⟨[],rfl⟩
 |y::ys,h=>by
  obtain ⟨n,rfl⟩:=h y AO;obtain ⟨ns,rfl⟩:=pG (ys:=ys) λy hy=>h y (AL _ hy);exact ⟨n::ns,rfl⟩
def LstOf (zs:List Th)(y:Str)(l:Int):Prop:=∃ u∈zs,u.x=y/\u.k = "lot" /\ u.l=some l
theorem ZOk.lst {M:Int}{n:Nat}(g:ZOk M n zs)(hz:z∈zs)(hy:y∈z.ks):∃ u l,u∈zs/\u.x=y/\u.k = "lot" /\ u.l=some l:=by
 obtain ⟨u,hu,e1,e2⟩:=g.lots z hz y hy
 rcases g.kd u hu with ⟨_,l,e3⟩|⟨e|e,_⟩
 ·exact ⟨u,l,hu,e1,e2,e3⟩
 ·rw [e] at e2;exact absurd e2 (by decide +kernel)
 ·rw [e] at e2;exact absurd e2 (by decide +kernel)
theorem kN {zs:List Th}(nd:(zs.map Th.x).Nodup):∀ {u v:Th},u∈zs->v∈zs->u.x=v.x->u=v:=by
 induction zs with
 |nil=>intro u v h;cases h
 |cons z zs ih=>
  intro u v hu hv e;rw [Ao,AU] at nd
  rcases Ae.mp hu with e1|h1
  ·rcases Ae.mp hv with e2|h2
   ·rw [e1,e2]
   ·rw [e1] at e
    exact absurd (e▸Ai (f:=Th.x) h2) nd.1
  ·rcases Ae.mp hv with e2|h2
   ·rw [e2] at e
    exact absurd (e▸Ai (f:=Th.x) h1) nd.1
   ·exact ih nd.2 h1 h2 e
theorem LstOf.uniq {zs:List Th}(nd:(zs.map Th.x).Nodup){y:Str}{l l':Int}(h:LstOf zs y l)(h':LstOf zs y l'):l=l':=by
 obtain ⟨u,hu,e1,_,e2⟩:=h;obtain ⟨u',hu',e1',_,e2'⟩:=h';have:=kN nd hu hu' (e1.trans e1'.symm);subst this;exact AF (e2.symm.trans e2')
abbrev HePr (H:Hp)(M:Int)(f:Str->Int)(c:Addr)(s:Str):Prop:=∃ t a b,H c=some (.tup [.str s,.ref t])/\H t=some (.tup [.int a,.int b])/\Fr M a b (f s)
def tE (C:Addr):Sp:=λvs H Q _=>∃ L p dl dt db bs kvs day bf M n zs z,vs=[.ref p,.str z.x]/\PS C H L p dl dt db bs kvs day bf M n zs/\z∈zs /\
 ∀ D cs ss H',Same H H'->H D=none->H' D=some (.lst (cs.map V.ref))->Paired (HePr H' M z.f) cs ss->ss.Perm z.ks->sortedS ss=true->Q (.ref D) H'
def tD (C:Addr):Sp:=λvs H Q _=>∃ L p dl dt db bs kvs day bf M n zs z,vs=[.ref p,.str z.x]/\PS C H L p dl dt db bs kvs day bf M n zs/\z∈zs /\
 (z.ks=[]->∀ H',Same H H'->Q .non H')/\∀ m H',Same H H'->(∃ y∈z.ks,LstOf zs y m)->(∀ y∈z.ks,∀ l,LstOf zs y l->m<=l)->Q (.int m) H'
abbrev NmPr (H:Hp)(zs:List Th)(c:Addr)(s:Str):Prop:=∃ u∈zs,u.x=s/\H c=some (.tup [.str s,.str u.k])
def aA2 (C:Addr):Sp:=λvs H Q _=>∃ L p dl dt db bs kvs day bf M n zs,vs=[.ref p]/\PS C H L p dl dt db bs kvs day bf M n zs /\
 ∀ D cs ss H',Same H H'->H D=none->H' D=some (.lst (cs.map V.ref))->Paired (NmPr H' zs) cs ss->ss.Perm (zs.map Th.x)->sortedS ss=true->Q (.ref D) H'
def lI (C:Addr):Sp:=λvs H Q _=>∃ L p dl dt db bs kvs day bf M n zs z,vs=[.ref p,.str z.x]/\PS C H L p dl dt db bs kvs day bf M n zs/\z∈zs/\z.k ≠ "dose" /\ ∀ H',Same H H'->Q .non H'
def lJ (C:Addr):Sp:=λvs H Q _=>∃ L p dl dt db bs kvs day bf M n zs x y,vs=[.ref p,.str x,.str y]/\PS C H L p dl dt db bs kvs day bf M n zs/\Wr y/\y≠x/\(∀ z∈zs,z.x=y->z.k = "store")/\∀ H',Same H H'->Q .non H'
def iX (C:Addr):Sp:=λvs H Q _=>∃ L p dl dt db bs kvs day bf M n zs z m,vs=[.ref p,.str z.x,.int m]/\PS C H L p dl dt db bs kvs day bf M n zs/\z∈zs/\m<=z.T/\(∀ y∈z.ks,∀ l,LstOf zs y l->day<=l)/\∀ H',Same H H'->Q .non H'
section
variable {P:AE}{w:World}{K:Aa}{mg:Str->Option Value}{base:Heap}
def ndHe:(["lot","holding"]:List Str).Nodup:=by decide +kernel
def zW:FnScope ["self","name","holding"] ["self","name"] (aG rM):=fnScOk (by decide +kernel)
def aCe (F:Fun K "held" "Books.held" rM f fd)(T:Txt mg)(L:Cl K mg C)(mT:MCal P w K mg base CX0 3 C "thing_of" ["self","name"] (hU C)):FnOk P w K mg base CX0 4 f fd ["self","name"] (tE C):=by
 refine F.ok zW (λvs H Q E h=>?_) (λcdv A outer s H vs Q E hr h=>?_)
 ·obtain ⟨_,_,_,_,_,_,_,_,_,_,_,_,_,rfl,_⟩:=h
  rfl
 ·obtain ⟨l,p,dl,dt,db,bs,kvs,day,bf,M,n,zs,z,rfl,B,hz,k⟩:=h
  refine ⟨_,(aC (aT (i:=2) zW.nd rfl (Or.inr rfl) (cR gY (cQ L.cl mT hr aR (pv 0) (aA (pv 1) aE)) aH (λ_ _=>rfl)))
   (aF (aK (eQ (N':=["lot","holding"]) (λσ=>[none,some 2].map λt=>t.bind λj=>(σ[j]?).join) rfl rfl (by decide +kernel) (by decide +kernel)
     (iF (sc:=aG rM) rfl (by decide +kernel)) (λ_ _ _=>dR (sc:=aG rM) (N:=["self","name","holding"]) [none,some 2] rfl rfl rfl rfl (by decide +kernel))
     (cK (aS (dG rfl) rfl T.sorted' DQ (aA (pv 2) aE))) (λ_ _ _ _ _ _=>aY (i:=0) ndHe rfl (Or.inl rfl)) (λ_ _ _ _ _ _=>dE)
     (λ_ _ _ _ _ _=>bF (aA (pv 0) (aA (aI (aO hr) (pv 1) (pv 0) (λ_ _=>rfl)) aE))))))),?_⟩
  obtain ⟨⟨dx,h0⟩,hl,ht,hb,n6⟩:=id B.bk;refine ⟨_,rfl,p,dx,_,rfl,h0,(by kernel_rfl),_,rfl,l,p,dl,dt,db,bs,kvs,day,bf,M,n,zs,z,rfl,B,hz,λq d1 d2 H1 s1 tq o1 o2=>?_⟩;obtain ⟨kv,ks,e1,ha,mem⟩:=tq.hd;have to:=B.g.ok z hz;have kl:=to.len ha mem;have n60:=B.g.n60;have tl:=to.ln;refine ⟨q,_,_,_,rfl,rfl,SqT.of tq.hq,rfl,_,rfl,d1,kv,ks,rfl,e1,ha.dk.keys,by rw [ha.dk.len];omega,λa ss pm so hz'=>?_⟩;have t2:=Same.upd (o:=.lst (ss.map V.str)) hz';have sl:=pm.length_eq;refine ⟨a,rfl,⟨_,SqL.of aB⟩,λD hD=>?_⟩;refine dU (Ys.list (xs:=ss.map V.str) (SqL.of aB)) (λj _ y H'=>∃ c s,y=.ref c/\ss[j]?=some s/\HePr H' M z.f c s) (λ_ _ _ _ _ ⟨c,s,e1,e2,t,a,b,e3,e4,e5⟩ tk=>⟨c,s,e1,e2,t,a,b,tk _ _ e3,tk _ _ e4,e5⟩) hD (by rw [Ab];omega) (λi y H' R hy sm hR=>?_) (λys H5 sm hD5 yl hy=>?_)
  ·rw [Ah] at hy
   obtain ⟨x,hx,rfl⟩:=AA.mp hy;have s3:=t2.trans sm;obtain ⟨t,a',b,v1,v2,v3⟩:=ha.am x (pm.mem_iff.mp (Ar hx));have g:DGet H' d1 (.str x) (some (.ref t)):=by rw [<- v1];exact DGet.k (k:=.inr x) (s3 _ _ e1)
   exact ⟨(Keep.refl _).set rfl,_,rfl,_,rfl,_,rfl,d1,_,rfl,g,zLn2,λc hc=>hR _ _ (Same.upd hc) ⟨c,x,rfl,hx,t,a',b,aB,Same.upd hc _ _ (s3 _ _ v2),v3⟩⟩
  ·rw [Ab] at yl
   obtain ⟨cs,rfl,np⟩:=fO (Pr:=HePr H5 M z.f) (ys:=ys) (ss:=ss) yl λj y hj=>by
    obtain ⟨x,hx⟩:∃ x,(ss.map V.str)[j]?=some x:=⟨_,Al (by have:=(Ad.mp hj).1;rw [Ab];omega)⟩;exact hy j x y hx hj
   exact k D cs ss _ ((s1.trans t2).trans sm) (same_none (s1.trans t2) hD) hD5 np (pm.trans ((AR ha.dk.nd to.nd).mpr mem)) so
def ndLs:(["lot","self"]:List Str).Nodup:=by decide +kernel
def aD1:FnScope ["self","name"] ["self","name"] (aG rL):=fnScOk (by decide +kernel)
def aCb (F:Fun K "last" "Books.last" rL f fd)(T:Txt mg)(L:Cl K mg C)(mT:MCal P w K mg base CX0 3 C "thing_of" ["self","name"] (hU C)):FnOk P w K mg base CX0 4 f fd ["self","name"] (tD C):=by
 refine F.ok aD1 (λvs H Q E h=>?_) (λcdv A outer s H vs Q E hr h=>?_)
 ·obtain ⟨_,_,_,_,_,_,_,_,_,_,_,_,_,rfl,_⟩:=h
  rfl
 ·obtain ⟨l,p,dl,dt,db,bs,kvs,day,bf,M,n,zs,z,rfl,B,hz,k0,k⟩:=h
  refine ⟨_,(aF (aK (xP rfl rfl T.min' (pA (eQ (N':=["lot","self"]) (λσ=>[none,some 0].map λt=>t.bind λj=>(σ[j]?).join) rfl rfl (by decide +kernel) (by decide +kernel)
     (iF (sc:=aG rL) rfl (by decide +kernel)) (λ_ _ _=>dR (sc:=aG rL) (N:=["self","name"]) [none,some 0] rfl rfl rfl rfl (by decide +kernel))
     (eI (cR gY (cQ L.cl mT hr aR (pv 0) (aA (pv 1) aE)) aH (λ_ _=>rfl))) (λ_ _ _ _ _ _=>aY (i:=0) ndLs rfl (Or.inl rfl)) (λ_ _ _ _ _ _=>dE)
     (λ_ _ _ _ _ _=>cR (fF (K:=K) rfl) (aI (aO hr) (gK (K:=K) rfl (pv 1) rfl) (pv 0) (λ_ _=>rfl)) aH (λ_ _=>rfl))))))),?_⟩
  obtain ⟨⟨dx,h0⟩,hl,ht,hb,n6⟩:=id B.bk;refine ⟨_,rfl,p,dx,_,rfl,h0,(by kernel_rfl),_,rfl,l,p,dl,dt,db,bs,kvs,day,bf,M,n,zs,z,rfl,B,hz,λq d1 d2 H1 s1 tq o1 o2=>?_⟩;obtain ⟨kv,ks,e1,ha,mem⟩:=tq.hd;have to:=B.g.ok z hz;have kl:=to.len ha mem;have n60:=B.g.n60;have tl:=to.ln;have B1:=B.keep s1;have od:=B.out o1;have hd1:∀ o u,H d1≠some (.frz o u):=λo u z=>by have:=s1 _ _ z;rw [e1] at this;cases this
  refine ⟨q,_,_,_,rfl,rfl,SqT.of tq.hq,rfl,d1,kv,rfl,e1,λob D hD=>?_⟩;refine dU (Ys.dict aB) (λj _ y _=>∃ s m,ks[j]?=some s/\y=.int m/\LstOf zs s m) (λ_ _ _ _ _ h _=>h) hD (by rw [Ab,ha.dk.len];omega) (λi y H' R hy sm hR=>?_) (λys H5 sm hD5 yl hy=>?_)
  ·rw [Ah] at hy
   obtain ⟨kv',hkv,rfl⟩:=AA.mp hy;obtain ⟨x,hx,ex⟩:=ha.dk.at hkv;rw [ex];obtain ⟨u,lu,hu,ux,uk,ul⟩:=B.g.lst hz ((mem x).mp (Ar hx));have hp':=sm p _ (by rw [aD (Au od.1)];exact s1 _ _ h0);have ht':=sm dt _ (by rw [aD (Au od.2.2.1)];exact s1 _ _ ht);obtain ⟨q',_,_,ev,tq',_⟩:=B1.at hu;have hq':=sm q' _ (by rw [aD (fJ tq'.hq e1 (by intro z;cases z))];exact tq'.hq);have gv:DGet H' dt (.str x) (some (.ref q')):=by rw [<- ux,<- ev];exact DGet.k (k:=.inr u.x) ht'
   rw [ul] at hq';exact ⟨(Keep.refl _).set rfl,_,rfl,p,C,dx,_,_,rfl,hp',L.cl,L.nT,aZ,_,rfl,dt,_,rfl,gv,q',_,_,_,rfl,rfl,SqT.of hq',rfl,hR _ _ (Same.refl _) ⟨x,lu,hx,rfl,u,hu,ux,uk,ul⟩⟩
  ·rw [Ab,ha.dk.len] at yl
   have hy':∀ (j:Nat) y,ys[j]?=some y->∃ s m,ks[j]?=some s/\y=.int m/\LstOf zs s m:=λj y hj=>by
    obtain ⟨x,hx⟩:∃ x,(kv.map λe=>kV e.1)[j]?=some x:=⟨_,Al (by have:=(Ad.mp hj).1;rw [Ab,ha.dk.len];omega)⟩;exact hy j x y hx hj
   obtain ⟨ns,rfl⟩:=pG (ys:=ys) λy h=>by
    obtain ⟨j,hj⟩:=Bf.mp h;obtain ⟨_,m,_,e,_⟩:=hy' j y hj;exact ⟨m,e⟩
   have Dd:D≠d1:=λz=>by rw [z,aB] at hD;cases hD
   have sF:=s1.trans (eU e1 sm);refine ⟨d1,ob,_,sm _ _ aB,hd1,D,ns,rfl,SqL.of (by rw [aD Dd];exact hD5),λe0=>k0 ?_ _ sF,λm hm le=>k m _ sF ?_ ?_⟩
   ·rw [Ab] at yl
    rw [e0,List.length_nil,kl] at yl;exact List.eq_nil_of_length_eq_zero yl.symm
   ·obtain ⟨j,hj⟩:=Bf.mp hm
    obtain ⟨x,m',e1,e2,e3⟩:=hy' j (.int m) (by rw [Ah,hj];rfl);cases e2;exact ⟨x,(mem x).mp (Ar e1),e3⟩
   ·intro y hy2 l2 hl2
    obtain ⟨j,hj⟩:=Bf.mp ((mem y).mpr hy2);rw [Ab] at yl;have hlt:j<ns.length:=by have:=(Ad.mp hj).1;omega
    obtain ⟨x,m',e1,e2,e3⟩:=hy' j (.int ns[j]) (by rw [Ah,Al hlt];rfl);cases e2;rw [hj] at e1;cases e1;rw [<- e3.uniq B.g.nd hl2];exact le _ (CN hlt)
def ndNs:(["name","self"]:List Str).Nodup:=by decide +kernel
def aF9:FnScope ["self"] ["self"] (aG sNms):=fnScOk (by decide +kernel)
def aEw (F:Fun K "names" "Books.names" sNms f fd)(T:Txt mg)(L:Cl K mg C):FnOk P w K mg base CX0 1 f fd ["self"] (aA2 C):=by
 refine F.ok aF9 (λvs H Q E h=>?_) (λcdv A outer s H vs Q E hr h=>?_)
 ·obtain ⟨_,_,_,_,_,_,_,_,_,_,_,_,rfl,_⟩:=h
  rfl
 ·obtain ⟨l,p,dl,dt,db,bs,kvs,day,bf,M,n,zs,rfl,B,k⟩:=h
  refine ⟨_,(aF (aK (eQ (N':=["name","self"]) (λσ=>[none,some 0].map λt=>t.bind λj=>(σ[j]?).join) rfl rfl (by decide +kernel) (by decide +kernel)
     (iF (sc:=aG sNms) rfl (by decide +kernel)) (λ_ _ _=>dR (sc:=aG sNms) (N:=["self"]) [none,some 0] rfl rfl rfl rfl (by decide +kernel))
     (cK (aS (dG rfl) rfl T.sorted' DQ (aA (bU (pv 0) rfl) aE))) (λ_ _ _ _ _ _=>aY (i:=0) ndNs rfl (Or.inl rfl)) (λ_ _ _ _ _ _=>dE)
     (λ_ _ _ _ _ _=>bF (aA (pv 0) (aA (cR (fF (K:=K) rfl) (aI (aO hr) (gK (K:=K) rfl (pv 1) rfl) (pv 0) (λ_ _=>rfl)) aH (λ_ _=>rfl)) aE)))))),?_⟩
  obtain ⟨⟨dx,h0⟩,hl,ht,hb,n6⟩:=id B.bk;have kl:=B.kl;have gl:=B.g.ln;have n60:=B.g.n60;refine ⟨_,rfl,p,C,dx,_,_,rfl,h0,L.cl,L.nT,aZ,dt,kvs,zs.map Th.x,rfl,ht,B.th.keys,by omega,λz ss pm so hz=>?_⟩;have t1:=Same.upd (o:=.lst (ss.map V.str)) hz;have sl:=pm.length_eq;rw [Ab] at sl;refine ⟨z,rfl,⟨_,SqL.of aB⟩,λD hD=>?_⟩;refine dU (Ys.list (xs:=ss.map V.str) (SqL.of aB)) (λj _ y H'=>∃ c s,y=.ref c/\ss[j]?=some s/\NmPr H' zs c s) (λ_ _ _ _ _ ⟨c,s,e1,e2,u,hu,e3,e4⟩ tk=>⟨c,s,e1,e2,u,hu,e3,tk _ _ e4⟩) hD (by rw [Ab];omega) (λi y H' R hy sm hR=>?_) (λys H5 sm hD5 yl hy=>?_)
  ·rw [Ah] at hy
   obtain ⟨x,hx,rfl⟩:=AA.mp hy;obtain ⟨u,hu,rfl⟩:=An.mp (pm.mem_iff.mp (Ar hx));have s3:=t1.trans sm;obtain ⟨q,_,_,ev,tq,_⟩:=(B.keep s3).at hu;have gv:DGet H' dt (.str u.x) (some (.ref q)):=by rw [<- ev];exact DGet.k (k:=.inr u.x) (s3 _ _ ht)
   exact ⟨(Keep.refl _).set rfl,_,rfl,_,rfl,p,C,dx,_,_,rfl,s3 _ _ h0,L.cl,L.nT,aZ,_,rfl,dt,_,rfl,gv,q,_,_,_,rfl,rfl,SqT.of tq.hq,rfl,zLn2,λc hc=>hR _ _ (Same.upd hc) ⟨c,u.x,rfl,hx,u,hu,rfl,aB⟩⟩
  ·rw [Ab] at yl
   obtain ⟨cs,rfl,np⟩:=fO (Pr:=NmPr H5 zs) (ys:=ys) (ss:=ss) yl λj y hj=>by
    obtain ⟨x,hx⟩:∃ x,(ss.map V.str)[j]?=some x:=⟨_,Al (by have:=(Ad.mp hj).1;rw [Ab];omega)⟩;exact hy j x y hx hj
   exact k D cs ss _ (t1.trans sm) (same_none t1 hD) hD5 np pm so
def aBf:FnScope ["self","source"] ["self","source"] (aG qI):=fnScOk (by decide +kernel)
def yD (F:Fun K "refuse_no_source" "Books.refuse_no_source" qI f fd)(L:Cl K mg C)(mO:MCal P w K mg base CX0 2 C "is_one_of" ["self","name","words"] (hV C K)):FnOk P w K mg base CX0 3 f fd ["self","source"] (lI C):=by
 refine F.ok aBf (λvs H Q E h=>?_) (λcdv A outer s H vs Q E hr h=>?_)
 ·obtain ⟨_,_,_,_,_,_,_,_,_,_,_,_,_,rfl,_⟩:=h
  rfl
 ·obtain ⟨l,p,dl,dt,db,bs,kvs,day,bf,M,n,zs,z,rfl,B,hz,nd,k⟩:=h
  refine ⟨_,(aF (bC (eC (cU (cQ L.cl mO hr aR (pv 0) (aA (pv 1) (aA (bF (aA aJ (aA aJ aE))) aE))))) (aF iR) aQ)),?_⟩;obtain ⟨⟨dx,h0⟩,hl,ht,hb,n6⟩:=id B.bk;refine ⟨_,rfl,p,dx,_,rfl,h0,(by kernel_rfl),_,rfl,zLn2,λu hu=>?_⟩;have t1:=Same.upd (o:=.tup [.str "lot",.str "store"]) hu;refine ⟨l,p,dl,dt,db,bs,kvs,day,bf,M,n,zs,z.x,u,["lot","store"],rfl,B.keep t1,(B.g.ok z hz).wr,SqT.of aB,.inl ⟨z,hz,rfl,λH2 s2=>?_⟩⟩;have e:decide (z.k∈(["lot","store"]:List Str))=true:=by
   rcases B.g.kd z hz with ⟨e,_⟩|⟨e|e,_⟩
   ·rw [e];decide +kernel
   ·rw [e];decide +kernel
   ·exact absurd e nd
  rw [e];exact ⟨_,rfl,iteF (k _ (t1.trans s2))⟩
def xB:FnScope ["self","source","goal"] ["self","source","goal"] (aG lY):=fnScOk (by decide +kernel)
def uI (F:Fun K "refuse_no_goal" "Books.refuse_no_goal" lY f fd)(L:Cl K mg C)(cN:Cal P w K mg base CX0 2 "refuse_no_name" ["thing"] gR)(mO:MCal P w K mg base CX0 2 C "is_one_of" ["self","name","words"] (hV C K)):FnOk P w K mg base CX0 3 f fd ["self","source","goal"] (lJ C):=by
 refine F.ok xB (λvs H Q E h=>?_) (λcdv A outer s H vs Q E hr h=>?_)
 ·obtain ⟨_,_,_,_,_,_,_,_,_,_,_,_,_,_,rfl,_⟩:=h
  rfl
 ·obtain ⟨l,p,dl,dt,db,bs,kvs,day,bf,M,n,zs,x,y,rfl,B,wy,ne,st,k⟩:=h
  refine ⟨_,(aC (bD (aV cN hr rfl aR (aA (pv 2) aE)))
   (aF (bC (PW.pt (jJ (aP dN (pv 2) (pv 1) (aU _)) (gG (cU (cQ L.cl mO hr aR (pv 0) (aA (pv 2) (aA (bF (aA aJ (aA aJ aE))) aE))))))) (aF iR) aQ))),?_⟩
  refine ⟨_,rfl,y,rfl,wy,λH1 s1=>?_⟩;have B1:=B.keep s1;obtain ⟨⟨dx,h0⟩,hl,ht,hb,n6⟩:=id B1.bk;refine ⟨_,rfl,_,rfl,rfl,_,rfl,?_⟩;rw [decide_eq_false (λz=>ne (by cases z;rfl))];refine iteF ⟨_,rfl,p,dx,_,rfl,h0,(by kernel_rfl),_,rfl,zLn2,λu hu=>?_⟩;have t1:=Same.upd (o:=.tup [.str "lot",.str "dose"]) hu;refine ⟨l,p,dl,dt,db,bs,kvs,day,bf,M,n,zs,y,u,["lot","dose"],rfl,B1.keep t1,wy,SqT.of aB,?_⟩
  by_cases hm:y∈zs.map Th.x
  ·obtain ⟨z,hz,rfl⟩:=An.mp hm
   refine .inl ⟨z,hz,rfl,λH2 s2=>?_⟩;rw [show decide (z.k∈(["lot","dose"]:List Str))=false by rw [st z hz rfl];decide +kernel];exact ⟨_,rfl,iteF (k _ (s1.trans (t1.trans s2)))⟩
  ·exact .inr ⟨hm,λH2 s2=>⟨_,rfl,iteF (k _ (s1.trans (t1.trans s2)))⟩⟩
def ndSt:(["lot","self"]:List Str).Nodup:=by decide +kernel
def lU:FnScope ["self","source","many","there","stale"] ["self","source","many"] (aG iB):=fnScOk (by decide +kernel)
def uD (F:Fun K "refuse_to_pour" "Books.refuse_to_pour" iB f fd)(T:Txt mg)(L:Cl K mg C)(mT:MCal P w K mg base CX0 5 C "total" ["self","name"] (wV C)):FnOk P w K mg base CX0 6 f fd ["self","source","many"] (iX C):=by
 refine F.ok lU (λvs H Q E h=>?_) (λcdv A outer s H vs Q E hr h=>?_)
 ·obtain ⟨_,_,_,_,_,_,_,_,_,_,_,_,_,_,rfl,_⟩:=h
  rfl
 ·obtain ⟨l,p,dl,dt,db,bs,kvs,day,bf,M,n,zs,z,m,rfl,B,hz,le,fr,k⟩:=h
  refine ⟨_,(aC (aT (i:=3) lU.nd rfl (Or.inl rfl) (cQ L.cl mT hr aR (pv 0) (aA (pv 1) aE)))
   (aC (bC (aP aEp (pv 2) (pv 3) (aU _)) (aF iR) aQ)
   (aC (gU (iy:=4) (N':=["lot","self"]) (λσ=>[none,some 0].map λt=>t.bind λj=>(σ[j]?).join) rfl rfl (by decide +kernel) (by decide +kernel)
     (iF (sc:=aG iB) rfl (by decide +kernel)) (λ_ _ _=>dR (sc:=aG iB) (N:=["self","source","many","there","stale"]) [none,some 0] rfl rfl rfl rfl (by decide +kernel))
     (cK (aS (dG rfl) rfl T.sorted' DQ (aA (cR gY (aI (aO hr) (bU (pv 0) rfl) (pv 1) (λ_ _=>rfl)) aH (λ_ _=>rfl)) aE))) (λ_ _ _ _ _ _=>aY (i:=0) ndSt rfl (Or.inl rfl))
     (λ_ _ _ _ _ _=>gB (aP jO (cR (fF (K:=K) rfl) (aI (aO hr) (gK (K:=K) rfl (pv 1) rfl) (pv 0) (λ_ _=>rfl)) aH (λ_ _=>rfl)) (gK (K:=K) rfl (pv 1) rfl) (aU _)))
     (λ_ _ _ _ _ _=>pv 0) lU.nd rfl (Or.inl rfl) (Or.inl rfl) rfl)
   (aF (bC (aP (aAb hr.units) (pv 4) (dH aE) (aU _)) (aF iR) aQ))))),?_⟩
  refine cut4 ?_
  intros
  obtain ⟨⟨dx,h0⟩,hl,ht,hb,n6⟩:=id B.bk;refine ⟨_,rfl,p,dx,_,rfl,h0,(by kernel_rfl),_,rfl,l,p,dl,dt,db,bs,kvs,day,bf,M,n,zs,z,rfl,B,hz,λH1 s1=>?_⟩;have B1:=B.keep s1;refine ⟨_,rfl,_,rfl,_,_,rfl,rfl,_,rfl,?_⟩;rw [decide_eq_false (show ¬ m > z.T by omega)];refine iteF ?_;obtain ⟨q,d1,d2,ev,tq,o1,o2⟩:=B1.at hz;obtain ⟨kv,ks,e1,ha,mem⟩:=tq.hd;have to:=B.g.ok z hz;have kl:=to.len ha mem;have n60:=B.g.n60;have tl:=to.ln;have gv:DGet H1 dt (.str z.x) (some (.ref q)):=by rw [<- ev];exact DGet.k (k:=.inr z.x) (s1 _ _ ht)
  refine ⟨_,rfl,p,C,dx,_,_,rfl,s1 _ _ h0,L.cl,L.nT,aZ,_,rfl,dt,_,rfl,gv,q,_,_,_,rfl,rfl,SqT.of tq.hq,rfl,d1,kv,ks,rfl,e1,ha.dk.keys,by rw [ha.dk.len];omega,λa ss pm so hz'=>?_⟩;have t2:=Same.upd (o:=.lst (ss.map V.str)) hz';have sl:=pm.length_eq;refine ⟨a,rfl,⟨_,SqL.of aB⟩,λD hD=>?_⟩;refine vZ (Ys.list (xs:=ss.map V.str) (SqL.of aB)) (λ_=>false) (λ_ _ _=>False) (λ_ _ _ _ h _=>h) hD (by rw [Ab];omega) (λi y H' R1 R2 hy sm r1 r2=>?_) (λys H5 sm hD5 yl hy=>?_)
  ·rw [Ah] at hy
   obtain ⟨x,hx,rfl⟩:=AA.mp hy;have s3:=t2.trans sm;have hxk:=(mem x).mp (pm.mem_iff.mp (Ar hx));obtain ⟨u,lu,hu,rfl,uk,ul⟩:=B.g.lst hz hxk;obtain ⟨q',_,_,ev',tq',_⟩:=(B1.keep s3).at hu;have hq':=tq'.hq;rw [ul] at hq';have gv:DGet H' dt (.str u.x) (some (.ref q')):=by rw [<- ev'];exact DGet.k (k:=.inr u.x) (s3 _ _ (s1 _ _ ht))
   refine ⟨(Keep.refl _).set rfl,_,rfl,p,C,dx,_,_,rfl,s3 _ _ (s1 _ _ h0),L.cl,L.nT,aZ,_,rfl,dt,_,rfl,gv,q',_,_,_,rfl,rfl,SqT.of hq',rfl,_,rfl,p,C,dx,_,_,rfl,s3 _ _ (s1 _ _ h0),L.cl,L.nD,jE,_,_,rfl,rfl,_,rfl,?_⟩;rw [decide_eq_false (show ¬ lu<day by have:=fr u.x hxk lu ⟨u,hu,rfl,uk,ul⟩;omega)];exact iteF (r2 rfl _ (Same.refl _))
  ·have y0:ys=[]:=List.eq_nil_of_length_eq_zero (by rw [yl,List.filter_eq_nil_iff.mpr (λ_ _=>by simp)];rfl)
   subst y0;refine ⟨_,rfl,zLn0,λb hb'=>?_⟩;have t5:=Same.upd (o:=.lst []) hb';refine ⟨D,b,[],rfl,rfl,SqL.of (t5 _ _ hD5),SqL.of aB,_,rfl,iteF (k _ ((s1.trans (t2.trans sm)).trans t5))⟩
end
end K77
namespace L2
open PySem PySem.Spec PyProof.Rows
def aGg:R2:=λx y H Q=>∃ a b ka,x=.ref a/\y=.ref b/\H a=some (.dK ka)/\H b=some (.dK [])/\Q (.bl (!ka.isEmpty)) H
def aBt (hu:X.A.units+64<cLine):OpR X (Bi .NotEq) aGg:=by
 intro pins s σ H x y v u Q I rx ry h;obtain ⟨a,b,ka,rfl,rfl,ha,hb,q⟩:=h;cases rx;cases ry;obtain ⟨_,la,va,ra,da⟩:=iU I.hok ha;obtain ⟨_,lb,vb,rb,db⟩:=iU I.hok hb;have l1:=ra.length;have l2:=rb.length;refine PySem.W.keq_ne la lb da db (by omega) (λe=>vI I (by show X.A.units+1+30<cLine;omega) rb ra λkv hkv=>?_) ?_
 ·have:ka.length=0:=by simp at l2;omega
  rw [Ed.mp this] at hkv;cases hkv
 ·have e:(!(va.length==vb.length&&true))=!ka.isEmpty:=by
   rw [<- l1,<- l2];cases ka<;>simp
  rw [e];exact ⟨.bl _,H,I,rfl,q⟩
def aGi:R2:=λx y H Q=>∃ a b ka,x=.ref a/\y=.ref b/\H a=some (.dK ka)/\H b=some (.dK [])/\Q (.bl ka.isEmpty) H
def aBu (hu:X.A.units+64<cLine):OpR X (Bi .Eq) aGi:=by
 intro pins s σ H x y v u Q I rx ry h;obtain ⟨a,b,ka,rfl,rfl,ha,hb,q⟩:=h;cases rx;cases ry;obtain ⟨_,la,va,ra,da⟩:=iU I.hok ha;obtain ⟨_,lb,vb,rb,db⟩:=iU I.hok hb;have l1:=ra.length;have l2:=rb.length;refine PySem.W.keq_eq la lb da db (by omega) (λe=>vI I (by show X.A.units+1+30<cLine;omega) rb ra λkv hkv=>?_) ?_
 ·have:ka.length=0:=by simp at l2;omega
  rw [Ed.mp this] at hkv;cases hkv
 ·have e:(va.length==vb.length&&true)=ka.isEmpty:=by
   rw [<- l1,<- l2];cases ka<;>simp
  rw [e];exact ⟨.bl _,H,I,rfl,q⟩
def sC :eT X (.builtin "len") (λxs H Q=>∃ d kvs,xs=[.ref d]/\H d=some (.dK kvs)/\Q (.int kvs.length) H):=by
 intro pins s σ H xs us Q I r h;obtain ⟨d,kvs,rfl,hH,q⟩:=h;obtain ⟨u,rfl,rx⟩:=vals1 r;cases rx;exact aGy I (.inl hH) λt s' I'=>⟨.int kvs.length,H,I',⟨t,rfl⟩,q⟩
end L2
namespace HT
open PySem PySem.Spec PyProof.Rows
section
variable {prog:AE}{w:World}{A:Around}{E:Value->Shared->Prop}{s:Shared}
end
end HT
namespace L2
open PySem PySem.Spec PyProof.Rows
section
variable {X:Cx}
def rRepTA (K:Aa):R2:=λx y H Q=>∃ a k xs,x=.ref a/\y=.int k/\SqT K H a xs/\xs≠[]/\1<=k/\k<=1000/\xs.length<=1000/\(k=1->Q (.ref a) H)/\(2<=k->∀ p,H p=none->Q (.ref p) (upd H p (.tup (Cy k.toNat xs).flatten)))
def aEd (K:Aa):R2:=λx y H Q=>∃ a b xs ys,x=.ref a/\y=.ref b/\SqT K H a xs/\H b=some (.tup ys)/\ys≠[]/\xs.length+ys.length<=AB/\∀ p H',Same H H'->H' p=some (.tup (xs++ys))->Q (.ref p) H'
def xV:OpR X (Dh .Add) (aEd X.K):=by
 intro pins s σ H x y v u Q I rx ry h;obtain ⟨a,b,xs,ys,rfl,rfl,ha,hb,hy,hz,q⟩:=h;refine xW pins s σ H _ _ v u Q I rx ry ?_
 by_cases e:xs=[]
 ·subst e
  exact .inl ⟨a,b,ys,rfl,rfl,ha,SqT.of hb,q b H (Same.refl _) (by rw [List.nil_append];exact hb)⟩
 ·exact .inr ⟨a,b,xs,ys,rfl,rfl,ha,SqT.of hb,e,hz,λz=>absurd z hy,λ_ p hp=>q p _ (Same.upd hp) aB⟩
end
end L2
namespace K77
open PySem PySem.Spec PyProof.Rows L2 GM TM
def Fr.unscale {M t b n c:Int}(hc:0<c)(h:Fr (M*c) t b (n*c)):Fr M t b n:=⟨h.am,by
 have e:=h.e;refine Bp (show c≠0 by omega) ?_
 grind⟩
def HA.unscale {M c:Int}{f:Str->Int}(hc:0<c)(h:HA H kvs ks (M*c) (λy=>f y*c)):HA H kvs ks M f:=⟨h.dk,λy hy=>by
 obtain ⟨p,t,b,e1,e2,e3⟩:=h.am y hy;exact ⟨p,t,b,e1,e2,Fr.unscale hc e3⟩,λy hy=>(Int.mul_eq_zero.mp (h.out y hy)).elim id (by omega)⟩
def aGo {t:TE}{σ:L2.St}{H:Hp}{Q:VK}(S:V->Hp->Prop)(g:∀ Q':VK,(∀ v H',S v H'->Q' v H')->t σ H Q')(h:∀ v H',S v H'->Q v H'):t σ H Q:=g Q h
def Th.left (s:Th)(m:Int):Th:={ s with f:=λy=>s.f y*(s.T-m),ks:=if m<s.T then s.ks else [],T:=s.T-m }
def Th.got (g s:Th)(m:Int)(n:Nat):Th:={ g with f:=λy=>g.f y*s.T+s.f y*m,ks:=g.ks++s.ks.filter (λy=>decide (y∉g.ks)),T:=g.T+m,w:=λy=>if y∈g.ks then g.w y else s.w y++[(n:Int)] }
def Th.ves (x k:Str):Th:={ x:=x,k:=k,l:=none,ks:=[],f:=λ_=>0,T:=0,w:=λ_=>[] }
theorem eR {g s:Th}{m:Int}{n:Nat}{y:Str}:y∈(g.got s m n).ks↔y∈g.ks\/y∈s.ks:=by
 show y∈g.ks++s.ks.filter (λy=>decide (y∉g.ks))↔_;rw [Aj,CD]
 by_cases h:y∈g.ks<;>simp [h]
def pZ:Sp:=λvs H Q _=>∃ k:Str,vs=[.str k]/\∀ q d1 d2 H',Same H H'->H d1=none->H d2=none->H' q=some (.tup [.str k,.non,.ref d1,.ref d2])->H' d1=some (.dK [])->H' d2=some (.dK [])->Q (.ref q) H'
def sQ:Sp:=λvs H Q _=>∃ q a b v1 v2 v3 v4,vs=[.ref q,v3,v4]/\H q=some (.tup [v1,v2,a,b])/\∀ r,H r=none->Q (.ref r) (upd H r (.tup [v1,v2,v3,v4]))
structure PoIn (H:Hp)(M m:Int)(n:Nat)(qs s1 s2 qg g1 g2:Addr)(s g:Th):Prop where
 ts:Tq H M n qs s1 s2 s
 tg:Tq H M n qg g1 g2 g
 os:TOk M n s
 og:TOk M n g
 m1:1<=m
 mT:m<=s.T
 mb:m<=1000000
 M0:0<M
 bM:Bt 1360 M
 n60:n<=51
def iY:Sp:=λvs H Q _=>∃ (M m:Int) (n:Nat) (qs s1 s2 qg g1 g2:Addr) (s g:Th),vs=[.ref qs,.ref qg,.int m,.int n]/\PoIn H M m n qs s1 s2 qg g1 g2 s g /\
 ∀ r ql a1 a2 qr b1 b2 H',Same H H'->H' r=some (.tup [.ref ql,.ref qr])->Tq H' (M*s.T) (n+1) ql a1 a2 (s.left m)->Tq H' (M*s.T) (n+1) qr b1 b2 (g.got s m n)->H a1=none->(a2=s2\/H a2=none)->H b1=none->H b2=none->Q (.ref r) H'
section
variable {P:AE}{w:World}{K:Aa}{mg:Str->Option Value}{base:Heap}
def aDx:FnScope ["word"] ["word"] (aG sNewV):=fnScOk (by decide +kernel)
def aB8 (F:Fun K "new_vessel" "new_vessel" sNewV f fd):FnOk P w K mg base CX0 1 f fd ["word"] pZ:=by
 refine F.ok aDx (λvs H Q E h=>?_) (λcdv A outer s H vs Q E hr h=>?_)
 ·obtain ⟨_,rfl,_⟩:=h
  rfl
 ·obtain ⟨k0,rfl,k⟩:=h
  refine ⟨_,(aF (aK (bF (aA (pv 0) (aA qO (aA bW (aA bW aE))))))),?_⟩;refine ⟨_,rfl,λd1 h1 d2 h2=>⟨zLn4,λq hq=>?_⟩⟩;have s1:=Same.upd (o:=.dK []) h1;have s2:=Same.upd (o:=.dK []) h2;have s3:=Same.upd (o:=.tup [.str k0,.non,.ref d1,.ref d2]) hq;exact k q d1 d2 _ ((s1.trans s2).trans s3) h1 (same_none s1 h2) aB (s3 _ _ (s2 _ _ aB)) (s3 _ _ aB)
def aDr:FnScope ["thing","holding","ways"] ["thing","holding","ways"] (aG sWith):=fnScOk (by decide +kernel)
def aBx (F:Fun K "with_holding" "with_holding" sWith f fd):FnOk P w K mg base CX0 1 f fd ["thing","holding","ways"] sQ:=by
 refine F.ok aDr (λvs H Q E h=>?_) (λcdv A outer s H vs Q E hr h=>?_)
 ·obtain ⟨_,_,_,_,_,_,_,rfl,_⟩:=h
  rfl
 ·obtain ⟨q,a,b,v1,v2,v3,v4,rfl,hq,k⟩:=h
  refine ⟨_,(aF (aK (bF (aA (pit 0 0) (aA (pit 0 1) (aA (pv 1) (aA (pv 2) aE))))))),?_⟩;exact ⟨q,_,_,rfl,SqT.of hq,rfl,q,_,_,rfl,SqT.of hq,rfl,_,rfl,_,rfl,zLn4,λr hr'=>k r hr'⟩
def gS:FnScope ["source","goal","many","number","shares","ways","lot","left"] ["source","goal","many","number"] (aG sPoured):=fnScOk (by decide +kernel)
def uG {f:Addr}{fd:Bj}(F:Fun K "poured" "poured" sPoured f fd)(T:Txt mg)(cS:Cal P w K mg base CX0 5 "shared" ["holding","many"] (lF K))(cP:Cal P w K mg base CX0 5 "put_together" ["one","other"] aA1)(cW:Cal P w K mg base CX0 5 "with_holding" ["thing","holding","ways"] sQ):FnOk P w K mg base CX0 6 f fd ["source","goal","many","number"] iY:=by
 refine F.ok gS (λvs H Q E h=>?_) (λcdv A outer s0 H vs Q E hr h=>?_)
 ·obtain ⟨_,_,_,_,_,_,_,_,_,_,_,rfl,_⟩:=h
  rfl
 ·obtain ⟨M,m,n,qs,s1,s2,qg,g1,g2,s,g,rfl,B,k⟩:=h
  refine ⟨_,(aC (aT (i:=4) gS.nd rfl (Or.inl rfl) (aV cS hr rfl aR (aA (pit 0 2) (aA (pv 2) aE))))
   (aC (aT (i:=5) gS.nd rfl (Or.inl rfl) (bP eF rfl T.dict' iJ (aA (pit 1 3) aE)))
   (aC (fQ (dW Bc rfl (eI (pit 4 0)) (aY (i:=6) gS.nd rfl (Or.inl rfl))
    (aF (bC (nP (fT (aO hr) (pv 6) (pv 5)))
     (aF (bR (aO hr) (pv 5) (pv 6) (aM xV (aI (aO hr) (pit 0 3) (pv 6) (λ_ _=>rfl)) (bF (aA (pv 3) aE))) rfl))
     aQ))))
   (aC (aT (i:=7) gS.nd rfl (Or.inl rfl) (aV cW hr rfl aR (aA (pv 0) (aA (pit 4 1) (aA (xR (aP (aBt hr.units) (pit 4 1) bW (aU _)) (pit 0 3) bW) aE)))))
   (aF (aK (bF (aA (pv 7) (aA (aV cW hr rfl aR (aA (pv 1) (aA (aV cP hr rfl aR (aA (pit 1 2) (aA (pit 4 0) aE))) (aA (pv 5) aE)))) aE))))))))),?_⟩
  refine cut5 ?_
  intros
  obtain ⟨ts,tg,os,og,m1,mT,mb,M0,bM,n60⟩:=B;obtain ⟨hqs,⟨kvs,ks,e1,ha,mem⟩,⟨sw,w1,wy⟩⟩:=ts;obtain ⟨hqg,⟨kvg,kg,ge1,hga,gmem⟩,⟨gw,gw1,gwy⟩⟩:=tg;have es:=os.hsum ha mem;have kl:=os.len ha mem;have gl:=og.len hga gmem;have sl:=os.ln;have gln:=og.ln;have T1:1<=s.T:=by omega
  have bTs:Bt 26 s.T:=bT os.T0 os.Tb (by omega);have bTg:Bt 26 g.T:=bT og.T0 og.Tb (by omega);refine ⟨qs,_,_,rfl,SqT.of hqs,rfl,_,rfl,s1,kvs,ks,M,m,s.f,rfl,⟨e1,ha,λy hy=>os.pos y ((mem y).mp hy),M0,m1,?_,by omega,bM.mono (by decide),(eE 20 (c:=1048576) (by omega) (by omega)).mono (by decide),?_⟩,λr dg ds kdg kds gs tss H1 sm1 fg fs sh=>?_⟩
  ·rw [es]
   exact Int.mul_le_mul_of_nonneg_right mT (by omega)
  ·rw [es]
   exact (bTs.mul bM).mono (by decide)
  obtain ⟨hr1,hdg,hds,ag,at',mgs,mts,lgs,lts⟩:=sh;rw [es] at ag at' mts;have ec:s.T*M=M*s.T:=CJ _ _;rw [ec] at ag at' mts;have lt_iff:m*M<M*s.T↔m<s.T:=by
   rw [CJ m M];exact ⟨λh=>Int.lt_of_mul_lt_mul_left h (by omega),λh=>Int.mul_lt_mul_of_pos_left h M0⟩
  refine ⟨qg,_,_,rfl,SqT.of (sm1 _ _ hqg),rfl,g2,gw,rfl,.inl (sm1 _ _ gw1),λdw hdw=>?_⟩;have t2:=Same.upd (o:=.dK gw) hdw;have sm2:=sm1.trans t2;refine ⟨r,_,_,rfl,SqT.of (t2 _ _ hr1),rfl,dg,kdg,rfl,t2 _ _ hdg,λob=>?_⟩;have ndw:dg≠dw:=λz=>by rw [z,hdw] at hdg;cases hdg
  have dw0:H dw=none:=same_none sm1 hdw;have hdw2:(upd H1 dw (.dK gw)) dw=some (.dK gw):=aB;generalize hH2:upd H1 dw (.dK gw)=H2 at *
  have hfz:(upd H2 dg (.frz ob (.dK kdg))) dg=some (.frz ob (.dK kdg)):=aB;have old:∀ b o,H2 b=some o->b≠dg->(upd H2 dg (.frz ob (.dK kdg))) b=some o:=λb o e nb=>by rw [aD nb];exact e
  have tkf:Tk H2 (upd H2 dg (.frz ob (.dK kdg))):=Tk.dk (t2 _ _ hdg);have hdw3:=old _ _ hdw2 (Au ndw);have ns2:s2≠dg:=λz=>by rw [z,fg] at w1;cases w1
  have ns2w:s2≠dw:=λz=>by rw [z,dw0] at w1;cases w1
  have hs2:=old _ _ (sm2 _ _ w1) ns2;have hqs3:=tkf _ _ (sm2 _ _ hqs);have wy3:=(wy.keep sm2.tk (Ak n)).keep tkf (Ak n);have gwy3:=(gwy.keep sm2.tk (Ak n)).keep tkf (Ak n);have back:∀ {H':Hp},(∀ b o,b≠dw->(upd H2 dg (.frz ob (.dK kdg))) b=some o->H' b=some o)->∀ b o,b≠dw->H2 b=some o->(upd H' dg (.dK kdg)) b=some o:=λ{H'} hh b o nb e=>by
   by_cases z:b=dg
   ·subst z
    rw [t2 _ _ hdg] at e;cases e;exact aB
   ·rw [aD z]
    exact hh b o nb (old b o e z)
  generalize upd H2 dg (.frz ob (.dK kdg))=H3 at hfz old tkf hdw3 hs2 hqs3 wy3 gwy3 back ⊢;refine gD (λi σ H'=>∃ (ws:List (Key×V)) (wk:List Str) (v6:Option V),σ=[some (.ref qs),some (.ref qg),some (.int m),some (.int n),some (.ref r),some (.ref dw),v6,none]/\H' dw=some (.dK ws)/\DK ws wk/\(∀ y,y∈wk↔y∈g.ks\/y∈gs.take i)/\wk.length<=n+i/\(∀ y∈wk,∃ e,valV ws (.inr y)=some (.ref e)/\H' e=some (.tup (((g.got s m n).w y).map V.int))/\((g.got s m n).w y).length<=n+1)/\∀ b o,b≠dw->H3 b=some o->H' b=some o) ?_ ?_ ?_ ?_
  ·obtain ⟨wk,dk,wm⟩:=gwy3.dk
   refine ⟨gw,wk,none,rfl,hdw3,dk,λy=>by rw [wm];simp,?_,λy hy=>?_,λ_ _ _ e=>e⟩
   ·have:=((AR dk.nd og.nd).mpr wm).length_eq
    omega
   ·have hyg:=(wm y).mp hy
    obtain ⟨e,v1,v2,v3⟩:=gwy3.at' y hyg;have ew:(g.got s m n).w y=g.w y:=if_pos hyg;rw [ew];exact ⟨e,v1,v2,by omega⟩
  ·rintro i σ H' _ ⟨_,_,_,rfl,_,_,_,_,_,s3⟩
   exact s3 _ _ ndw hfz
  ·rintro i ⟨kk,kv⟩ σ H' hkv ⟨ws,wk,v6,rfl,hw',dk,wm,wl,wv,s3⟩
   obtain ⟨y,hy,ey⟩:=ag.dk.at hkv;cases ey;have hys:=(mem y).mp ((mgs y).mp (Ar hy));have hi:=(Ad.mp hy).1;have tk3:Tk H3 H':=λb xs e=>s3 _ _ (λz=>by rw [z,hdw3] at e;cases e) e;refine ⟨_,rfl,_,rfl,dw,_,rfl,DGet.k (k:=.inr y) hw',_,rfl,?_⟩
   by_cases hm:y∈wk
   ·have vs:(valV ws (As y)).isSome=true:=(dk.get y).mpr hm
    rw [vs];refine iteF ⟨ws,wk,_,rfl,hw',dk,λz=>?_,by omega,wv,s3⟩;rw [wm,take_snoc hy];have:=(wm y).mp hm;constructor
    ·rintro (q|q)
     ·exact .inl q
     ·exact .inr (Af _ q)
    ·rintro (q|q)
     ·exact .inl q
     ·rcases Aj.mp q with q|q
      ·exact .inr q
      ·rw [Am] at q
       rw [q];exact this
   ·have vn:(valV ws (As y)).isSome=false:=Bool.eq_false_iff.mpr λz=>hm ((dk.get y).mp z)
    rw [vn];obtain ⟨e,v1,v2,v3⟩:=wy3.at' y hys;have gv:DGet H' s2 (.str y) (some (.ref e)):=by rw [<- v1];exact DGet.k (k:=.inr y) (s3 _ _ ns2w hs2)
    refine iteT ⟨qs,_,_,rfl,SqT.of (s3 _ _ (λz=>by rw [z,hdw3] at hqs3;cases hqs3) hqs3),rfl,_,rfl,s2,_,rfl,gv,_,rfl,zLn1,λc hc=>?_⟩;have t4:=Same.upd (o:=.tup [.int n]) hc;refine ⟨e,c,_,_,rfl,rfl,SqT.of (t4 _ _ (tk3 _ _ v2)),aB,by simp,?_,λa H5 s5 ha5=>?_⟩
    ·rw [Ab]
     show (s.w y).length+1<=AB;exact Nat.le_of_lt (aW (by omega))
    have hw5:=s5 _ _ (t4 _ _ hw');refine ⟨_,rfl,_,rfl,dw,_,rfl,DPut.k (k:=.inr y) hw5 (aW (by rw [dk.len];omega)),?_⟩;obtain ⟨wk',dk',wm',wl'⟩:=dk.put y (.ref a);have tk5:Tk H5 (upd H5 dw (.dK (putK ws (As y) (.ref a)))):=Tk.dk hw5;have ew:(g.got s m n).w y=s.w y++[(n:Int)]:=if_neg λz=>hm ((wm y).mpr (.inl z));refine ⟨_,wk',_,rfl,aB,dk',λz=>?_,by omega,λz hz=>?_,λb o nb e'=>by rw [aD nb];exact s5 _ _ (t4 _ _ (s3 _ _ nb e'))⟩
    ·rw [wm',wm,take_snoc hy,Aj,Am]
     exact or_assoc
    ·rw [bZ]
     by_cases e':z=y
     ·subst e'
      rw [if_pos rfl,ew];refine ⟨a,rfl,?_,by rw [Az];show (s.w z).length+1<=n+1;omega⟩;rw [AC];exact tk5 _ _ ha5
     ·rw [if_neg (λq=>e' (BG q))]
      obtain ⟨e0,u1,u2,u3⟩:=wv z (((wm' z).mp hz).elim id λq=>absurd q e');exact ⟨e0,u1,tk5 _ _ (s5 _ _ (t4 _ _ u2)),u3⟩
  ·rintro σ H' ⟨ws,wk,v6,rfl,hw',dk,wm,wl,wv,s3⟩
   rw [ag.dk.len,Bq] at wm;have hdg':=s3 _ _ ndw hfz;refine ⟨dg,ob,kdg,hdg',(λo u z=>by have z':H dg=some (.frz o u):=z;rw [fg] at z';cases z'),?_⟩;have bk:=back s3;have hdwF:(upd H' dg (.dK kdg)) dw=some (.dK ws):=by rw [aD (Au ndw)];exact hw'
   have tkF:Tk H' (upd H' dg (.dK kdg)):=Tk.frz hdg';have wvF:∀ y∈wk,∃ e,valV ws (.inr y)=some (.ref e)/\(upd H' dg (.dK kdg)) e=some (.tup (((g.got s m n).w y).map V.int))/\((g.got s m n).w y).length<=n+1:=λy hy=>by
    obtain ⟨e,u1,u2,u3⟩:=wv y hy;exact ⟨e,u1,tkF _ _ u2,u3⟩
   generalize upd H' dg (.dK kdg)=H4 at bk hdwF wvF ⊢;have sm4:Same H H4:=λb o e=>bk b o (λz=>by rw [z,dw0] at e;cases e) (sm2 _ _ e);have s14:∀ b o,b≠dw->H1 b=some o->H4 b=some o:=λb o nb e=>bk b o nb (t2 _ _ e);have tk14:Tk H1 H4:=λb xs e=>s14 b _ (λz=>by rw [z,hdw] at e;cases e) e;have nds:ds≠dw:=λz=>by rw [z,hdw] at hds;cases hds
   have hr4:=tk14 _ _ hr1;have hds4:=s14 _ _ nds hds;have hdg4:=s14 _ _ ndw hdg;have AG:=ag.keep tk14;have AT:=at'.keep tk14;have AT2:HA H4 kds tss (M*s.T) (λy=>s.f y*(s.T-m)):=by
    have e:M*(M*s.T)=M*s.T*M:=by grind
    rw [e] at AT;exact HA.unscale M0 (AT.congr λy=>by grind)
   have AGg:=(hga.keep sm4.tk).scale s.T;have hls:∀ y,y∈(s.left m).ks↔y∈ks/\m<s.T:=λy=>by
    show y∈(if m<s.T then s.ks else [])↔_
    by_cases q:m<s.T
    ·rw [if_pos q,mem];exact ⟨λh=>⟨h,q⟩,λh=>h.1⟩
    ·rw [if_neg q];exact ⟨λh=>(nomatch h),λh=>absurd h.2 q⟩
   have gmul:∀ y,0<=g.f y:=λy=>hga.nonneg M0 y;have smul:∀ y,0<=s.f y:=λy=>ha.nonneg M0 y;have gsum:∀ y,g.f y<=g.T*M:=λy=>by
    by_cases hy:y∈kg
    ·rw [<- og.hsum hga gmem];exact gH gmul hy
    ·rw [hga.out y hy];exact Bu og.T0 (by omega)
   have ssum:∀ y,s.f y<=s.T*M:=λy=>by
    by_cases hy:y∈ks
    ·rw [<- es];exact gH smul hy
    ·rw [ha.out y hy];exact Bu os.T0 (by omega)
   have ksne:ks≠[]:=λz=>by
    rw [z] at es;have:0<s.T*M:=Int.mul_pos (by omega) M0;have e0:(0:Int)=s.T*M:=es;omega
   have hqs4:=sm4 _ _ hqs;have wyL:∀ {H5:Hp},Same H4 H5->m<s.T->Wy H5 sw (s.left m).ks (n+1) s.w:=λ{H5} s5 q=>by
    show Wy H5 sw (if m<s.T then s.ks else []) (n+1) s.w;rw [if_pos q];exact wy.keep (sm4.trans s5).tk (by omega)
   refine ⟨_,rfl,r,_,_,rfl,SqT.of hr4,rfl,aGo (λv H5=>∃ a2 sw',v=.ref a2/\Same H4 H5/\(a2=s2\/H a2=none)/\H5 a2=some (.dK sw')/\Wy H5 sw' (s.left m).ks (n+1) s.w) (λQ' kq=>?_) (λv H5 hS=>?_)⟩
   ·refine ⟨r,_,_,rfl,SqT.of hr4,rfl,λde hde=>?_⟩
    have t5:=Same.upd (o:=.dK []) hde;refine ⟨ds,de,kds,rfl,rfl,t5 _ _ hds4,aB,_,rfl,ite2 (λhc=>?_) (λhc=>?_)⟩
    ·have lt:m<s.T:=by
      cases htt:tss with
      |nil=>
       have l0:kds.length=0:=by rw [AT.dk.len,htt];rfl
       rw [Ed.mp l0] at hc;cases hc
      |cons y ys=>exact lt_iff.mp ((mts y).mp (htt▸AO)).2
     exact ⟨qs,_,_,rfl,SqT.of (t5 _ _ hqs4),rfl,kq _ _ ⟨s2,sw,rfl,t5,.inl rfl,t5 _ _ (sm4 _ _ w1),wyL t5 lt⟩⟩
    ·have nlt:¬ m<s.T:=λq=>by
      cases hk:ks with
      |nil=>exact ksne hk
      |cons y ys=>
       have hy:y∈tss:=(mts y).mpr ⟨hk▸AO,lt_iff.mpr q⟩;have hpos:0<kds.length:=by rw [AT.dk.len];exact List.length_pos_of_mem hy
       cases kds with
       |nil=>exact absurd hpos (by decide)
       |cons _ _=>exact hc rfl
     intro d0 hd0;have t6:=Same.upd (o:=.dK []) hd0;refine kq _ _ ⟨d0,[],rfl,t5.trans t6,.inr (same_none (sm4.trans t5) hd0),aB,?_⟩;show Wy _ [] (if m<s.T then s.ks else []) (n+1) s.w;rw [if_neg nlt];exact ⟨⟨[],.nil,λy=>Iff.rfl⟩,λy hy=>nomatch hy⟩
   ·obtain ⟨a2,sw',rfl,s5,oa,ha2,wy5⟩:=hS
    refine ⟨qs,_,_,_,_,_,_,rfl,s5 _ _ hqs4,λql hql=>?_⟩;have t6:=Same.upd (o:=.tup [.str s.k,lv s.l,.ref ds,.ref a2]) hql;have s46:=s5.trans t6;have sm6:=sm4.trans s46;refine ⟨_,rfl,_,rfl,qg,_,_,rfl,SqT.of (sm6 _ _ hqg),rfl,r,_,_,rfl,SqT.of (s46 _ _ hr4),rfl,g1,dg,kvg,kdg,kg,gs,M*s.T,(λy=>g.f y*s.T),(λy=>s.f y*m),rfl,⟨sm6 _ _ ge1,s46 _ _ hdg4,AGg.keep s46.tk,AG.keep s46.tk,Int.mul_pos M0 (by omega),by omega,lgs,(bM.mul bTs).mono (by decide),λy=>?_,λy=>?_⟩,λd5 kv5 ks5 H7 s7 hd5 hd5' a5 m5 l5=>?_⟩
    ·exact (((bTg.mul bM).le (gmul y) (gsum y)).mul bTs).mono (by decide)
    ·exact (((bTs.mul bM).le (smul y) (ssum y)).mul (eE 20 (c:=1048576) (x:=m) (by omega) (by omega))).mono (by decide)
    refine ⟨_,rfl,qg,_,_,_,_,_,_,rfl,s7 _ _ (sm6 _ _ hqg),λqr hqr=>?_⟩;have t8:=Same.upd (o:=.tup [.str g.k,lv g.l,.ref d5,.ref dw]) hqr;refine ⟨zLn2,λrr hrr=>?_⟩;have t9:=Same.upd (o:=.tup [.ref ql,.ref qr]) hrr;have s79:=t8.trans t9;have s69:=s7.trans s79;have s49:=s46.trans s69;refine k rr ql ds a2 qr d5 dw _ (sm4.trans s49) aB ⟨s69 _ _ aB,⟨kds,tss,s49 _ _ hds4,AT2.keep s49.tk,λy=>?_⟩,⟨sw',(t6.trans s69) _ _ ha2,wy5.keep (t6.trans s69).tk (Ak _)⟩⟩ ⟨t9 _ _ aB,⟨kv5,ks5,s79 _ _ hd5',a5.keep s79.tk,λy=>?_⟩,⟨ws,s49 _ _ hdwF,⟨⟨wk,dk,λy=>?_⟩,λy hy=>?_⟩⟩⟩ fs oa (same_none sm6 hd5) dw0
    ·rw [hls,mts,lt_iff]
    ·rw [m5,eR,gmem,mgs,mem]
    ·rw [wm,eR,mgs,mem]
    ·obtain ⟨e,u1,u2,u3⟩:=wvF y ((wm y).mpr (by rw [mgs,mem];exact eR.mp hy))
     exact ⟨e,u1,s49 _ _ u2,u3⟩
end
def Th.scale (z:Th)(c:Int):Th:={ z with f:=λy=>z.f y*c }
def Th.poured (s:Th)(y:Str)(m:Int)(n:Nat)(z:Th):Th:=if z.x=s.x then z.left m else if z.x=y then z.got s m n else z.scale s.T
def after (zs:List Th)(s:Th)(y k:Str)(m:Int)(n:Nat):List Th:=(if y∈zs.map Th.x then zs else zs++[Th.ves y k]).map (Th.poured s y m n)
theorem dS {s:Th}{y:Str}{m:Int}{n:Nat}{z:Th}:(s.poured y m n z).x=z.x:=by
 unfold Th.poured;split
 ·rfl
 ·split<;>rfl
def eG {s:Th}{y:Str}{m:Int}{n:Nat}{z:Th}:(s.poured y m n z).k=z.k/\(s.poured y m n z).l=z.l:=by
 unfold Th.poured;split
 ·exact ⟨rfl,rfl⟩
 ·split<;>exact ⟨rfl,rfl⟩
theorem gQ {f:Str->Int}{c:Int}:∀ ks:List Str,(ks.map λy=>f y*c).sum=(ks.map f).sum*c
 |[]=>by simp
 |k::ks=>by rw [Ao,Ao,BN,BN,gQ ks,Int.add_mul]
theorem pV {f g:Str->Int}:∀ ks:List Str,(ks.map λy=>f y+g y).sum=(ks.map f).sum+(ks.map g).sum
 |[]=>by simp
 |k::ks=>by rw [Ao,Ao,Ao,BN,BN,BN,pV ks];omega
theorem aDp {f:Str->Int}:∀ {ks:List Str},(∀ y∈ks,f y=0)->(ks.map f).sum=0
 |[],_=>rfl
 |k::ks,h=>by rw [Ao,BN,h k AO,aDp λy hy=>h y (AL _ hy)];rfl
theorem pU {f:Str->Int}{us ks:List Str}(nu:us.Nodup)(nk:ks.Nodup)(sub:∀ y∈ks,y∈us)(out:∀ y,y∉ks->f y=0):(us.map f).sum=(ks.map f).sum:=by
 have p:(us.filter (λy=>decide (y∈ks))++us.filter (λy=>!decide (y∈ks))).Perm us:=List.filter_append_perm _ _;have e:=jA (p.map f);rw [<- e,AC,List.sum_append,aDp (ks:=us.filter (λy=>!decide (y∈ks))) (λy hy=>out y (by simpa using (CD.mp hy).2)),Int.add_zero];refine jA (List.Perm.map f ((AR (nu.filter _) nk).mpr λy=>?_));rw [CD];constructor
 ·intro h
  simpa using h.2
 ·intro h
  exact ⟨sub y h,by simpa using h⟩
theorem aAf:∀ {ws ks:List Str},ks.Nodup->(∀ y∈ks,y∈ws)->ks.length<=ws.length
 |[],[],_,_=>Ak _
 |[],y::_,_,h=>nomatch h y (AO ..)
 |w::ws,ks,nd,h=>by
  have ih:=aAf (ws:=ws) (nd.erase w) λy hy=>by
   obtain ⟨h1,h2⟩:=nd.mem_erase_iff.mp hy
   rcases Ae.mp (h y h2) with z|z
   ·exact absurd z h1
   ·exact z
  have:=List.le_length_erase (a:=w) (l:=ks);rw [Br];omega
def len_sub {ks us:List Str}(nk:ks.Nodup)(sub:∀ y∈ks,y∈us):ks.length<=us.length:=aAf nk sub
def aAj {g s:Th}{m:Int}{n:Nat}(ng:g.ks.Nodup)(ns:s.ks.Nodup):(g.got s m n).ks.Nodup:=by
 show (g.ks++s.ks.filter (λy=>decide (y∉g.ks))).Nodup;refine AN.mpr ⟨ng,ns.filter _,λa ha b hb e=>?_⟩;subst e;have:=(CD.mp hb).2;simp at this;exact this ha
section
variable {M m:Int}{n:Nat}{zs:List Th}{s g z:Th}{y k:Str}
def aCr (o:TOk M n s)(m1:1<=m)(mT:m<=s.T):TOk (M*s.T) (n+1) (s.left m):=by
 have Tb:=o.Tb;have ln:=o.ln
 by_cases lt:m<s.T
 ·have ek:(s.left m).ks=s.ks:=if_pos lt
  refine ⟨o.wr,by rw [ek];exact o.nd,λy hy=>?_,λy hy=>?_,?_,by show 0<=s.T-m;omega,by show s.T-m<=_;omega,by rw [ek];omega⟩
  ·rw [ek] at hy
   have:=o.pos y hy;exact mul1 this (by omega)
  ·rw [ek] at hy
   show s.f y*_=0;rw [o.out y hy,Ca]
  ·rw [ek]
   show (s.ks.map λy=>s.f y*(s.T-m)).sum=(s.T-m)*(M*s.T);rw [gQ,o.sum]
   grind
 ·have ek:(s.left m).ks=[]:=if_neg lt
  have e0:s.T-m=0:=by omega
  refine ⟨o.wr,by rw [ek];exact .nil,(λy hy=>by rw [ek] at hy;exact absurd hy Ag),λy hy=>?_,?_,by show 0<=s.T-m;omega,by show s.T-m<=_;omega,by rw [ek];exact Bv _⟩
  ·show s.f y*(s.T-m)=0
   rw [e0,Int.mul_zero]
  ·rw [ek]
   show (0:Int)=(s.T-m)*(M*s.T);rw [e0,Ca]
def aFm (o:TOk M n s)(og:TOk M n g)(m1:1<=m)(mT:m<=s.T)(mb:m<=1000000)(ln:(g.got s m n).ks.length<=n+1):TOk (M*s.T) (n+1) (g.got s m n):=by
 have Tb:=og.Tb;have T0:=og.T0;have nd:=aAj (m:=m) (n:=n) og.nd o.nd;have gf:∀ y,0<=g.f y:=λy=>by
  by_cases h:y∈g.ks
  ·have:=og.pos y h;omega
  ·rw [og.out y h];exact CM _
 have sf:∀ y,0<=s.f y:=λy=>by
  by_cases h:y∈s.ks
  ·have:=o.pos y h;omega
  ·rw [o.out y h];exact CM _
 refine ⟨og.wr,nd,λy hy=>?_,λy hy=>?_,?_,by show 0<=g.T+m;omega,by show g.T+m<=1000000*((n+1:Nat):Int);omega,ln⟩
 ·show 1<=g.f y*s.T+s.f y*m
  have a:=Bu (gf y) (show 0<=s.T by omega);have b:=Bu (sf y) (show 0<=m by omega)
  rcases eR.mp hy with h|h
  ·have:=mul1 (og.pos y h) (show 1<=s.T by omega)
   omega
  ·have:=mul1 (o.pos y h) m1
   omega
 ·show g.f y*s.T+s.f y*m=0
  rw [og.out y λh=>hy (eR.mpr (.inl h)),o.out y λh=>hy (eR.mpr (.inr h))];simp
 ·show ((g.got s m n).ks.map λy=>g.f y*s.T+s.f y*m).sum=(g.T+m)*(M*s.T)
  rw [pV (f:=λy=>g.f y*s.T) (g:=λy=>s.f y*m),gQ,gQ,pU nd og.nd (λy h=>eR.mpr (.inl h)) og.out,pU nd o.nd (λy h=>eR.mpr (.inr h)) o.out,og.sum,o.sum]
  grind
def wY (oz:TOk M n z)(T1:1<=s.T):TOk (M*s.T) (n+1) (z.scale s.T):=by
 have Tb:=oz.Tb;have ln:=oz.ln;refine ⟨oz.wr,oz.nd,λy hy=>mul1 (oz.pos y hy) T1,λy hy=>by show z.f y*_=0;rw [oz.out y hy,Ca],?_,oz.T0,by show z.T<=1000000*((n+1:Nat):Int);omega,by show z.ks.length<=_;omega⟩;show (z.ks.map λy=>z.f y*s.T).sum=z.T*(M*s.T);rw [gQ,oz.sum,Cv]
def aDc (wy:Wr y):TOk M n (Th.ves y k):=⟨wy,.nil,(λ_ h=>absurd h Ag),λ_ _=>rfl,by show (0:Int)=0*M;rw [Ca],CM _,by show (0:Int)<=_;omega,Bv _⟩
def jL (g:ZOk M n zs)(wy:Wr y)(hk:k = "store" \/ k = "dose"):(∀ z∈(if y∈zs.map Th.x then zs else zs++[Th.ves y k]),TOk M n z/\((z.k = "lot" /\ ∃ l,z.l=some l)\/((z.k = "store" \/ z.k = "dose")/\z.l=none))/\∀ x∈z.ks,∃ u∈zs,u.x=x/\u.k = "lot")/\((if y∈zs.map Th.x then zs else zs++[Th.ves y k]).map Th.x).Nodup/\(if y∈zs.map Th.x then zs else zs++[Th.ves y k]).length<=n+1/\(∀ u∈zs,u∈(if y∈zs.map Th.x then zs else zs++[Th.ves y k])):=by
 have ln:=g.ln;split
 ·exact ⟨λz hz=>⟨g.ok z hz,g.kd z hz,g.lots z hz⟩,g.nd,by omega,λu hu=>hu⟩
 ·rename_i hn
  refine ⟨λz hz=>?_,?_,by rw [Az];show zs.length+1<=n+1;omega,λu hu=>Af _ hu⟩
  ·rcases Aj.mp hz with hz|hz
   ·exact ⟨g.ok z hz,g.kd z hz,g.lots z hz⟩
   ·rw [Am] at hz
    subst hz;exact ⟨aDc wy,.inr ⟨hk,rfl⟩,λ_ h=>nomatch h⟩
  ·rw [AC]
   exact kX g.nd hn
def rC (g:ZOk M n zs)(hs:s∈zs)(wy:Wr y)(hk:k = "store" \/ k = "dose")(m1:1<=m)(mT:m<=s.T)(mb:m<=1000000)(n1:n+1<=52):ZOk (M*s.T) (n+1) (after zs s y k m n):=by
 obtain ⟨all,nd,len,inc⟩:=jL g wy hk;have os:=g.ok s hs;have ln:=g.ln;have xs:(after zs s y k m n).map Th.x=(if y∈zs.map Th.x then zs else zs++[Th.ves y k]).map Th.x:=by
  unfold after;rw [Bh];exact BV λz _=>dS
 have lotsub:∀ {ks:List Str},ks.Nodup->(∀ x∈ks,∃ u∈zs,u.x=x/\u.k = "lot")->ks.length<=n:=λ{ks} nk h=>by
  have:=len_sub (us:=zs.map Th.x) nk λx hx=>by
   obtain ⟨u,hu,e,_⟩:=h x hx;exact e▸Ai hu
  rw [Ab] at this;omega
 have gl:∀ z,z∈(if y∈zs.map Th.x then zs else zs++[Th.ves y k])->∀ x∈(z.got s m n).ks,∃ u∈zs,u.x=x/\u.k = "lot":=λz hz x hx=>by
  rcases eR.mp hx with h|h
  ·exact (all z hz).2.2 x h
  ·exact g.lots s hs x h
 refine ⟨by rw [xs];exact nd,λz' hz'=>?_,λz' hz'=>?_,λz' hz'=>?_,Int.mul_pos g.M0 (by omega),(g.bM.mul (bT os.T0 os.Tb g.n60)).mono (by omega),by rw [<- Ab (f:=Th.x),xs,Ab];exact len,n1⟩
 ·obtain ⟨z,hz,rfl⟩:=An.mp hz'
  unfold Th.poured;split
  ·rename_i e
   have:z=s:=kN nd hz (inc s hs) e;subst this;exact aCr os m1 mT
  ·split
   ·refine aFm os (all z hz).1 m1 mT mb (AX (lotsub (aAj (all z hz).1.nd os.nd) (gl z hz)) (by omega))
   ·exact wY (all z hz).1 (by omega)
 ·obtain ⟨z,hz,rfl⟩:=An.mp hz'
  rw [eG.1,eG.2];exact (all z hz).2.1
 ·obtain ⟨z,hz,rfl⟩:=An.mp hz'
  intro x hx;have:∃ u∈zs,u.x=x/\u.k = "lot":=by
   unfold Th.poured at hx;split at hx
   ·have hx':x∈(if m<z.T then z.ks else []):=hx
    split at hx'
    ·exact (all z hz).2.2 x hx'
    ·cases hx'
   ·split at hx
    ·exact gl z hz x hx
    ·exact (all z hz).2.2 x hx
  obtain ⟨u,hu,e1,e2⟩:=this;exact ⟨s.poured y m n u,Ai (inc u hu),dS.trans e1,eG.1.trans e2⟩
end
def Th.lot (M:Int)(x:Str)(m l:Int):Th:={ x:=x,k:="lot",l:=some l,ks:=[x],f:=λy=>if y=x then m*M else 0,T:=m,w:=λ_=>[] }
section
variable {M m l:Int}{n:Nat}{zs:List Th}{x:Str}
def ZOk.more (g:ZOk M n zs)(n1:n+1<=52):ZOk M (n+1) zs:=by
 refine ⟨g.nd,λz hz=>?_,g.kd,g.lots,g.M0,g.bM.mono (by omega),by have:=g.ln;omega,n1⟩;obtain ⟨a,b,c,d,e,f,t,k⟩:=g.ok z hz;exact ⟨a,b,c,d,e,f,by omega,by omega⟩
def aFb (M0:0<M)(wx:Wr x)(m1:1<=m)(mb:m<=1000000):TOk M (n+1) (Th.lot M x m l):=by
 refine ⟨wx,Bz (λ_ h=>absurd h Ag) .nil,λy hy=>?_,λy hy=>?_,?_,by show 0<=m;omega,by show m<=1000000*((n+1:Nat):Int);omega,by show 1<=n+1;omega⟩
 ·have:y=x:=Am.mp hy
  subst this;show 1<=if y=y then m*M else 0;rw [if_pos rfl];exact mul1 m1 (by omega)
 ·exact if_neg λe=>hy (Am.mpr e)
 ·show ([x].map λy=>if y=x then m*M else 0).sum=m*M
  simp
def aAv (g:ZOk M n zs)(wx:Wr x)(nx:x∉zs.map Th.x)(m1:1<=m)(mb:m<=1000000)(n1:n+1<=52):ZOk M (n+1) (zs++[Th.lot M x m l]):=by
 have g':=g.more n1;refine ⟨by rw [AC];exact kX g.nd nx,λz hz=>?_,λz hz=>?_,λz hz=>?_,g.M0,g'.bM,by rw [Az];have:=g.ln;show zs.length+1<=_;omega,n1⟩
 ·rcases Aj.mp hz with hz|hz
  ·exact g'.ok z hz
  ·rw [Am.mp hz];exact aFb g.M0 wx m1 mb
 ·rcases Aj.mp hz with hz|hz
  ·exact g.kd z hz
  ·rw [Am.mp hz];exact .inl ⟨rfl,l,rfl⟩
 ·intro y hy
  rcases Aj.mp hz with hz|hz
  ·obtain ⟨u,hu,e⟩:=g.lots z hz y hy
   exact ⟨u,Af _ hu,e⟩
  ·rw [Am.mp hz] at hy
   have:y=x:=Am.mp hy;exact ⟨Th.lot M x m l,Ac _ (Am.mpr rfl),this.symm,rfl⟩
end
section
variable {C:Addr}{H H':Hp}{L:List Addr}{p dl dt db:Addr}{bs bs':List V}{kvs kvs':List (Key×V)}{day day':Int}{bf bf':List V}{M M':Int}{n:Nat}{zs zs':List Th}
def PS.noted (B:PS C H L p dl dt db bs kvs day bf M n zs)(bl:bs'.length=bs.length+1)(fl:bf'.length=bf.length+1)(B7:Bk C H' p dl dt db bs' kvs' day' bf')(k7:Kp p dl dt db H H')(th:Ths H' L M' (n+1) kvs' zs')(g:ZOk M' (n+1) zs'):PS C H' L p dl dt db bs' kvs' day' bf' M' (n+1) zs':=by
 refine ⟨B7,th,by rw [bl,B.bl],by rw [fl,B.fl],B.inL,λb hb z=>?_,g⟩;obtain ⟨⟨dx,h0⟩,h1,h2,h3,_⟩:=id B7
 by_cases e1:b=p
 ·rw [e1,h0] at z;cases z
 by_cases e2:b=dl
 ·rw [e2,h1] at z;cases z
 by_cases e3:b=dt
 ·rw [e3,h2] at z;cases z
 by_cases e4:b=db
 ·rw [e4,h3] at z;cases z
 cases hh:H b with
 |none=>exact B.al b hb hh
 |some o=>
  rw [k7 b o ⟨e1,e2,e3,e4⟩ hh] at z;cases z
def PS.ndk (B:PS C H L p dl dt db bs kvs day bf M n zs):(kvs.map (·.1)).Nodup:=by
 rw [B.th.keys];exact BW.map _ (λa b h q=>h (BG q)) B.g.nd
theorem jG:∀ {kvs:List (Key×V)} {zs:List Th},Ths H L M n kvs zs->∀ kv∈kvs,∃ a,kv.2=.ref a
 |_,_,.nil,kv,h=>nomatch h
 |_,_,.cons ⟨_,q,_,_,e,_⟩ t,kv,h=>by
  rcases Ae.mp h with rfl|h
  ·exact ⟨q,e⟩
  ·exact jG t kv h
theorem oP {A:V->Th->Prop}{x:Str}{v:V}:∀ {kvs:List (Key×V)} {zs:List Th},Paired (λ(kv:Key×V) (z:Th)=>kv.1=.inr z.x/\A kv.2 z) kvs zs->Paired (λ(kv:Key×V) (z:Th)=>kv.1=.inr z.x/\((z.x=x/\kv.2=v)\/(z.x≠x/\A kv.2 z))) (kvs.map (λkv=>if kv.1=.inr x then (kv.1,v) else kv)) zs
 |_,_,.nil=>.nil
 |kv::kvs,z::zs,.cons ⟨e,a⟩ t=>by
  refine .cons ?_ (oP t);dsimp only
  by_cases q:z.x=x
  ·rw [if_pos (by rw [e,q])]
   exact ⟨e,.inl ⟨q,rfl⟩⟩
  ·rw [if_neg (by rw [e];intro w;exact q (BG w))]
   exact ⟨e,.inr ⟨q,a⟩⟩
theorem tS (h:valV kvs (.inr x)=some u):putK kvs (.inr x) v=kvs.map (λkv=>if kv.1=.inr x then (kv.1,v) else kv):=by
 unfold putK;rw [dJ,h];exact if_pos rfl
theorem gM {α β γ:Type}{R:α->β->Prop}{R':α->γ->Prop}{φ:β->γ}:∀ {xs:List α} {ys:List β},(∀ a b,b∈ys->R a b->R' a (φ b))->Paired R xs ys->Paired R' xs (ys.map φ)
 |_,_,_,.nil=>.nil
 |_,_,k,.cons a t=>.cons (k _ _ AO a) (gM (λa b hb=>k a b (AL _ hb)) t)
def Tq.scale {n:Nat}(h:Tq H M n q d1 d2 z)(c:Int):Tq H (M*c) n q d1 d2 (z.scale c):=by
 obtain ⟨h1,⟨kv,ks,e1,e2,e3⟩,hw⟩:=h;exact ⟨h1,⟨kv,ks,e1,e2.scale c,e3⟩,hw⟩
def Tg.scale (h:Tg H L M n v z)(c:Int):Tg H L (M*c) n v (z.scale c):=by
 obtain ⟨q,d1,d2,rfl,h,o⟩:=h;exact ⟨q,d1,d2,rfl,h.scale c,o⟩
def Ths.pour {s:Th}{y k:Str}{m:Int}{ql qr:V}(h:Ths H L M (n+1) kvs zs)(nd:(zs.map Th.x).Nodup)(hs:s∈zs)(ne:y≠s.x)(gl:Tg H L (M*s.T) (n+1) ql (s.left m))(gr:∀ g,g∈(if y∈zs.map Th.x then zs else zs++[Th.ves y k])->g.x=y->Tg H L (M*s.T) (n+1) qr (g.got s m n)) :
  Ths H L (M*s.T) (n+1) (dA kvs [(.inr s.x,ql),(.inr y,qr)]) (after zs s y k m n):=by
 show Ths H L (M*s.T) (n+1) (putK (putK kvs (.inr s.x) ql) (.inr y) qr) (after zs s y k m n);obtain ⟨u,eu,_⟩:=h.val nd s hs;rw [tS (v:=ql) eu];have p1:=oP (x:=s.x) (v:=ql) h;have nd2:∀ {A:V->Th->Prop} {kvs:List (Key×V)} {zs:List Th},Paired (λ(kv:Key×V) (z:Th)=>kv.1=.inr z.x/\A kv.2 z) kvs zs->(y∈zs.map Th.x->∃ u,valV kvs (.inr y)=some u)/\(y∉zs.map Th.x->valV kvs (.inr y)=none):=by
  intro A kvs zs h
  induction h with
  |nil=>exact ⟨λh=>(nomatch h),λ_=>rfl⟩
  |cons a t ih=>
   rename_i kv z kvs zs
   by_cases q:z.x=y
   ·exact ⟨λ_=>⟨kv.2,bJ (by rw [a.1,q])⟩,λw=>absurd (by rw [Ao,q];exact AO) w⟩
   ·rw [bE (by rw [a.1];intro w;exact q (BG w))]
    refine ⟨λw=>ih.1 ?_,λw=>ih.2 λw2=>w ?_⟩
    ·rw [Ao] at w
     exact (Ae.mp w).elim (λw=>absurd w.symm q) id
    ·rw [Ao]
     exact AL _ w2
 unfold after at *
 by_cases hy:y∈zs.map Th.x
 ·rw [if_pos hy] at gr ⊢
  obtain ⟨u2,e2⟩:=(nd2 (A:=λv' z=>(z.x=s.x/\v'=ql)\/(z.x≠s.x/\Tg H L M (n+1) v' z)) p1).1 hy;rw [tS (v:=qr) e2];have p2:=oP (A:=λv' z=>(z.x=s.x/\v'=ql)\/(z.x≠s.x/\Tg H L M (n+1) v' z)) (x:=y) (v:=qr) p1;refine gM (λkv z hz a=>?_) p2;obtain ⟨e,a⟩:=a;refine ⟨by rw [dS];exact e,?_⟩;unfold Th.poured
  rcases a with ⟨ey,ev⟩|⟨ny,⟨ex,ev⟩|⟨nx,t⟩⟩
  ·rw [if_neg (by rw [ey];exact ne),if_pos ey,ev]
   exact gr z hz ey
  ·rw [if_pos ex,ev]
   rw [kN nd hz hs ex];exact gl
  ·rw [if_neg nx,if_neg ny]
   exact t.scale s.T
 ·rw [if_neg hy] at gr ⊢
  rw [cH qr ((nd2 (A:=λv' z=>(z.x=s.x/\v'=ql)\/(z.x≠s.x/\Tg H L M (n+1) v' z)) p1).2 hy),AC];refine fD (gM (λkv z hz a=>?_) p1) ⟨?_,?_⟩
  ·obtain ⟨e,a⟩:=a
   refine ⟨by rw [dS];exact e,?_⟩;have ny:z.x≠y:=λq=>hy (q▸Ai hz);unfold Th.poured
   rcases a with ⟨ex,ev⟩|⟨nx,t⟩
   ·rw [if_pos ex,ev]
    rw [kN nd hz hs ex];exact gl
   ·rw [if_neg nx,if_neg ny]
    exact t.scale s.T
  ·rw [dS];rfl
  ·unfold Th.poured
   rw [if_neg (show ¬ (Th.ves y k).x=s.x from ne),if_pos (show (Th.ves y k).x=y from rfl)];exact gr _ (Ac _ (Am.mpr rfl)) rfl
end
abbrev Nxt (C:Addr)(H:Hp)(L:List Addr)(p dl dt db:Addr)(bs:List V)(kvs:List (Key×V))(day:Int)(bf:List V)(day':Int)(M':Int)(n:Nat)(zs':List Th)(row:List V)(Q:VK):Prop:=∀ q kvs' bf' H',PS C H' L p dl dt db (bs++[.ref q]) kvs' day' bf' M' (n+1) zs'->BfN H H' bf bf' kvs day kvs'->H' q=some (.tup row)->Kp p dl dt db H H'->Q (.int n) H'
def sT (C:Addr):Sp:=λvs H Q _=>∃ L p dl dt db bs kvs day bf M n zs x wr m l,vs=[.ref p,.str x,.str wr,.int m,.int l]/\PS C H L p dl dt db bs kvs day bf M n zs/\Wr x/\Wr wr/\x∉zs.map Th.x/\1<=m/\m<=1000000/\0<=l/\l<=1000000/\n+1<=52 /\
 Nxt C H L p dl dt db bs kvs day bf day M n (zs++[Th.lot M x m l]) [.str "take",.str x,.str wr,.int m,.int l] Q
def spGo (C:Addr):Sp:=λvs H Q _=>∃ L p dl dt db bs kvs day bf M n zs d',vs=[.ref p,.int d']/\PS C H L p dl dt db bs kvs day bf M n zs/\day<=d'/\0<=d'/\d'<=1000000/\n+1<=52/\Nxt C H L p dl dt db bs kvs day bf d' M n zs [.str "go",.int d'] Q
structure PoA (zs:List Th)(s:Th)(y:Str)(m day:Int)(n:Nat):Prop where
 hs:s∈zs
 nd:s.k ≠ "dose"
 wy:Wr y
 ne:y≠s.x
 m1:1<=m
 mT:m<=s.T
 mb:m<=1000000
 fr:∀ x∈s.ks,∀ l,LstOf zs x l->day<=l
 n1:n+1<=52
def sV (C:Addr):Sp:=λvs H Q _=>∃ L p dl dt db bs kvs day bf M n zs s y m,vs=[.ref p,.str s.x,.str y,.int m]/\PS C H L p dl dt db bs kvs day bf M n zs/\PoA zs s y m day n/\(∀ z∈zs,z.x=y->z.k = "store") /\
 Nxt C H L p dl dt db bs kvs day bf day (M*s.T) n (after zs s y "store" m n) [.str "pour",.str s.x,.str y,.int m] Q
def tG (C:Addr):Sp:=λvs H Q _=>∃ L p dl dt db bs kvs day bf M n zs s y m,vs=[.ref p,.str s.x,.str y,.int m]/\PS C H L p dl dt db bs kvs day bf M n zs/\PoA zs s y m day n/\y∉zs.map Th.x /\
 Nxt C H L p dl dt db bs kvs day bf day (M*s.T) n (after zs s y "dose" m n) [.str "give",.str s.x,.str y,.int m] Q
def aFa {M m l:Int}{n:Nat}(M0:0<M)(m1:1<=m)(h1:H q=some (.tup [.str "lot",.int l,.ref d1,.ref d2]))(h2:H d1=some (.dK [(.inr x,.ref t)]))(h3:H t=some (.tup [.int m,.int 1]))(h4:H d2=some (.dK [(.inr x,.ref e)]))(h5:H e=some (.tup [])):Tq H M n q d1 d2 (Th.lot M x m l):=by
 have dk:∀ v:V,DK [((.inr x:Key),v)] [x]:=λv=>⟨rfl,Bz (λ_ h=>absurd h Ag) .nil⟩;refine ⟨h1,⟨_,[x],h2,⟨dk _,λy hy=>?_,λy hy=>if_neg λz=>hy (Am.mpr z)⟩,λy=>Iff.rfl⟩,⟨_,h4,⟨[x],dk _,λy=>Iff.rfl⟩,λy hy=>?_⟩⟩
 ·obtain rfl:=Am.mp hy
  refine ⟨t,m,1,bJ rfl,h3,?_⟩;show Fr M m 1 (if y=y then m*M else 0);rw [if_pos rfl];exact ⟨mW (by omega),by rw [Int.mul_one]⟩
 ·obtain rfl:=Am.mp hy
  exact ⟨e,bJ rfl,h5,Bv _⟩
def zM {M:Int}{n:Nat}{y k:Str}(h1:H q=some (.tup [.str k,.non,.ref d1,.ref d2]))(h2:H d1=some (.dK []))(h3:H d2=some (.dK [])):Tq H M n q d1 d2 (Th.ves y k):=
 ⟨h1,⟨[],[],h2,⟨.nil,(λ_ h=>absurd h Ag),λ_ _=>rfl⟩,λ_=>Iff.rfl⟩,⟨[],h3,⟨⟨[],.nil,λ_=>Iff.rfl⟩,λ_ h=>absurd h Ag⟩⟩⟩
section
variable {P:AE}{w:World}{K:Aa}{mg:Str->Option Value}{base:Heap}
def aDs:FnScope ["self","name","ware","many","last"] ["self","name","ware","many","last"] (aG xF):=fnScOk (by decide +kernel)
def aBz (F:Fun K "take" "Books.take" xF f fd)(L:Cl K mg C)(cN:Cal P w K mg base CX0 3 "refuse_no_name" ["thing"] gR)(cS:Cal P w K mg base CX0 3 "refuse_no_spoons" ["many"] nG)(cD:Cal P w K mg base CX0 3 "refuse_no_day" ["day"] lK)(cL:Cal P w K mg base CX0 3 "new_lot" ["name","many","last_day"] lL)(mH:MCal P w K mg base CX0 3 C "refuse_had" ["self","name"] (wW C))(mN:MCal P w K mg base CX0 3 C "note" ["self","deed","changed"] (kQ C)):FnOk P w K mg base CX0 4 f fd ["self","name","ware","many","last"] (sT C):=by
 refine F.ok aDs (λvs H Q E h=>?_) (λcdv A outer s H vs Q E hr h=>?_)
 ·obtain ⟨_,_,_,_,_,_,_,_,_,_,_,_,_,_,_,_,rfl,_⟩:=h
  rfl
 ·obtain ⟨ad,p,dl,dt,db,bs,kvs,day,bf,M,n,zs,x,wr,m,l,rfl,B,wx,ww,nx,m1,m2,l1,l2,n1,k⟩:=h
  refine ⟨_,(aC (bD (aV cN hr rfl aR (aA (pv 1) aE)))
   (aC (bD (aV cN hr rfl aR (aA (pv 2) aE)))
   (aC (bD (cQ L.cl mH hr aR (pv 0) (aA (pv 1) aE)))
   (aC (bD (aV cS hr rfl aR (aA (pv 3) aE)))
   (aC (bD (aV cD hr rfl aR (aA (pv 4) aE)))
   (aF (aK (cQ L.cl mN hr aR (pv 0) (aA (bF (aA aJ (aA (pv 1) (aA (pv 2) (aA (pv 3) (aA (pv 4) aE)))))) (aA (gL (bV (pv 1) (aV cL hr rfl aR (aA (pv 1) (aA (pv 3) (aA (pv 4) aE)))) gI) rfl rfl (by simp) (by decide)) aE)))))))))),?_⟩
  refine cut6 ?_
  intros
  have kl:=B.kl;have zl:=B.g.ln;have bl':=B.bl;have fl:=B.fl;refine ⟨_,rfl,x,rfl,wx,λH1 s1=>⟨_,rfl,wr,rfl,ww,λH2 s2=>?_⟩⟩;have s12:=s1.trans s2;have B2:=B.keep s12;obtain ⟨⟨dx,h0⟩,hl,ht,hb,n6⟩:=id B2.bk;refine ⟨_,rfl,p,dx,_,rfl,h0,(by kernel_rfl),_,rfl,p,dl,dt,db,bs,kvs,day,bf,x,rfl,B2.bk,B2.th.non nx,?_⟩;refine ⟨_,rfl,m,rfl,m1,m2,⟨_,rfl,l,rfl,l1,l2,?_⟩⟩;refine ⟨_,rfl,p,dx,_,rfl,h0,(by kernel_rfl),_,rfl,_,rfl,_,rfl,_,rfl,zLn5,λq hq=>?_⟩;have t3:=Same.upd (o:=.tup [.str "take",.str x,.str wr,.int m,.int l]) hq;intro c hc;have t4:=Same.upd (o:=.dK []) hc;refine ⟨_,rfl,_,rfl,_,rfl,_,rfl,x,m,l,rfl,λql d1 d2 t e H5 s5 e1 e2 e3 e4 e5 f1 f2=>⟨s5 _ _ aB,[(.inr x,.ref ql)],rfl,by show 1<=15;decide,?_⟩⟩;rw [show dA [] [((.inr x:Key),V.ref ql)]=[(.inr x,.ref ql)] from rfl];have s25:=(t3.trans t4).trans s5;have hc2:H2 c=none:=same_none t3 hc;have s6:Same H2 (upd H5 c (.dK [(.inr x,.ref ql)])):=dD s25 hc2;have B6:=B2.keep s6;have cd1:d1≠c:=λz=>by rw [z,aB] at f1;cases f1
  have cd2:d2≠c:=λz=>by rw [z,aB] at f2;cases f2
  have d10:H2 d1=none:=same_none (t3.trans t4) f1;have d20:H2 d2=none:=same_none (t3.trans t4) f2;have tc:∀ {b xs},H5 b=some (.tup xs)->upd H5 c (.dK [(.inr x,.ref ql)]) b=some (.tup xs):=λ{b xs} hb'=>by
   rw [aD (λz=>by rw [z,s5 _ _ aB] at hb';cases hb')];exact hb'
  refine ⟨p,dl,dt,db,bs,kvs,day,bf,q,c,[(.inr x,.ref ql)],rfl,B6.bk,aB,B2.out (B2.fresh hc2),⟨[x],rfl⟩,by show 1<=2;decide,by omega,by omega,by omega,B.ndk,jG B.th,.inr (.inl ⟨_,_,rfl⟩),λbf' H7 fl' B7 k7=>?_⟩;have em:dA kvs [(.inr x,.ref ql)]=kvs++[(.inr x,.ref ql)]:=cH _ (B2.th.non nx);rw [em] at B7 fl';have tk7:=B6.bk.tk k7;have kp7:=B6.kpl k7;have o1:=B2.fresh d10;have o2:=B2.fresh d20;have lot:=aFa (n:=n+1) B.g.M0 m1 (tk7 _ _ (tc e1)) (kp7 _ _ o1 (by rw [aD cd1];exact e2)) (tk7 _ _ (tc e3)) (kp7 _ _ o2 (by rw [aD cd2];exact e4)) (tk7 _ _ (tc e5));have PN:=B6.noted (by rw [Az];rfl) fl'.len B7 k7 (fD (B6.th.keep kp7 tk7 (CQ n)) ⟨rfl,ql,d1,d2,rfl,lot,o1,o2⟩) (aAv B.g wx nx m1 m2 n1);rw [bl'];exact k q _ bf' H7 PN (fl'.from λb hb=>same_none (s12.trans s6) hb) (tk7 _ _ (tc (s5 _ _ (t4 _ _ aB)))) ((Kp.of (s12.trans s6)).trans k7)
def scGo:FnScope ["self","day","number"] ["self","day"] (aG sGo):=fnScOk (by decide +kernel)
def aGk (F:Fun K "go" "Books.go" sGo f fd)(L:Cl K mg C)(cD:Cal P w K mg base CX0 3 "refuse_no_day" ["day"] lK)(mN:MCal P w K mg base CX0 3 C "note" ["self","deed","changed"] (kQ C)):FnOk P w K mg base CX0 4 f fd ["self","day"] (spGo C):=by
 refine F.ok scGo (λvs H Q E h=>?_) (λcdv A outer s H vs Q E hr h=>?_)
 ·obtain ⟨_,_,_,_,_,_,_,_,_,_,_,_,_,rfl,_⟩:=h
  rfl
 ·obtain ⟨ad,p,dl,dt,db,bs,kvs,day,bf,M,n,zs,d',rfl,B,dd,d0,d1,n1,k⟩:=h
  refine ⟨_,(aC (bD (aV cD hr rfl aR (aA (pv 1) aE)))
   (aC (bC (aP jO (pv 1) (bU (pv 0) rfl) (aU _)) (aF iR) aQ)
   (aC (aT (i:=2) scGo.nd rfl (Or.inl rfl) (cQ L.cl mN hr aR (pv 0) (aA (bF (aA aJ (aA (pv 1) aE))) (aA bW aE))))
   (aC (kS (pv 0) (pv 1) rfl)
   (aF (aK (pv 2))))))),?_⟩
  refine cut5 ?_
  intros
  obtain ⟨⟨dx,h0⟩,hl,ht,hb,n6⟩:=id B.bk;have kl:=B.kl;have zl:=B.g.ln;have bl':=B.bl;have fl:=B.fl;refine ⟨_,rfl,d',rfl,d0,d1,⟨_,rfl,_,rfl,p,C,dx,_,_,rfl,h0,L.cl,L.nD,jE,_,_,rfl,rfl,_,rfl,ite2 (λz=>absurd (of_decide_eq_true z) (by show ¬ d'<day;omega)) (λ_=>?_)⟩⟩;refine ⟨_,rfl,p,dx,_,rfl,h0,(by kernel_rfl),_,rfl,zLn2,λq hq=>?_⟩;have t3:=Same.upd (o:=.tup [.str "go",.int d']) hq;intro c hc;have t4:=Same.upd (o:=.dK []) hc;have s4:=t3.trans t4;have B4:=B.keep s4;have hc2:H c=none:=same_none t3 hc;refine ⟨p,dl,dt,db,bs,kvs,day,bf,q,c,[],rfl,B4.bk,aB,B.out (B.fresh hc2),⟨[],rfl⟩,by show 0<=2;decide,by omega,by omega,by omega,B.ndk,jG B.th,.inl rfl,λbf' H7 fl' B7 k7=>?_⟩;obtain ⟨⟨dx',g0⟩,gl,gt,gb,_⟩:=id B7;obtain ⟨n1',n2,n3,n4,n5⟩:=B7.ns;refine ⟨_,rfl,_,rfl,p,C,dx',_,rfl,g0,L.cl,L.nD,(by show 4<1000;decide),?_⟩;have B8:Bk C (upd H7 p (.ins C dx' (putF "day" (.int d') (flds dl dt db day)))) p dl dt db (bs++[.ref q]) kvs d' bf':=⟨⟨dx',Eq.trans aB (congrArg (λl=>some (HO.ins C dx' l)) qW)⟩,by rw [aD (Au n1')];exact gl,by rw [aD (Au n2)];exact gt,by rw [aD (Au n3)];exact gb,n6⟩;have k8:Kp p dl dt db H (upd H7 p (.ins C dx' (putF "day" (.int d') (flds dl dt db day)))):=λb o u e=>by
   rw [aD u.1];exact k7 b o u (s4 b o e)
  have hq8:(upd H7 p (.ins C dx' (putF "day" (.int d') (flds dl dt db day)))) q=some (.tup [.str "go",.int d']):=by
   have z:=B4.bk.tk k7 _ _ (t4 _ _ aB);rw [aD (B7.out z).1];exact z
  refine ⟨_,rfl,?_⟩;rw [bl'];exact k q kvs bf' _ (B.noted (by rw [Az];rfl) fl'.len B8 k8 (B.th.keep (B.kpl k8) (B.bk.tk k8) (CQ n)) (B.g.more n1)) ((fl'.from λb hb=>same_none s4 hb).upd g0) hq8 k8
end
theorem nC (ne:y≠x):dA ([]:List (Key×V)) [(.inr x,u),(.inr y,v)]=[(.inr x,u),(.inr y,v)]:=by
 show putK (putK ([]:List (Key×V)) (.inr x) u) (.inr y) v=_;rw [cH (kvs:=([]:List (Key×V))) _ rfl,List.nil_append,cH _ (by rw [bE (λz=>ne (BG z).symm)];rfl)];rfl
section
variable {P:AE}{w:World}{K:Aa}{mg:Str->Option Value}{base:Heap}
def tN:FnScope ["self","source","goal","many","into","behind"] ["self","source","goal","many"] (aG xG):=fnScOk (by decide +kernel)
def aB2 (F:Fun K "pour" "Books.pour" xG f fd)(T:Txt mg)(L:Cl K mg C)(cS:Cal P w K mg base CX0 6 "refuse_no_spoons" ["many"] nG)(cV:Cal P w K mg base CX0 6 "new_vessel" ["word"] pZ)(cP:Cal P w K mg base CX0 6 "poured" ["source","goal","many","number"] iY)(mS:MCal P w K mg base CX0 6 C "refuse_no_source" ["self","source"] (lI C))(mG:MCal P w K mg base CX0 6 C "refuse_no_goal" ["self","source","goal"] (lJ C))(mP:MCal P w K mg base CX0 6 C "refuse_to_pour" ["self","source","many"] (iX C))(mN:MCal P w K mg base CX0 6 C "note" ["self","deed","changed"] (kQ C)):FnOk P w K mg base CX0 7 f fd ["self","source","goal","many"] (sV C):=by
 refine F.ok tN (λvs H Q E h=>?_) (λcdv A outer s0 H vs Q E hr h=>?_)
 ·obtain ⟨_,_,_,_,_,_,_,_,_,_,_,_,_,_,_,rfl,_⟩:=h
  rfl
 ·obtain ⟨ad,p,dl,dt,db,bs,kvs,day,bf,M,n,zs,s,y,m,rfl,B,a,st,k⟩:=h
  refine ⟨_,(aC (bD (cQ L.cl mS hr aR (pv 0) (aA (pv 1) aE)))
   (aC (bD (cQ L.cl mG hr aR (pv 0) (aA (pv 1) (aA (pv 2) aE))))
   (aC (bD (aV cS hr rfl aR (aA (pv 3) aE)))
   (aC (bD (cQ L.cl mP hr aR (pv 0) (aA (pv 1) (aA (pv 3) aE))))
   (aC (aT (i:=4) tN.nd rfl (Or.inl rfl) (jB (aO hr) (bU (pv 0) rfl) (pv 2) (aV cV hr rfl aR (aA aJ aE)) ⟨rfl,rfl,rfl,rfl⟩))
   (aC (aT (i:=5) tN.nd rfl (Or.inl rfl) (aV cP hr rfl aR (aA (aI (aO hr) (bU (pv 0) rfl) (pv 1) (λ_ _=>rfl)) (aA (pv 4) (aA (pv 3) (aA (aS bA rfl T.len Be (aA (bU (pv 0) rfl) aE)) aE))))))
   (aF (aK (cQ L.cl mN hr aR (pv 0) (aA (bF (aA aJ (aA (pv 1) (aA (pv 2) (aA (pv 3) aE))))) (aA (gL (bV (pv 1) (pit 5 0) (bV (pv 2) (pit 5 1) gI)) rfl rfl (by simp) (by decide)) aE))))))))))),?_⟩
  refine cut7 ?_
  intros
  obtain ⟨hs,nd,wy,ne,m1,mT,mb,fr,n1⟩:=a;have kl:=B.kl;have zl:=B.g.ln;have bl':=B.bl;have fl:=B.fl;obtain ⟨⟨dx,h0⟩,hl,ht,hb,n6⟩:=id B.bk;refine ⟨_,rfl,p,dx,_,rfl,h0,(by kernel_rfl),_,rfl,ad,p,dl,dt,db,bs,kvs,day,bf,M,n,zs,s,rfl,B,hs,nd,λH1 s1=>?_⟩;refine ⟨_,rfl,p,dx,_,rfl,s1 _ _ h0,(by kernel_rfl),_,rfl,_,rfl,ad,p,dl,dt,db,bs,kvs,day,bf,M,n,zs,s.x,y,rfl,B.keep s1,wy,ne,st,λH2 s2=>?_⟩;have s12:=s1.trans s2;refine ⟨_,rfl,m,rfl,m1,mb,⟨_,rfl,p,dx,_,rfl,s12 _ _ h0,(by kernel_rfl),_,rfl,_,rfl,ad,p,dl,dt,db,bs,kvs,day,bf,M,n,zs,s,m,rfl,B.keep s12,hs,mT,fr,λH3 s3=>?_⟩⟩;have s13:=s12.trans s3;have B3:=B.keep s13;refine ⟨_,rfl,p,C,dx,_,_,rfl,s13 _ _ h0,L.cl,L.nT,aZ,dt,rfl,.inl ⟨kvs,.inl (s13 _ _ ht)⟩,_,rfl,"store",rfl,λqv v1 v2 H4 s4 f1 f2 g0 g1 g2=>?_⟩;have s14:=s13.trans s4;have B4:=B.keep s14;have v10:=same_none s13 f1;have v20:=same_none s13 f2;obtain ⟨⟨_,i0⟩,il,it,ib,_⟩:=id B4.bk;refine ⟨_,DGet.k (k:=.inr y) it,?_⟩;obtain ⟨g,qg,a1,a2,eg,hg,tg,og,oa1,oa2⟩:∃ g qg a1 a2,(valV kvs (.inr y)).getD (.ref qv)=.ref qg/\g∈(if y∈zs.map Th.x then zs else zs++[Th.ves y "store"])/\Tq H4 M n qg a1 a2 g/\g.x=y/\a1∉ad/\a2∉ad:=by
   by_cases hy:y∈zs.map Th.x
   ·obtain ⟨g,hg,rfl⟩:=An.mp hy
    obtain ⟨q,d1,d2,e,t,o1,o2⟩:=B4.at hg;exact ⟨g,q,d1,d2,by rw [e];rfl,by rw [if_pos hy];exact hg,t,rfl,o1,o2⟩
   ·refine ⟨Th.ves y "store",qv,v1,v2,by rw [B4.th.non hy];rfl,by rw [if_neg hy];exact Ac _ (Am.mpr rfl),zM g0 g1 g2,rfl,B.fresh v10,B.fresh v20⟩
  have oks:=(jL (k:="store") B.g wy (.inl rfl)).1 g hg;rw [eg];obtain ⟨q,d1,d2,e,ts,o1,o2⟩:=B4.at hs;have gv:DGet H4 dt (.str s.x) (some (.ref q)):=by rw [<- e];exact DGet.k (k:=.inr s.x) it
  refine ⟨_,rfl,p,C,dx,_,_,rfl,s14 _ _ h0,L.cl,L.nT,aZ,_,rfl,dt,_,rfl,gv,_,rfl,_,rfl,_,rfl,p,C,dx,_,_,rfl,s14 _ _ h0,L.cl,L.nE,dI,dl,_,rfl,.inl (SqL.of il),?_⟩;rw [bl'];refine ⟨M,m,n,q,d1,d2,qg,a1,a2,s,g,rfl,⟨ts,tg,B.g.ok s hs,oks.1,m1,mT,mb,B.g.M0,B.g.bm,by omega⟩,λr ql b1 b2 qr c1 c2 H5 s5 hr5 tl tr nb1 ob2 nc1 nc2=>?_⟩;have s15:=s14.trans s5;refine ⟨_,rfl,p,dx,_,rfl,s15 _ _ h0,(by kernel_rfl),_,rfl,_,rfl,_,rfl,zLn4,λqd hqd=>?_⟩;have t6:=Same.upd (o:=.tup [.str "pour",.str s.x,.str y,.int m]) hqd;intro c hc;have t7:=Same.upd (o:=.dK []) hc;have s67:=t6.trans t7;refine ⟨_,rfl,r,_,_,rfl,SqT.of (s67 _ _ hr5),rfl,_,rfl,r,_,_,rfl,SqT.of (s67 _ _ hr5),rfl,aB,[(.inr s.x,.ref ql),(.inr y,.ref qr)],rfl,by show 2<=15;decide,?_⟩;rw [nC ne];have hc0:H5 c=none:=same_none t6 hc;have s8:Same H5 (upd (upd (upd H5 qd (.tup [.str "pour",.str s.x,.str y,.int m])) c (.dK [])) c (.dK [(.inr s.x,.ref ql),(.inr y,.ref qr)])):=dD s67 hc0;have hqd8:(upd (upd (upd H5 qd (.tup [.str "pour",.str s.x,.str y,.int m])) c (.dK [])) c (.dK [(.inr s.x,.ref ql),(.inr y,.ref qr)])) qd=some (.tup [.str "pour",.str s.x,.str y,.int m]):=by
   have nq:qd≠c:=λz=>by rw [z,aB] at hc;cases hc
   rw [aD nq];exact t7 _ _ aB
  have hc8:(upd (upd (upd H5 qd (.tup [.str "pour",.str s.x,.str y,.int m])) c (.dK [])) c (.dK [(.inr s.x,.ref ql),(.inr y,.ref qr)])) c=some (.dK [(.inr s.x,.ref ql),(.inr y,.ref qr)]):=aB;generalize upd (upd (upd H5 qd (.tup [.str "pour",.str s.x,.str y,.int m])) c (.dK [])) c (.dK [(.inr s.x,.ref ql),(.inr y,.ref qr)])=H8 at s8 hqd8 hc8 ⊢;have s18:=s15.trans s8;have B8:=B.keep s18;refine ⟨p,dl,dt,db,bs,kvs,day,bf,qd,c,_,rfl,B8.bk,hc8,B.out (B.fresh (same_none s15 hc0)),⟨[s.x,y],rfl⟩,by show 2<=2;decide,by omega,by omega,by omega,B.ndk,jG B.th,.inr (.inr ⟨_,_,_,_,rfl,Au ne,by rw [e];rfl⟩),λbf' H9 fl' B9 k9=>?_⟩;have tk9:=B8.bk.tk k9;have kp9:=B8.kpl k9;have b1o:=B4.fresh nb1;have b2o:b2∉ad:=ob2.elim (λz=>z▸o2) B4.fresh;have tl9:=(tl.same s8).keep b1o b2o kp9 tk9 (Ak _);have tr9:=(tr.same s8).keep (B4.fresh nc1) (B4.fresh nc2) kp9 tk9 (Ak _);have nd':=(jL (k:="store") B.g wy (.inl rfl)).2.1;have PN:=B8.noted (by rw [Az];rfl) fl'.len B9 k9 (Ths.pour (k:="store") (B8.th.keep kp9 tk9 (CQ n)) B.g.nd hs ne ⟨ql,b1,b2,rfl,tl9,b1o,b2o⟩ (λg' hg' e'=>by
   have:g'=g:=kN nd' hg' hg (e'.trans og.symm);rw [this];exact ⟨qr,c1,c2,rfl,tr9,B4.fresh nc1,B4.fresh nc2⟩)) (rC B.g hs wy (.inl rfl) m1 mT mb n1)
  rw [bl'];exact k qd _ bf' H9 PN (fl'.from λb hb=>same_none s18 hb) (tk9 _ _ hqd8) ((Kp.of s18).trans k9)
def zX:FnScope ["self","source","name","many","behind"] ["self","source","name","many"] (aG xI):=fnScOk (by decide +kernel)
def aCg (F:Fun K "give" "Books.give" xI f fd)(T:Txt mg)(L:Cl K mg C)(cS:Cal P w K mg base CX0 6 "refuse_no_spoons" ["many"] nG)(cV:Cal P w K mg base CX0 6 "new_vessel" ["word"] pZ)(cP:Cal P w K mg base CX0 6 "poured" ["source","goal","many","number"] iY)(mS:MCal P w K mg base CX0 6 C "refuse_no_source" ["self","source"] (lI C))(cN:Cal P w K mg base CX0 6 "refuse_no_name" ["thing"] gR)(mH:MCal P w K mg base CX0 6 C "refuse_had" ["self","name"] (wW C))(mP:MCal P w K mg base CX0 6 C "refuse_to_pour" ["self","source","many"] (iX C))(mN:MCal P w K mg base CX0 6 C "note" ["self","deed","changed"] (kQ C)):FnOk P w K mg base CX0 7 f fd ["self","source","name","many"] (tG C):=by
 refine F.ok zX (λvs H Q E h=>?_) (λcdv A outer s0 H vs Q E hr h=>?_)
 ·obtain ⟨_,_,_,_,_,_,_,_,_,_,_,_,_,_,_,rfl,_⟩:=h
  rfl
 ·obtain ⟨ad,p,dl,dt,db,bs,kvs,day,bf,M,n,zs,s,y,m,rfl,B,a,st,k⟩:=h
  refine ⟨_,(aC (bD (cQ L.cl mS hr aR (pv 0) (aA (pv 1) aE)))
   (aC (bD (aV cN hr rfl aR (aA (pv 2) aE)))
   (aC (bD (cQ L.cl mH hr aR (pv 0) (aA (pv 2) aE)))
   (aC (bD (aV cS hr rfl aR (aA (pv 3) aE)))
   (aC (bD (cQ L.cl mP hr aR (pv 0) (aA (pv 1) (aA (pv 3) aE))))
   (aC (aT (i:=4) zX.nd rfl (Or.inl rfl) (aV cP hr rfl aR (aA (aI (aO hr) (bU (pv 0) rfl) (pv 1) (λ_ _=>rfl)) (aA (aV cV hr rfl aR (aA aJ aE)) (aA (pv 3) (aA (aS bA rfl T.len Be (aA (bU (pv 0) rfl) aE)) aE))))))
   (aF (aK (cQ L.cl mN hr aR (pv 0) (aA (bF (aA aJ (aA (pv 1) (aA (pv 2) (aA (pv 3) aE))))) (aA (gL (bV (pv 1) (pit 4 0) (bV (pv 2) (pit 4 1) gI)) rfl rfl (by simp) (by decide)) aE))))))))))),?_⟩
  refine cut7 ?_
  intros
  obtain ⟨hs,nd,wy,ne,m1,mT,mb,fr,n1⟩:=a;have kl:=B.kl;have zl:=B.g.ln;have bl':=B.bl;have fl:=B.fl;obtain ⟨⟨dx,h0⟩,hl,ht,hb,n6⟩:=id B.bk;refine ⟨_,rfl,p,dx,_,rfl,h0,(by kernel_rfl),_,rfl,ad,p,dl,dt,db,bs,kvs,day,bf,M,n,zs,s,rfl,B,hs,nd,λH1 s1=>?_⟩;refine ⟨_,rfl,y,rfl,wy,λH2 s2=>?_⟩;have s12:=s1.trans s2;refine ⟨_,rfl,p,dx,_,rfl,s12 _ _ h0,(by kernel_rfl),_,rfl,p,dl,dt,db,bs,kvs,day,bf,y,rfl,(B.keep s12).bk,(B.keep s12).th.non st,?_⟩;refine ⟨_,rfl,m,rfl,m1,mb,⟨_,rfl,p,dx,_,rfl,s12 _ _ h0,(by kernel_rfl),_,rfl,_,rfl,ad,p,dl,dt,db,bs,kvs,day,bf,M,n,zs,s,m,rfl,B.keep s12,hs,mT,fr,λH3 s3=>?_⟩⟩;have s13:=s12.trans s3;have B3:=B.keep s13;obtain ⟨q,d1,d2,e,ts3,o1,o2⟩:=B3.at hs;have gv:DGet H3 dt (.str s.x) (some (.ref q)):=by rw [<- e];exact DGet.k (k:=.inr s.x) (s13 _ _ ht)
  refine ⟨_,rfl,p,C,dx,_,_,rfl,s13 _ _ h0,L.cl,L.nT,aZ,_,rfl,dt,_,rfl,gv,"dose",rfl,λqv v1 v2 H4 s4 f1 f2 g0 g1 g2=>?_⟩;have s14:=s13.trans s4;have B4:=B.keep s14;have v10:=same_none s13 f1;have v20:=same_none s13 f2;obtain ⟨⟨_,i0⟩,il,it,ib,_⟩:=id B4.bk;have ts:=ts3.same s4;obtain ⟨g,qg,a1,a2,eg,hg,tg,og,oa1,oa2⟩:∃ g qg a1 a2,qv=qg/\g∈(if y∈zs.map Th.x then zs else zs++[Th.ves y "dose"])/\Tq H4 M n qg a1 a2 g/\g.x=y/\a1∉ad/\a2∉ad:=⟨Th.ves y "dose",qv,v1,v2,rfl,by rw [if_neg st];exact Ac _ (Am.mpr rfl),zM g0 g1 g2,rfl,B.fresh v10,B.fresh v20⟩;subst eg;have oks:=(jL (k:="dose") B.g wy (.inr rfl)).1 g hg;refine ⟨_,rfl,_,rfl,p,C,dx,_,_,rfl,s14 _ _ h0,L.cl,L.nE,dI,dl,_,rfl,.inl (SqL.of il),?_⟩;rw [bl'];refine ⟨M,m,n,q,d1,d2,qv,a1,a2,s,g,rfl,⟨ts,tg,B.g.ok s hs,oks.1,m1,mT,mb,B.g.M0,B.g.bm,by omega⟩,λr ql b1 b2 qr c1 c2 H5 s5 hr5 tl tr nb1 ob2 nc1 nc2=>?_⟩;have s15:=s14.trans s5;refine ⟨_,rfl,p,dx,_,rfl,s15 _ _ h0,(by kernel_rfl),_,rfl,_,rfl,_,rfl,zLn4,λqd hqd=>?_⟩;have t6:=Same.upd (o:=.tup [.str "give",.str s.x,.str y,.int m]) hqd;intro c hc;have t7:=Same.upd (o:=.dK []) hc;have s67:=t6.trans t7;refine ⟨_,rfl,r,_,_,rfl,SqT.of (s67 _ _ hr5),rfl,_,rfl,r,_,_,rfl,SqT.of (s67 _ _ hr5),rfl,aB,[(.inr s.x,.ref ql),(.inr y,.ref qr)],rfl,by show 2<=15;decide,?_⟩;rw [nC ne];have hc0:H5 c=none:=same_none t6 hc;have s8:Same H5 (upd (upd (upd H5 qd (.tup [.str "give",.str s.x,.str y,.int m])) c (.dK [])) c (.dK [(.inr s.x,.ref ql),(.inr y,.ref qr)])):=dD s67 hc0;have hqd8:(upd (upd (upd H5 qd (.tup [.str "give",.str s.x,.str y,.int m])) c (.dK [])) c (.dK [(.inr s.x,.ref ql),(.inr y,.ref qr)])) qd=some (.tup [.str "give",.str s.x,.str y,.int m]):=by
   have nq:qd≠c:=λz=>by rw [z,aB] at hc;cases hc
   rw [aD nq];exact t7 _ _ aB
  have hc8:(upd (upd (upd H5 qd (.tup [.str "give",.str s.x,.str y,.int m])) c (.dK [])) c (.dK [(.inr s.x,.ref ql),(.inr y,.ref qr)])) c=some (.dK [(.inr s.x,.ref ql),(.inr y,.ref qr)]):=aB;generalize upd (upd (upd H5 qd (.tup [.str "give",.str s.x,.str y,.int m])) c (.dK [])) c (.dK [(.inr s.x,.ref ql),(.inr y,.ref qr)])=H8 at s8 hqd8 hc8 ⊢;have s18:=s15.trans s8;have B8:=B.keep s18;refine ⟨p,dl,dt,db,bs,kvs,day,bf,qd,c,_,rfl,B8.bk,hc8,B.out (B.fresh (same_none s15 hc0)),⟨[s.x,y],rfl⟩,by show 2<=2;decide,by omega,by omega,by omega,B.ndk,jG B.th,.inr (.inr ⟨_,_,_,_,rfl,Au ne,by rw [e];rfl⟩),λbf' H9 fl' B9 k9=>?_⟩;have tk9:=B8.bk.tk k9;have kp9:=B8.kpl k9;have b1o:=B4.fresh nb1;have b2o:b2∉ad:=ob2.elim (λz=>z▸o2) B4.fresh;have tl9:=(tl.same s8).keep b1o b2o kp9 tk9 (Ak _);have tr9:=(tr.same s8).keep (B4.fresh nc1) (B4.fresh nc2) kp9 tk9 (Ak _);have nd':=(jL (k:="dose") B.g wy (.inr rfl)).2.1;have PN:=B8.noted (by rw [Az];rfl) fl'.len B9 k9 (Ths.pour (k:="dose") (B8.th.keep kp9 tk9 (CQ n)) B.g.nd hs ne ⟨ql,b1,b2,rfl,tl9,b1o,b2o⟩ (λg' hg' e'=>by
   have:g'=g:=kN nd' hg' hg (e'.trans og.symm);rw [this];exact ⟨qr,c1,c2,rfl,tr9,B4.fresh nc1,B4.fresh nc2⟩)) (rC B.g hs wy (.inr rfl) m1 mT mb n1)
  rw [bl'];exact k qd _ bf' H9 PN (fl'.from λb hb=>same_none s18 hb) (tk9 _ _ hqd8) ((Kp.of s18).trans k9)
end
def hkv (big:Bool)(F:Int)(hd kd ls:Addr)(today:Int)(dd:Addr):List (Key×V):=[(.inr "big",.bl big),(.inr "fine",.int F),(.inr "held",.ref hd),(.inr "kinds",.ref kd),(.inr "lasts",.ref ls),(.inr "today",.int today),(.inr "deeds",.ref dd)]
section
variable {big:Bool}{F F':Int}{hd kd ls dd:Addr}{today t':Int}
def aFk:valV (hkv big F hd kd ls today dd) (.inr "big")=some (.bl big):=by kernel_rfl
def pI:valV (hkv big F hd kd ls today dd) (.inr "fine")=some (.int F):=by kernel_rfl
def bQ:valV (hkv big F hd kd ls today dd) (.inr "held")=some (.ref hd):=by kernel_rfl
def cJ:valV (hkv big F hd kd ls today dd) (.inr "kinds")=some (.ref kd):=by kernel_rfl
def jC:valV (hkv big F hd kd ls today dd) (.inr "lasts")=some (.ref ls):=by kernel_rfl
def fG:valV (hkv big F hd kd ls today dd) (.inr "today")=some (.int today):=by kernel_rfl
def mK:valV (hkv big F hd kd ls today dd) (.inr "deeds")=some (.ref dd):=by kernel_rfl
theorem aCw:putK (hkv big F hd kd ls today dd) (.inr "fine") (.int F')=hkv big F' hd kd ls today dd:=by kernel_rfl
theorem aCv:putK (hkv big F hd kd ls today dd) (.inr "today") (.int t')=hkv big F hd kd ls t' dd:=by kernel_rfl
end
def keyX (e:Th×Addr):Key×V:=(.inr e.1.x,.ref e.2)
def keyK (e:Th×Addr):Key×V:=(.inr e.1.x,.str e.1.k)
def Inn (H:Hp)(e:Th×Addr):Prop:=∃ kvs ks,H e.2=some (.dK kvs)/\HI kvs ks e.1.f/\∀ y,y∈ks↔y∈e.1.ks
structure LsV (zs:List Th)(lk:List (Key×V))(lks:List Str):Prop where
 v:∀ y l,LstOf zs y l->valV lk (.inr y)=some (.int l)
 m:∀ y∈lks,∃ u∈zs,u.x=y/\u.k=("lot":Str)
structure LS (H:Hp)(a hd kd ls dd:Addr)(big:Bool)(F today:Int)(n:Nat)(ds:List V)(zi:List (Th×Addr)):Prop where
 ha:H a=some (.dK (hkv big F hd kd ls today dd))
 hh:H hd=some (.dK (zi.map keyX))
 inn:∀ e∈zi,Inn H e
 hk:H kd=some (.dK (zi.map keyK))
 hl:∃ lk lks,H ls=some (.dK lk)/\DK lk lks/\lks.length<=n/\LsV (zi.map (·.1)) lk lks
 hdd:H dd=some (.lst ds)
 dl:ds.length=n
 nda:([a,hd,kd,ls,dd]++zi.map (·.2)).Nodup
def La (a hd kd ls dd:Addr)(zi:List (Th×Addr)):List Addr:=[a,hd,kd,ls,dd]++zi.map (·.2)
section
variable {H H':Hp}{a hd kd ls dd:Addr}{big:Bool}{F today:Int}{n:Nat}{ds:List V}{zi:List (Th×Addr)}
def Inn.keep (h:Inn H e)(k:∀ o,H e.2=some o->H' e.2=some o):Inn H' e:=by
 obtain ⟨kvs,ks,h1,h2⟩:=h;exact ⟨kvs,ks,k _ h1,h2⟩
def LS.keep (h:LS H a hd kd ls dd big F today n ds zi)(k:∀ b∈La a hd kd ls dd zi,∀ o,H b=some o->H' b=some o):LS H' a hd kd ls dd big F today n ds zi:=by
 obtain ⟨h1,h2,h3,h4,⟨lk,lks,h5,h6⟩,h7,h8,h9⟩:=h;have m:∀ b,b∈[a,hd,kd,ls,dd]->b∈La a hd kd ls dd zi:=λb hb=>Af _ hb;exact ⟨k _ (m _ (by simp)) _ h1,k _ (m _ (by simp)) _ h2,λe he=>(h3 e he).keep (k _ (Ac _ (Ai he))),k _ (m _ (by simp)) _ h4,⟨lk,lks,k _ (m _ (by simp)) _ h5,h6⟩,k _ (m _ (by simp)) _ h7,h8,h9⟩
theorem LS.same (h:LS H a hd kd ls dd big F today n ds zi)(s:Same H H'):LS H' a hd kd ls dd big F today n ds zi:=h.keep λb _ o e=>s b o e
def vA (nd:((zi.map (·.1)).map Th.x).Nodup):DK (zi.map keyK) ((zi.map (·.1)).map Th.x):=⟨by simp only [Bh];rfl,nd⟩
theorem uZ {φ:Th×Addr->V}:∀ {zi:List (Th×Addr)},((zi.map (·.1)).map Th.x).Nodup->∀ e∈zi,valV (zi.map λe=>((As e.1.x:Key),φ e)) (.inr e.1.x)=some (φ e)
 |[],_,e,h=>nomatch h
 |u::zi,nd,e,h=>by
  rw [Ao,Ao,AU] at nd
  rcases Ae.mp h with rfl|h
  ·exact bJ rfl
  ·rw [Ao,bE]
   ·exact uZ nd.2 e h
   ·intro q
    exact nd.1 ((BG q:u.1.x=e.1.x)▸Ai (f:=Th.x) (Ai (f:=(·.1)) h))
theorem eN {φ:Th×Addr->V}:∀ {zi:List (Th×Addr)},x∉(zi.map (·.1)).map Th.x->valV (zi.map λe=>((As e.1.x:Key),φ e)) (.inr x)=none
 |[],_=>rfl
 |u::zi,h=>by
  rw [Ao,Ao,Ae,not_or] at h;rw [Ao,bE (λq=>h.1 (BG q).symm)];exact eN h.2
theorem LS.getX (nd:((zi.map (·.1)).map Th.x).Nodup)(he:e∈zi):valV (zi.map keyX) (.inr e.1.x)=some (.ref e.2):=uZ (φ:=λe=>.ref e.2) nd e he
theorem LS.getK (nd:((zi.map (·.1)).map Th.x).Nodup)(he:e∈zi):valV (zi.map keyK) (.inr e.1.x)=some (.str e.1.k):=uZ (φ:=λe=>.str e.1.k) nd e he
theorem dg {k:Str}(h:H d=some (.dK kvs))(e:valV kvs (.inr k)=some v):DGet H d (.str k) (some v):=by
 rw [<- e];exact DGet.k (k:=.inr k) h
end
structure LG (H:Hp)(a hd kd ls dd:Addr)(big:Bool)(F today:Int)(n:Nat)(ds:List V)(zi:List (Th×Addr)):Prop where
 s:LS H a hd kd ls dd big F today n ds zi
 g:ZOk F n (zi.map (·.1))
theorem LG.same {big:Bool}{F today:Int}{n:Nat}(h:LG H a hd kd ls dd big F today n ds zi)(s:Same H H'):LG H' a hd kd ls dd big F today n ds zi:=⟨h.s.same s,h.g⟩
def TOk.isum {M:Int}{n:Nat}(t:TOk M n z)(a:HI kvs ks z.f)(m:∀ y,y∈ks↔y∈z.ks):(ks.map z.f).sum=z.T*M:=by
 rw [<- t.sum];exact jA (((AR a.dk.nd t.nd).mpr m).map _)
def TOk.ilen {M:Int}{n:Nat}(t:TOk M n z)(a:HI kvs ks z.f)(m:∀ y,y∈ks↔y∈z.ks):ks.length=z.ks.length:=((AR a.dk.nd t.nd).mpr m).length_eq
def nI:Sp:=λvs H Q _=>∃ a hd kd ls dd big F today n ds zi,∃ e:Th×Addr,vs=[.ref a,.str e.1.x]/\LG H a hd kd ls dd big F today n ds zi/\e∈zi/\∀ H',Same H H'->Q (.int e.1.T) H'
def Frs (zs:List Th)(z:Th)(today:Int):Prop:=z.ks≠[]/\∀ y∈z.ks,∀ l,LstOf zs y l->today<=l
structure LR (H:Hp)(a hd kd ls dd:Addr)(big:Bool)(F today:Int)(n:Nat)(zi:List (Th×Addr)):Prop where
 ha:H a=some (.dK (hkv big F hd kd ls today dd))
 hh:Rd H hd (.dK (zi.map keyX))
 inn:∀ e∈zi,Inn H e
 hl:∃ lk lks,H ls=some (.dK lk)/\DK lk lks/\lks.length<=n/\LsV (zi.map (·.1)) lk lks
 nda:([a,hd,kd,ls,dd]++zi.map (·.2)).Nodup
 g:ZOk F n (zi.map (·.1))
theorem LG.lr {big:Bool}{F today:Int}{n:Nat}(h:LG H a hd kd ls dd big F today n ds zi):LR H a hd kd ls dd big F today n zi:=⟨h.s.ha,.inl h.s.hh,h.s.inn,h.s.hl,h.s.nda,h.g⟩
theorem LR.same {big:Bool}{F today:Int}{n:Nat}(h:LR H a hd kd ls dd big F today n zi)(s:Same H H'):LR H' a hd kd ls dd big F today n zi:=by
 obtain ⟨h1,h2,h3,⟨lk,lks,h4,h5⟩,h6,h7⟩:=h;exact ⟨s _ _ h1,h2.elim (λe=>.inl (s _ _ e)) (λ⟨o,e⟩=>.inr ⟨o,s _ _ e⟩),λe he=>(h3 e he).keep λo q=>s _ _ q,⟨lk,lks,s _ _ h4,h5⟩,h6,h7⟩
def LG.held {big:Bool}{F today:Int}{n:Nat}(h:LG H a hd kd ls dd big F today n ds zi)(ob:Obj):LR (upd H hd (.frz ob (.dK (zi.map keyX)))) a hd kd ls dd big F today n zi:=by
 have nda:=h.s.nda;have n5:=(AN.mp nda).1;simp only [AU,Ae,Ag,or_false,not_or] at n5;have nO:∀ e∈zi,e.2≠hd:=λe he z=>(AN.mp nda).2.2 hd (by simp) e.2 (Ai he) z.symm;obtain ⟨lk,lks,h4,h5⟩:=h.s.hl;exact ⟨by rw [aD n5.1.1];exact h.s.ha,.inr ⟨ob,aB⟩,λe he=>(h.s.inn e he).keep λo q=>by rw [aD (nO e he)];exact q,⟨lk,lks,by rw [aD (Au n5.2.1.2.1)];exact h4,h5⟩,nda,h.g⟩
def dgr {k:Str}(h:Rd H d (.dK kvs))(e:valV kvs (.inr k)=some v):DGet H d (.str k) (some v):=by
 rw [<- e];exact DGet.r (k:=As k) h
def lO:Sp:=λvs H Q _=>∃ a hd kd ls dd big F today n zi,∃ e:Th×Addr,vs=[.ref a,.str e.1.x]/\LR H a hd kd ls dd big F today n zi/\e∈zi/\∀ b H',Same H H'->(b=true->Frs (zi.map (·.1)) e.1 today)->Q (.bl b) H'
def aA3:Sp:=λvs H Q _=>∃ big:Bool,vs=[.bl big]/\∀ a hd kd ls dd H',Same H H'->(∀ b∈[a,hd,kd,ls,dd],H b=none)->LS H' a hd kd ls dd big 1 0 0 [] []->Q (.ref a) H'
section
variable {P:AE}{w:World}{K:Aa}{mg:Str->Option Value}{base:Heap}
def aDy:FnScope ["_law_here","_law_name"] ["_law_here","_law_name"] (aG sLtot):=fnScOk (by decide +kernel)
def aB9 (F:Fun K "_law_total" "_law_total" sLtot f fd)(T:Txt mg):FnOk P w K mg base CX0 1 f fd ["_law_here","_law_name"] nI:=by
 refine F.ok aDy (λvs H Q E h=>?_) (λcdv A outer s H vs Q E hr h=>?_)
 ·obtain ⟨_,_,_,_,_,_,_,_,_,_,_,_,rfl,_⟩:=h
  rfl
 ·obtain ⟨a,hd,kd,ls,dd,big,Fn,today,n,ds,zi,e,rfl,B,he,k⟩:=h
  refine ⟨_,(aF (aK (aM bB (aS (zH rfl) rfl T.sum' boot_sum (aA (nR rfl rfl T.list' (aI (aO hr) (aI (aO hr) (pv 0) aJ (λ_ _=>rfl)) (pv 1) (λ_ _=>rfl))) aE)) (aI (aO hr) (pv 0) aJ (λ_ _=>rfl))))),?_⟩;have nd:=B.g.nd;have mz:=Ai (f:=(·.1)) he;have to:=B.g.ok e.1 mz;obtain ⟨kvs,ks,e1,hi,mem⟩:=B.s.inn e he;refine ⟨_,rfl,a,_,rfl,dg B.s.ha bQ,_,rfl,hd,_,rfl,dg B.s.hh (LS.getX nd he),e.2,kvs,rfl,.inl e1,λp hp=>?_⟩;have t1:=Same.upd (o:=.lst (kvs.map (·.2))) hp;refine ⟨p,ks.map e.1.f,rfl,SqL.of (by rw [<- hi.vals];exact aB),_,rfl,a,_,rfl,dg (t1 _ _ B.s.ha) pI,_,_,rfl,rfl,⟨B.g.M0,B.g.bm.mono (by decide)⟩,?_⟩;have es:=to.isum hi mem;show Q (V.int ((ks.map e.1.f).sum/Fn)) _;have M0:=B.g.M0;rw [es,Int.mul_ediv_cancel _ (show Fn≠0 by omega)];exact k _ t1
def ndFr:(["_law_lot","_law_here"]:List Str).Nodup:=by decide +kernel
def aBj:FnScope ["_law_here","_law_name"] ["_law_here","_law_name"] (aG sFresh):=fnScOk (by decide +kernel)
def yJ (F:Fun K "_law_fresh" "_law_fresh" sFresh f fd)(T:Txt mg):FnOk P w K mg base CX0 1 f fd ["_law_here","_law_name"] lO:=by
 refine F.ok aBj (λvs H Q E h=>?_) (λcdv A outer s H vs Q E hr h=>?_)
 ·obtain ⟨_,_,_,_,_,_,_,_,_,_,_,rfl,_⟩:=h
  rfl
 ·obtain ⟨a,hd,kd,ls,dd,big,Fn,today,n,zi,e,rfl,B,he,k⟩:=h
  refine ⟨_,(aC (bC (aP (aBu hr.units) (aI (aO hr) (aI (aO hr) (pv 0) aJ (λ_ _=>rfl)) (pv 1) (λ_ _=>rfl)) bW (aU _)) (aF (aK gF)) aQ)
   (aF (aK (dM aEq (aS (wC rfl) rfl T.min' boot_min (aA (pA (eQ (N':=["_law_lot","_law_here"]) (λσ=>[none,some 0].map λt=>t.bind λj=>(σ[j]?).join) rfl rfl (by decide +kernel) (by decide +kernel)
     (iF (sc:=aG sFresh) rfl (by decide +kernel)) (λ_ _ _=>dR (sc:=aG sFresh) (N:=["_law_here","_law_name"]) [none,some 0] rfl rfl rfl rfl (by decide +kernel))
     (eI (aI (aO hr) (aI (aO hr) (pv 0) aJ (λ_ _=>rfl)) (pv 1) (λ_ _=>rfl))) (λ_ _ _ _ _ _=>aY (i:=0) ndFr rfl (Or.inl rfl)) (λ_ _ _ _ _ _=>dE)
     (λ_ _ _ _ _ _=>aI (aO hr) (aI (aO hr) (pv 1) aJ (λ_ _=>rfl)) (pv 0) (λ_ _=>rfl)))) aE)) (aI (aO hr) (pv 0) aJ (λ_ _=>rfl)) (aU _))))),?_⟩
  have nd:=B.g.nd;have mz:=Ai (f:=(·.1)) he;have to:=B.g.ok e.1 mz;obtain ⟨kvs,ks,e1,hi,mem⟩:=B.inn e he;have gx:=LS.getX nd he;refine ⟨_,rfl,a,_,rfl,dg B.ha bQ,_,rfl,hd,_,rfl,dgr B.hh gx,λde hde=>?_⟩;have t1:=Same.upd (o:=.dK []) hde;refine ⟨e.2,de,kvs,rfl,rfl,t1 _ _ e1,aB,_,rfl,ite2 (λhc=>k false _ t1 (λz=>by cases z)) (λhc=>?_)⟩;have B1:=B.same t1;have e1':=t1 _ _ e1;have kne:kvs≠[]:=λz=>hc (by rw [z];rfl);have kl:=to.ilen hi mem;have tl:=to.ln;have n60:=B.g.n60;generalize upd H de (.dK [])=H1 at t1 B1 e1';refine ⟨_,rfl,a,_,rfl,dg B1.ha bQ,_,rfl,hd,_,rfl,dgr B1.hh gx,e.2,kvs,rfl,e1',λob D hD=>?_⟩;obtain ⟨lk,lks,hls,ldk,ll,lv'⟩:=B1.hl;have nda:=B1.nda;have n2:∀ b∈[a,hd,kd,ls,dd],b≠e.2:=λb hb z=>(AN.mp nda).2.2 b hb e.2 (Ai he) z;refine dU (Ys.dict aB) (λj _ y _=>∃ s m,ks[j]?=some s/\y=.int m/\LstOf (zi.map λe:Th×Addr=>e.1) s m) (λ_ _ _ _ _ h _=>h) hD (by rw [Ab,hi.dk.len];omega) (λi y H' R hy sm hR=>?_) (λys H5 sm hD5 yl hy=>?_)
  ·rw [Ah] at hy
   obtain ⟨kv',hkv,rfl⟩:=AA.mp hy;obtain ⟨x,hx,ex⟩:=hi.dk.at hkv;rw [ex];obtain ⟨u,lu,hu,ux,uk,ul⟩:=B.g.lst mz ((mem x).mp (Ar hx));have lo:LstOf (zi.map (·.1)) x lu:=⟨u,hu,ux,uk,ul⟩;have ha':=sm a _ (by rw [aD (n2 a (by simp))];exact B1.ha);have hl':=sm ls _ (by rw [aD (n2 ls (by simp))];exact hls);exact ⟨(Keep.refl _).set rfl,_,rfl,a,_,rfl,dg ha' jC,_,rfl,ls,_,rfl,dg hl' (lv'.v x lu lo),hR _ _ (Same.refl _) ⟨x,lu,hx,rfl,lo⟩⟩
  ·rw [Ab,hi.dk.len] at yl
   have hy':∀ (j:Nat) y,ys[j]?=some y->∃ s m,ks[j]?=some s/\y=.int m/\LstOf (zi.map (·.1)) s m:=λj y hj=>by
    obtain ⟨x,hx⟩:∃ x,(kvs.map λe=>kV e.1)[j]?=some x:=⟨_,Al (by have:=(Ad.mp hj).1;rw [Ab,hi.dk.len];omega)⟩;exact hy j x y hx hj
   obtain ⟨ns,rfl⟩:=pG (ys:=ys) λy h=>by
    obtain ⟨j,hj⟩:=Bf.mp h;obtain ⟨_,m,_,e,_⟩:=hy' j y hj;exact ⟨m,e⟩
   have Dd:D≠e.2:=λz=>by rw [z,aB] at hD;cases hD
   have hd1:∀ o u,H e.2≠some (.frz o u):=jQ e1;have sF:=eU e1' sm;rw [Ab] at yl;have kp:0<kvs.length:=by cases kvs with|nil=>exact absurd rfl kne|cons _ _=>exact Nat.succ_pos _
   have kp':0<ks.length:=by rw [<- hi.dk.len];exact kp
   refine ⟨e.2,ob,_,sm _ _ aB,hd1,D,ns,rfl,SqL.of (by rw [aD Dd];exact hD5),by omega,λm hm le=>?_⟩;refine ⟨_,rfl,a,_,rfl,dg (sF _ _ B1.ha) fG,_,_,rfl,rfl,k _ _ (t1.trans sF) λhb=>⟨λz=>?_,λy hy2 l2 hl2=>?_⟩⟩
   ·rw [z] at kl
    simp at kl;rw [kl] at kp';simp at kp'
   ·have hb':m ≥ today:=of_decide_eq_true hb
    obtain ⟨j,hj⟩:=Bf.mp ((mem y).mpr hy2);have hlt:j<ns.length:=by have:=(Ad.mp hj).1;omega
    obtain ⟨x,m',g1,g2,g3⟩:=hy' j (.int ns[j]) (by rw [Ah,Al hlt];rfl);cases g2;rw [hj] at g1;cases g1;rw [<- g3.uniq B.g.nd hl2];have:=le _ (CN hlt);omega
def aGa:FnScope ["_law_big"] ["_law_big"] (aG sNew):=fnScOk (by decide +kernel)
def aEx (F:Fun K "_law_new" "_law_new" sNew f fd):FnOk P w K mg base CX0 1 f fd ["_law_big"] aA3:=by
 refine F.ok aGa (λvs H Q E h=>?_) (λcdv A outer s H vs Q E hr h=>?_)
 ·obtain ⟨_,rfl,_⟩:=h
  rfl
 ·obtain ⟨big,rfl,k⟩:=h
  refine ⟨_,(aF (aK (gL (bV aJ (pv 0) (bV aJ aH (bV aJ bW (bV aJ bW (bV aJ bW (bV aJ aH (bV aJ (dH aE) gI))))))) rfl rfl (by simp) (by decide)))),?_⟩;intro a ha;have t0:=Same.upd (o:=.dK []) ha;refine ⟨_,rfl,λhd h1=>?_⟩;have t1:=Same.upd (o:=.dK []) h1;intro kd h2;have t2:=Same.upd (o:=.dK []) h2;intro ls h3;have t3:=Same.upd (o:=.dK []) h3;refine ⟨zLn0,λdd h4=>?_⟩;have t4:=Same.upd (o:=.lst []) h4;have s4:=((t1.trans t2).trans t3).trans t4;refine ⟨s4 _ _ aB,hkv big 1 hd kd ls 0 dd,rfl,by show 7<=15;decide,?_⟩;rw [show dA [] (hkv big 1 hd kd ls 0 dd)=hkv big 1 hd kd ls 0 dd by kernel_rfl];have sF:Same H (upd (upd (upd (upd (upd (upd H a (.dK [])) hd (.dK [])) kd (.dK [])) ls (.dK [])) dd (.lst [])) a (.dK (hkv big 1 hd kd ls 0 dd))):=dD (t0.trans s4) ha;have n1:hd≠a:=λz=>by rw [z,aB] at h1;cases h1
  have n2:kd≠a/\kd≠hd:=⟨(λz=>by rw [z,t1 _ _ aB] at h2;cases h2),(λz=>by rw [z,aB] at h2;cases h2)⟩;have n3:ls≠a/\ls≠hd/\ls≠kd:=⟨(λz=>by rw [z,t2 _ _ (t1 _ _ aB)] at h3;cases h3),(λz=>by rw [z,t2 _ _ aB] at h3;cases h3),(λz=>by rw [z,aB] at h3;cases h3)⟩;have n4:dd≠a/\dd≠hd/\dd≠kd/\dd≠ls:=⟨(λz=>by rw [z,t3 _ _ (t2 _ _ (t1 _ _ aB))] at h4;cases h4),(λz=>by rw [z,t3 _ _ (t2 _ _ aB)] at h4;cases h4),(λz=>by rw [z,t3 _ _ aB] at h4;cases h4),(λz=>by rw [z,aB] at h4;cases h4)⟩;have e2:=same_none (t0.trans t1) h2;have e3:=same_none ((t0.trans t1).trans t2) h3;have e4:=same_none (((t0.trans t1).trans t2).trans t3) h4;refine k a hd kd ls dd _ sF (λb hb=>?_) ⟨aB,by rw [aD n1];exact (t2.trans t3).trans t4 _ _ aB,λe he=>(nomatch he),by rw [aD n2.1];exact t3.trans t4 _ _ aB,⟨[],[],by rw [aD n3.1];exact t4 _ _ aB,.nil,Bv _,⟨λy l ⟨u,hu,_⟩=>(nomatch hu),λy h=>(nomatch h)⟩⟩,by rw [aD n4.1];exact aB,rfl,?_⟩
  ·simp only [Ae,Ag,or_false] at hb
   rcases hb with rfl|rfl|rfl|rfl|rfl
   ·exact ha
   ·exact same_none t0 h1
   ·exact e2
   ·exact e3
   ·exact e4
  ·show [a,hd,kd,ls,dd].Nodup
   simp only [AU,Ae,Ag,or_false,not_or,not_false_eq_true,DF,and_true];exact ⟨⟨Au n1,Au n2.1,Au n3.1,Au n4.1⟩,⟨Au n2.2,Au n3.2.1,Au n4.2.1⟩,⟨Au n3.2.2,Au n4.2.2.1⟩,Au n4.2.2.2⟩
end
structure LpA (zi:List (Th×Addr))(es eg:Th×Addr)(y:Str)(m:Int):Prop where
 hs:es∈zi
 hg:eg∈zi
 ey:eg.1.x=y
 ne:y≠es.1.x
 m1:1<=m
 mT:m<=es.1.T
 mb:m<=1000000
def Adr (H:Hp)(zi zi':List (Th×Addr)):Prop:=∀ e∈zi',e.2∈zi.map (·.2)\/H e.2=none
def lN:Sp:=λvs H Q _=>∃ a hd kd ls dd big F today n ds zi es eg y m N,vs=[.ref a,.str es.1.x,.str y,.int m]/\LG H a hd kd ls dd big F today n ds zi/\LpA zi es eg y m /\
 ∀ zi' H',KpL (La a hd kd ls dd zi) H H'->Tk H H'->(zi'.map λe=>e.1)=(zi.map λe=>e.1).map (Th.poured es.1 y m N)->Adr H zi zi'->LS H' a hd kd ls dd big (F*es.1.T) today n ds zi'->Q .non H'
def uQ {zi:List (Th×Addr)}(nd:(zi.map (·.2)).Nodup):∀ {i j:Nat} {e e':Th×Addr},zi[i]?=some e->zi[j]?=some e'->i≠j->e.2≠e'.2:=by
 intro i j e e' hi hj ne q;have li:(zi.map (·.2))[i]?=some e.2:=by rw [Ah,hi];rfl
 have lj:(zi.map (·.2))[j]?=some e'.2:=by rw [Ah,hj];rfl
 rw [q] at li;have h1:=(Ad.mp li).1;have h2:=(Ad.mp lj).1;exact ne ((List.getElem?_inj h1 nd).mp (li.trans lj.symm))
def yO {zi:List (Th×Addr)}(nd:((zi.map (·.1)).map Th.x).Nodup):∀ {u v:Th×Addr},u∈zi->v∈zi->u.1.x=v.1.x->u=v:=by
 induction zi with
 |nil=>intro u v h;cases h
 |cons z zs ih=>
  intro u v hu hv e;rw [Ao,Ao,AU] at nd;have inx:∀ {t:Th×Addr},t∈zs->t.1.x∈(zs.map (·.1)).map Th.x:=λ{t} ht=>Ai (f:=Th.x) (Ai (f:=(·.1)) ht)
  rcases Ae.mp hu with e1|h1
  ·rcases Ae.mp hv with e2|h2
   ·rw [e1,e2]
   ·rw [e1] at e
    exact absurd (e▸inx h2) nd.1
  ·rcases Ae.mp hv with e2|h2
   ·rw [e2] at e
    exact absurd (e▸inx h1) nd.1
   ·exact ih nd.2 h1 h2 e
def aE6 {zi:List (Th×Addr)}(nd:(zi.map (·.2)).Nodup):∀ {u v:Th×Addr},u∈zi->v∈zi->u.2=v.2->u=v:=by
 induction zi with
 |nil=>intro u v h;cases h
 |cons z zs ih=>
  intro u v hu hv e;rw [Ao,AU] at nd
  rcases Ae.mp hu with e1|h1
  ·rcases Ae.mp hv with e2|h2
   ·rw [e1,e2]
   ·rw [e1] at e
    exact absurd (e▸Ai (f:=(·.2)) h2) nd.1
  ·rcases Ae.mp hv with e2|h2
   ·rw [e2] at e
    exact absurd (e▸Ai (f:=(·.2)) h1) nd.1
   ·exact ih nd.2 h1 h2 e
theorem uR :∀ {zi:List (Th×Addr)},(zi.map (·.2)).Nodup->((zi.map (·.1)).map Th.x).Nodup->dn∉zi.map (·.2)->(zi.map λe=>if e.1.x=x then dn else e.2).Nodup
 |[],_,_,_=>.nil
 |u::zi,n1,n2,hd=>by
  rw [Ao,AU] at n1;rw [Ao,Ao,AU] at n2;rw [Ao,Ae,not_or] at hd;rw [Ao,AU];refine ⟨λh=>?_,uR n1.2 n2.2 hd.2⟩;obtain ⟨e,he,q⟩:=An.mp h;have i1:e.2∈zi.map (·.2):=Ai (f:=(·.2)) he;have i2:e.1.x∈(zi.map (·.1)).map Th.x:=Ai (f:=Th.x) (Ai (f:=(·.1)) he)
  by_cases a:u.1.x=x<;>by_cases b:e.1.x=x
  ·exact n2.1 (a.trans b.symm▸i2)
  ·rw [if_pos a,if_neg b] at q
   exact hd.2 (q▸i1)
  ·rw [if_neg a,if_pos b] at q
   exact hd.1 q
  ·rw [if_neg a,if_neg b] at q
   exact n1.1 (q▸i1)
section
variable {P:AE}{w:World}{K:Aa}{mg:Str->Option Value}{base:Heap}
def hZ:FnScope ["_law_here","_law_source","_law_goal","_law_many","_law_total_here","_law_name","_law_lot","_law_gone"] ["_law_here","_law_source","_law_goal","_law_many"] (aG sLpour):=fnScOk (by decide +kernel)
def yI {f:Addr}{fd:Bj}(F:Fun K "_law_pour" "_law_pour" sLpour f fd)(T:Txt mg)(cT:Cal P w K mg base CX0 1 "_law_total" ["_law_here","_law_name"] nI):FnOk P w K mg base CX0 2 f fd ["_law_here","_law_source","_law_goal","_law_many"] lN:=by
 refine F.ok hZ (λvs H Q E h=>?_) (λcdv A outer s0 H vs Q E hr h=>?_)
 ·obtain ⟨_,_,_,_,_,_,_,_,_,_,_,_,_,_,_,_,rfl,_⟩:=h
  rfl
 ·obtain ⟨a,hd,kd,ls,dd,big,Fn,today,n,ds,zi,es,eg,y,m,N,rfl,B,A0,k⟩:=h
  refine ⟨_,(aC (aT (i:=4) hZ.nd rfl (Or.inl rfl) (aV cT hr rfl aR (aA (pv 0) (aA (pv 1) aE))))
   (aC (fQ (dW Bc rfl (eI (aI (aO hr) (pv 0) aJ (λ_ _=>rfl))) (aY (i:=5) hZ.nd rfl (Or.inl rfl))
    (aF (dW Bc rfl (cK (bP (lC rfl) rfl T.list' gO (aA (aI (aO hr) (aI (aO hr) (pv 0) aJ (λ_ _=>rfl)) (pv 5) (λ_ _=>rfl)) aE))) (aY (i:=6) hZ.nd rfl (Or.inl rfl))
     (aF (bR (aO hr) (aI (aO hr) (aI (aO hr) (pv 0) aJ (λ_ _=>rfl)) (pv 5) (λ_ _=>rfl)) (pv 6) (aM bL (aI (aO hr) (aI (aO hr) (aI (aO hr) (pv 0) aJ (λ_ _=>rfl)) (pv 5) (λ_ _=>rfl)) (pv 6) (λ_ _=>rfl)) (pv 4)) rfl))))))
   (aC (bR (aO hr) (pv 0) aJ (aM bL (aI (aO hr) (pv 0) aJ (λ_ _=>rfl)) (pv 4)) rfl)
   (aC (dW Bc rfl (cK (bP (lC rfl) rfl T.list' gO (aA (aI (aO hr) (aI (aO hr) (pv 0) aJ (λ_ _=>rfl)) (pv 1) (λ_ _=>rfl)) aE))) (aY (i:=6) hZ.nd rfl (Or.inl rfl))
    (aC (aT (i:=7) hZ.nd rfl (Or.inl rfl) (aM bB (aM bL (aI (aO hr) (aI (aO hr) (aI (aO hr) (pv 0) aJ (λ_ _=>rfl)) (pv 1) (λ_ _=>rfl)) (pv 6) (λ_ _=>rfl)) (pv 3)) (pv 4)))
    (aC (bR (aO hr) (aI (aO hr) (aI (aO hr) (pv 0) aJ (λ_ _=>rfl)) (pv 1) (λ_ _=>rfl)) (pv 6) (aM qR (aI (aO hr) (aI (aO hr) (aI (aO hr) (pv 0) aJ (λ_ _=>rfl)) (pv 1) (λ_ _=>rfl)) (pv 6) (λ_ _=>rfl)) (pv 7)) rfl)
    (aF (bR (aO hr) (aI (aO hr) (aI (aO hr) (pv 0) aJ (λ_ _=>rfl)) (pv 2) (λ_ _=>rfl)) (pv 6) (aM cZ (jB (aO hr) (aI (aO hr) (aI (aO hr) (pv 0) aJ (λ_ _=>rfl)) (pv 2) (λ_ _=>rfl)) (pv 6) aH ⟨rfl,rfl,rfl,rfl⟩) (pv 7)) rfl)))))
   (aF (bC (aP dN (pv 3) (pv 4) (aU _)) (aF (bR (aO hr) (aI (aO hr) (pv 0) aJ (λ_ _=>rfl)) (pv 1) bW rfl)) aQ)))))),?_⟩
  refine cut5 ?_
  intros
  obtain ⟨hs,hg,ey,ne,m1,mT,mb⟩:=A0;have nd:=B.g.nd;have T1:1<=es.1.T:=by omega
  have M0:=B.g.M0;have n60:=B.g.n60;have nds:(zi.map (·.2)).Nodup:=(AN.mp B.s.nda).2.1;have nO:∀ b∈[a,hd,kd,ls,dd],b∉zi.map (·.2):=λb hb hz=>(AN.mp B.s.nda).2.2 b hb b hz rfl;have n5:=(AN.mp B.s.nda).1;have okz:∀ e∈zi,TOk Fn n e.1:=λe he=>B.g.ok e.1 (Ai he);have os:=okz es hs;have bTs:Bt 26 es.1.T:=bT os.T0 os.Tb n60;have fnn:∀ e∈zi,∀ x,0<=e.1.f x/\Bt 1386 (e.1.f x):=λe he x=>by
   by_cases hx:x∈e.1.ks
   ·have p:=(okz e he).pos x hx
    have le:=gH (f:=e.1.f) (λz=>by
     by_cases hz:z∈e.1.ks
     ·have:=(okz e he).pos z hz;omega
     ·rw [(okz e he).out z hz];exact CM _) hx
    rw [(okz e he).sum] at le;exact ⟨by omega,(bTM B.g (okz e he)).le (by omega) le⟩
   ·rw [(okz e he).out x hx]
    exact ⟨CM _,(eE 2 (c:=2) (by decide) (by decide)).mono (by decide)⟩
  refine ⟨_,rfl,_,rfl,a,hd,kd,ls,dd,big,Fn,today,n,ds,zi,es,rfl,B,hs,λH1 s1=>?_⟩;have B1:=B.same s1;refine ⟨_,rfl,a,_,rfl,dg B1.s.ha bQ,hd,_,rfl,B1.s.hh,λob=>?_⟩;have hfz:(upd H1 hd (.frz ob (.dK (zi.map keyX)))) hd=some (.frz ob (.dK (zi.map keyX))):=aB;have old2:∀ b o,b≠hd->H1 b=some o->(upd H1 hd (.frz ob (.dK (zi.map keyX)))) b=some o:=λb o nb e=>by rw [aD nb];exact e
  have nha:a≠hd:=λz=>by rw [z] at n5;simp at n5
  have hio:∀ e∈zi,e.2≠hd:=λe he z=>nO hd (by simp) (z▸Ai he);have tk2:Tk H1 (upd H1 hd (.frz ob (.dK (zi.map keyX)))):=Tk.dk B1.s.hh;have bk2:∀ {H':Hp} (b:Addr) (o:HO),b∉zi.map (·.2)->(∀ b o,b∉zi.map (·.2)->(upd H1 hd (.frz ob (.dK (zi.map keyX)))) b=some o->H' b=some o)->H1 b=some o->(upd H' hd (.dK (zi.map keyX))) b=some o:=λ{H'} b o nb hh e=>by
   by_cases z:b=hd
   ·subst z
    rw [B1.s.hh] at e;cases e;exact aB
   ·rw [aD z]
    exact hh b o nb (old2 b o z e)
  generalize upd H1 hd (.frz ob (.dK (zi.map keyX)))=H2 at hfz old2 tk2 bk2 ⊢;refine vM (λi σ H'=>∃ v5 v6,σ=[some (.ref a),some (.str es.1.x),some (.str y),some (.int m),some (.int es.1.T),v5,v6,none]/\(∀ (j:Nat) e,zi[j]?=some e->Inn H' (if j<i then (e.1.scale es.1.T,e.2) else e))/\∀ b o,b∉zi.map (·.2)->H2 b=some o->H' b=some o) ?_ ?_ ?_ ?_
  ·refine ⟨none,none,rfl,λj e he=>?_,λ_ _ _ e=>e⟩
   rw [if_neg (Nat.not_lt_zero _)];exact (B1.s.inn e (Ar he)).keep λo q=>old2 _ _ (hio e (Ar he)) q
  ·rintro i σ H' _ ⟨_,_,rfl,_,s3⟩
   exact s3 _ _ (nO hd (by simp)) hfz
  ·intro i kv σ H' D8 hN8 hkv hh
   obtain ⟨v5,v6,rfl,inn,s3⟩:=hh;rw [Ah] at hkv;obtain ⟨e,he,rfl⟩:=AA.mp hkv;have hez:=Ar he;have ie:=inn i e he;rw [if_neg (BP _)] at ie;obtain ⟨kvs,ks,e1,hi,mem⟩:=ie;have ha':=s3 _ _ (nO a (by simp)) (old2 _ _ nha B1.s.ha);have hh':=s3 _ _ (nO hd (by simp)) hfz;have gx:∀ {X:Hp},X hd=some (.frz ob (.dK (zi.map keyX)))->DGet X hd (.str e.1.x) (some (.ref e.2)):=λ{X} q=>by
    have:=DGet.r (k:=As e.1.x) (.inr ⟨ob,q⟩:Rd X hd (.dK (zi.map keyX)));rw [LS.getX nd hez] at this;exact this
   have kl:=(okz e hez).ilen hi mem;have tl:=(okz e hez).ln;refine ⟨_,rfl,a,_,rfl,dg ha' bQ,_,rfl,hd,_,rfl,gx hh',e.2,kvs,ks,rfl,e1,hi.dk.keys,λdl hdl=>?_⟩;have t4:=Same.upd (o:=.lst (ks.map V.str)) hdl;have nle:dl≠e.2:=λz=>by rw [z,e1] at hdl;cases hdl
   refine ⟨dl,rfl,⟨_,SqL.of aB⟩,?_⟩;have hl4:(upd H' dl (.lst (ks.map V.str))) dl=some (.lst (ks.map V.str)):=aB;have ha4:=t4 _ _ ha';have hh4:=t4 _ _ hh';have e14:=t4 _ _ e1;generalize upd H' dl (.lst (ks.map V.str))=H4 at t4 hl4 ha4 hh4 e14 ⊢;refine nZ (xs:=ks.map V.str) (λj σ H5=>∃ v6 kvs' ks',σ=[some (.ref a),some (.str es.1.x),some (.str y),some (.int m),some (.int es.1.T),some (.str e.1.x),v6,none]/\H5 e.2=some (.dK kvs')/\HI kvs' ks' (λx=>if x∈ks.take j then e.1.f x*es.1.T else e.1.f x)/\(∀ x,x∈ks'↔x∈ks)/\∀ b o,b≠e.2->H4 b=some o->H5 b=some o) ?_ ?_ ?_ ?_
   ·exact ⟨_,kvs,ks,rfl,e14,hi.congr λx=>by simp,λx=>Iff.rfl,λ_ _ _ q=>q⟩
   ·rintro j σ H5 _ ⟨_,_,_,rfl,_,_,_,s5⟩
    exact SqL.of (s5 _ _ nle hl4)
   ·intro j v σ H5 D9 hN9 hv hh
    obtain ⟨v6',kvs',ks',rfl,h5,hi5,m5,s5⟩:=hh;rw [Ah] at hv;obtain ⟨x,hx,rfl⟩:=AA.mp hv;have xn:=gC hi.dk.nd hx;have xk:=Ar hx;have ev:=hi5.v x ((m5 x).mpr xk);rw [if_neg xn] at ev;have a5:=s5 a _ (λz:a=e.2=>nO a (by simp) (z▸Ai (f:=(·.2)) hez)) ha4;have h5':=s5 _ _ (Au (hio e hez)) hh4;have fb:=(fnn e hez x).2;obtain ⟨ks6,hi6,m6,_⟩:=hi5.put (g:=λx=>if x∈ks.take (j+1) then e.1.f x*es.1.T else e.1.f x) (y:=x) (λz hz=>by
     have:z∈ks.take (j+1)↔z∈ks.take j:=by rw [take_snoc hx];simp [hz]
     simp only [this])
    have ex:(if x∈ks.take (j+1) then e.1.f x*es.1.T else e.1.f x)=e.1.f x*es.1.T:=if_pos (by rw [take_snoc hx];simp);rw [ex] at hi6;have l5:ks'.length=ks.length:=((AR hi5.dk.nd hi.dk.nd).mpr m5).length_eq;refine ⟨_,rfl,a,_,rfl,dg a5 bQ,_,rfl,hd,_,rfl,gx h5',_,rfl,e.2,_,rfl,dg h5 ev,_,rfl,_,_,rfl,rfl,⟨b6 fb,b6 bTs⟩,_,rfl,a,_,rfl,dg a5 bQ,_,rfl,hd,_,rfl,gx h5',_,rfl,e.2,_,rfl,DPut.k (k:=As x) h5 (aW (by rw [hi5.dk.len];omega)),?_⟩;refine hN9 _ _ ⟨_,_,ks6,rfl,aB,hi6,λz=>?_,λb o nb q=>by rw [aD nb];exact s5 _ _ nb q⟩;rw [m6,m5];exact ⟨λq=>q.elim id (λq=>q▸xk),.inl⟩
   ·rintro σ H5 ⟨v6',kvs',ks',rfl,h5,hi5,m5,s5⟩
    rw [Ab,Bq] at hi5;refine hN8 _ _ ⟨_,_,rfl,λj e' he'=>?_,λb o nb q=>s5 _ _ (λz=>nb (z▸Ai hez)) (t4 _ _ (s3 _ _ nb q))⟩
    by_cases ji:j=i
    ·subst ji
     rw [he] at he';cases he';rw [if_pos (DS _)];refine ⟨kvs',ks',h5,hi5.congr λx=>?_,λx=>(m5 x).trans (mem x)⟩;show (if x∈ks then e.1.f x*es.1.T else e.1.f x)=e.1.f x*es.1.T
     by_cases q:x∈ks
     ·rw [if_pos q]
     ·rw [if_neg q,(okz e hez).out x (λz=>q ((mem x).mpr z)),Ca]
    ·have ne':=uQ nds he' he ji
     have key:Inn H' (if j<i then (e'.1.scale es.1.T,e'.2) else e'):=inn j e' he';have c:(j<i+1)↔(j<i):=by omega
     simp only [c];refine key.keep λo q=>?_;have e2:(if j<i then (e'.1.scale es.1.T,e'.2) else e').2=e'.2:=by split<;>rfl
     rw [e2] at q ⊢;exact s5 _ _ ne' (t4 _ _ q)
  ·rintro σ H' ⟨v5,v6,rfl,inn,s3⟩
   rw [Ab] at inn;have hh':=s3 _ _ (nO hd (by simp)) hfz;refine ⟨hd,ob,zi.map keyX,hh',jQ B.s.hh,?_⟩;have fr3:∀ b o,b∉zi.map (·.2)->H1 b=some o->(upd H' hd (.dK (zi.map keyX))) b=some o:=λb o nb q=>bk2 b o nb s3 q;have inn3:∀ e∈zi,Inn (upd H' hd (.dK (zi.map keyX))) (e.1.scale es.1.T,e.2):=λe he=>by
    obtain ⟨j,hj⟩:=Bf.mp he;have q:=inn j e hj;rw [if_pos (Ad.mp hj).1] at q;exact q.keep λo z=>by rw [aD (hio e he)];exact z
   have hh3:(upd H' hd (.dK (zi.map keyX))) hd=some (.dK (zi.map keyX)):=aB;generalize upd H' hd (.dK (zi.map keyX))=H3 at fr3 inn3 hh3 ⊢;clear inn s3 hh' hfz old2 bk2 tk2;have ha3:=fr3 _ _ (nO a (by simp)) B1.s.ha;have lt7:(hkv big Fn hd kd ls today dd).length<AB:=aW (by show 7<=1000;decide);refine ⟨_,rfl,a,_,rfl,dg ha3 pI,_,rfl,_,_,rfl,rfl,⟨b6 B.g.bm,b6 bTs⟩,_,rfl,a,_,rfl,DPut.k (k:=As "fine") ha3 lt7,?_⟩;rw [aCw];have ha4:(upd H3 a (.dK (hkv big (Fn*es.1.T) hd kd ls today dd))) a=some (.dK (hkv big (Fn*es.1.T) hd kd ls today dd)):=aB;have fr4:∀ b o,b≠a->H3 b=some o->(upd H3 a (.dK (hkv big (Fn*es.1.T) hd kd ls today dd))) b=some o:=λb o nb q=>by rw [aD nb];exact q
   have hia:∀ e∈zi,e.2≠a:=λe he z=>nO a (by simp) (z▸Ai (f:=(·.2)) he);have inn4:∀ e∈zi,Inn (upd H3 a (.dK (hkv big (Fn*es.1.T) hd kd ls today dd))) (e.1.scale es.1.T,e.2):=λe he=>(inn3 e he).keep λo z=>fr4 _ _ (hia e he) z;have hh4:=fr4 _ _ (Au nha) hh3;generalize upd H3 a (.dK (hkv big (Fn*es.1.T) hd kd ls today dd))=H4 at ha4 fr4 inn4 hh4 ⊢;obtain ⟨kA,lA,eA,hA,mA⟩:=inn4 es hs;obtain ⟨kB,lB,eB,hB,mB⟩:=inn4 eg hg;have nsg:es.2≠eg.2:=λz=>by
    obtain ⟨i,hi⟩:=Bf.mp hs;obtain ⟨j,hj⟩:=Bf.mp hg
    by_cases q:i=j
    ·subst q
     rw [hi] at hj;cases hj;exact ne ey.symm
    ·exact uQ nds hi hj q z
   have og:=okz eg hg;have lAl:lA.length=es.1.ks.length:=((AR hA.dk.nd os.nd).mpr mA).length_eq;have lBl:lB.length=eg.1.ks.length:=((AR hB.dk.nd og.nd).mpr mB).length_eq;have tlA:=os.ln;have tlB:=og.ln;have gs:∀ {X:Hp},X hd=some (.dK (zi.map keyX))->DGet X hd (.str es.1.x) (some (.ref es.2)):=λ{X} q=>dg q (LS.getX nd hs);have gg:∀ {X:Hp},X hd=some (.dK (zi.map keyX))->DGet X hd (.str y) (some (.ref eg.2)):=λ{X} q=>by rw [<- ey];exact dg q (LS.getX nd hg)
   refine ⟨_,rfl,a,_,rfl,dg ha4 bQ,_,rfl,hd,_,rfl,gs hh4,es.2,kA,lA,rfl,eA,hA.dk.keys,λdl hdl=>?_⟩;have t5:=Same.upd (o:=.lst (lA.map V.str)) hdl;have nl1:dl≠es.2:=λz=>by rw [z,eA] at hdl;cases hdl
   have nl2:dl≠eg.2:=λz=>by rw [z,eB] at hdl;cases hdl
   refine ⟨dl,rfl,⟨_,SqL.of aB⟩,?_⟩;have hl5:(upd H4 dl (.lst (lA.map V.str))) dl=some (.lst (lA.map V.str)):=aB;generalize upd H4 dl (.lst (lA.map V.str))=H5 at t5 hl5 ⊢;refine nZ (xs:=lA.map V.str) (λj σ H6=>∃ v5 v6 v7 kA' lA' kB' lB',σ=[some (.ref a),some (.str es.1.x),some (.str y),some (.int m),some (.int es.1.T),v5,v6,v7]/\H6 es.2=some (.dK kA')/\HI kA' lA' (λx=>if x∈lA.take j then es.1.f x*(es.1.T-m) else es.1.f x*es.1.T)/\(∀ x,x∈lA'↔x∈lA)/\H6 eg.2=some (.dK kB')/\HI kB' lB' (λx=>eg.1.f x*es.1.T+if x∈lA.take j then es.1.f x*m else 0)/\(∀ x,x∈lB'↔x∈lB\/x∈lA.take j)/\lB'.length<=lB.length+j/\∀ b o,b≠es.2->b≠eg.2->H5 b=some o->H6 b=some o) ?_ ?_ ?_ ?_
   ·exact ⟨_,_,none,kA,lA,kB,lB,rfl,t5 _ _ eA,hA.congr λx=>(by show es.1.f x*es.1.T=_;simp),λx=>Iff.rfl,t5 _ _ eB,hB.congr λx=>(by show eg.1.f x*es.1.T=_;simp),λx=>by simp,Ak _,λ_ _ _ _ q=>q⟩
   ·rintro j σ H6 _ ⟨_,_,_,_,_,_,_,rfl,_,_,_,_,_,_,_,s6⟩
    exact SqL.of (s6 _ _ nl1 nl2 hl5)
   ·intro j v σ H6 D9 hN9 hv hh
    obtain ⟨v5,v6,v7,kA',lA',kB',lB',rfl,h6,hi6,m6,g6,gi6,gm6,gl6,s6⟩:=hh;rw [Ah] at hv;obtain ⟨x,hx,rfl⟩:=AA.mp hv;have hj:=(Ad.mp hx).1;have xn:=gC hA.dk.nd hx;have xk:=Ar hx;have xi:x∈lA.take (j+1):=by rw [take_snoc hx];simp
    have xo:∀ z,z≠x->(z∈lA.take (j+1)↔z∈lA.take j):=λz hz=>by rw [take_snoc hx];simp [hz]
    have ev:=hi6.v x ((m6 x).mpr xk);rw [if_neg xn] at ev;have a6:=s6 a _ (Au (hia es hs)) (Au (hia eg hg)) (t5 _ _ ha4);have h6':=s6 hd _ (Au (hio es hs)) (Au (hio eg hg)) (t5 _ _ hh4);have fb:=(fnn es hs x).2;have bm':Bt 26 m:=eE 26 (c:=67108864) (by omega) (by omega);have l6:lA'.length=lA.length:=((AR hi6.dk.nd hA.dk.nd).mpr m6).length_eq;refine ⟨_,rfl,a,_,rfl,dg a6 bQ,_,rfl,hd,_,rfl,gs h6',_,rfl,es.2,_,rfl,dg h6 ev,_,rfl,_,_,rfl,rfl,⟨b6 (fb.mul bTs),b6 bm'⟩,_,rfl,_,_,rfl,rfl,⟨by omega,bTs.mono (by decide)⟩,?_⟩;have eg':es.1.f x*es.1.T*m/es.1.T=es.1.f x*m:=by
     rw [show es.1.f x*es.1.T*m=es.1.f x*m*es.1.T by grind,Int.mul_ediv_cancel _ (by omega)]
    dsimp only;rw [eg'];obtain ⟨l7,hi7,m7,_⟩:=hi6.put (g:=λx=>if x∈lA.take (j+1) then es.1.f x*(es.1.T-m) else es.1.f x*es.1.T) (y:=x) (λz hz=>by simp only [xo z hz]);have e7:(if x∈lA.take (j+1) then es.1.f x*(es.1.T-m) else es.1.f x*es.1.T)=es.1.f x*es.1.T-es.1.f x*m:=by rw [if_pos xi];grind
    rw [e7] at hi7;refine ⟨_,rfl,a,_,rfl,dg a6 bQ,_,rfl,hd,_,rfl,gs h6',_,rfl,es.2,_,rfl,dg h6 ev,_,rfl,_,_,rfl,rfl,_,rfl,a,_,rfl,dg a6 bQ,_,rfl,hd,_,rfl,gs h6',_,rfl,es.2,_,rfl,DPut.k (k:=As x) h6 (aW (by rw [hi6.dk.len];omega)),?_⟩;have a7:(upd H6 es.2 (.dK (putK kA' (As x) (.int (es.1.f x*es.1.T-es.1.f x*m))))) a=_:=(aD (Au (hia es hs))).trans a6;have h7':(upd H6 es.2 (.dK (putK kA' (As x) (.int (es.1.f x*es.1.T-es.1.f x*m))))) hd=_:=(aD (Au (hio es hs))).trans h6';have h7:(upd H6 es.2 (.dK (putK kA' (As x) (.int (es.1.f x*es.1.T-es.1.f x*m))))) es.2=some (.dK (putK kA' (As x) (.int (es.1.f x*es.1.T-es.1.f x*m)))):=aB;have g7:(upd H6 es.2 (.dK (putK kA' (As x) (.int (es.1.f x*es.1.T-es.1.f x*m))))) eg.2=_:=(aD (Au nsg)).trans g6;have s7:∀ b o,b≠es.2->b≠eg.2->H5 b=some o->(upd H6 es.2 (.dK (putK kA' (As x) (.int (es.1.f x*es.1.T-es.1.f x*m))))) b=some o:=λb o n1 n2 q=>by rw [aD n1];exact s6 _ _ n1 n2 q
    generalize upd H6 es.2 (.dK (putK kA' (As x) (.int (es.1.f x*es.1.T-es.1.f x*m))))=H7 at a7 h7' h7 g7 s7 ⊢;have gd:=gi6.getD x;rw [if_neg xn,Int.add_zero] at gd;obtain ⟨l8,hi8,m8,ln8⟩:=gi6.put (g:=λx=>eg.1.f x*es.1.T+if x∈lA.take (j+1) then es.1.f x*m else 0) (y:=x) (λz hz=>by simp only [xo z hz]);have e8:(eg.1.f x*es.1.T+if x∈lA.take (j+1) then es.1.f x*m else 0)=eg.1.f x*es.1.T+es.1.f x*m:=by rw [if_pos xi]
    rw [e8] at hi8;refine ⟨_,rfl,a,_,rfl,dg a7 bQ,_,rfl,hd,_,rfl,gg h7',eg.2,rfl,.inl ⟨kB',.inl g7⟩,_,rfl,_,DGet.k (k:=As x) g7,?_⟩;rw [gd];refine ⟨_,rfl,_,_,rfl,rfl,_,rfl,a,_,rfl,dg a7 bQ,_,rfl,hd,_,rfl,gg h7',_,rfl,eg.2,_,rfl,DPut.k (k:=As x) g7 (aW (by rw [gi6.dk.len];omega)),?_⟩;refine hN9 _ _ ⟨_,_,_,_,l7,_,l8,rfl,(aD nsg).trans h7,hi7,λz=>?_,aB,hi8,λz=>?_,by omega,λb o n1 n2 q=>by rw [aD n2];exact s7 _ _ n1 n2 q⟩
    ·rw [m7,m6]
     exact ⟨λq=>q.elim id (λq=>q▸xk),.inl⟩
    ·rw [m8,gm6,take_snoc hx,Aj,Am]
     exact or_assoc
   ·rintro σ H6 ⟨v5,v6,v7,kA',lA',kB',lB',rfl,h6,hi6,m6,g6,gi6,gm6,gl6,s6⟩
    rw [Ab,Bq] at hi6 gi6 gm6;have a6:=s6 a _ (Au (hia es hs)) (Au (hia eg hg)) (t5 _ _ ha4);have h6':=s6 hd _ (Au (hio es hs)) (Au (hio eg hg)) (t5 _ _ hh4);have nkd:∀ b∈[kd,ls,dd],b∉zi.map (·.2)/\b≠hd/\b≠a:=λb hb=>by
     refine ⟨nO b (by simp at hb ⊢;rcases hb with h|h|h<;>simp [h]),λz=>?_,λz=>?_⟩
     ·rw [z] at hb
      simp only [AU,Ae,Ag,or_false,not_or] at n5 hb
      rcases hb with h|h|h
      ·exact n5.2.1.1 h
      ·exact n5.2.1.2.1 h
      ·exact n5.2.1.2.2 h
     ·rw [z] at hb
      simp only [AU,Ae,Ag,or_false,not_or] at n5 hb
      rcases hb with h|h|h
      ·exact n5.1.2.1 h
      ·exact n5.1.2.2.1 h
      ·exact n5.1.2.2.2 h
    have to6:∀ b o,b∉zi.map (·.2)->b≠hd->b≠a->H1 b=some o->H6 b=some o:=λb o nb nh na q=>s6 b o (λz=>nb (z▸Ai (f:=(·.2)) hs)) (λz=>nb (z▸Ai (f:=(·.2)) hg)) (t5 _ _ (fr4 _ _ na (fr3 _ _ nb q)));obtain ⟨lk,lks,hls,ldk,lll,lval⟩:=B1.s.hl;have ih:∀ e∈zi,e.1.x≠es.1.x->Inn H6 (Th.poured es.1 y m N e.1,e.2):=λe he nx=>by
     unfold Th.poured;rw [if_neg nx]
     by_cases q:e.1.x=y
     ·rw [if_pos q]
      have:e=eg:=yO nd he hg (q.trans ey.symm);subst this;refine ⟨kB',lB',g6,gi6.congr λx=>?_,λx=>?_⟩
      ·show (e.1.f x*es.1.T+if x∈lA then es.1.f x*m else 0)=e.1.f x*es.1.T+es.1.f x*m
       by_cases z:x∈lA
       ·rw [if_pos z]
       ·rw [if_neg z,os.out x (λw=>z ((mA x).mpr w)),Ca]
      ·show _↔x∈(e.1.got es.1 m N).ks
       rw [gm6,eR];exact or_congr (mB x) (mA x)
     ·rw [if_neg q]
      refine (inn4 e he).keep λo z=>s6 _ _ (λw=>?_) (λw=>?_) (t5 _ _ z)
      ·exact nx (congrArg (λu:Th×Addr=>u.1.x) (aE6 nds he hs w))
      ·exact q ((congrArg (λu:Th×Addr=>u.1.x) (aE6 nds he hg w)).trans ey)
    have eK:∀ adr:Th×Addr->Addr,(zi.map λe=>(Th.poured es.1 y m N e.1,adr e)).map keyK=zi.map keyK:=λadr=>by
     rw [Bh];refine BV λe _=>?_;show ((As (Th.poured es.1 y m N e.1).x:Key),V.str (Th.poured es.1 y m N e.1).k)=(As e.1.x,V.str e.1.k);rw [dS,eG.1]
    have eM:∀ adr:Th×Addr->Addr,∀ x,(∃ u∈zi.map (·.1),u.x=x/\u.k=("lot":Str))->∃ u∈(zi.map λe=>(Th.poured es.1 y m N e.1,adr e)).map (·.1),u.x=x/\u.k=("lot":Str):=λadr x ⟨u,hu,e1,e2⟩=>by
     obtain ⟨e,he,rfl⟩:=An.mp hu;refine ⟨Th.poured es.1 y m N e.1,?_,?_,?_⟩
     ·rw [Bh];exact An.mpr ⟨e,he,rfl⟩
     ·rw [dS];exact e1
     ·rw [eG.1];exact e2
    have eL:∀ adr:Th×Addr->Addr,∀ x l,LstOf ((zi.map λe=>(Th.poured es.1 y m N e.1,adr e)).map (·.1)) x l->LstOf (zi.map (·.1)) x l:=λadr x l ⟨u,hu,e1,e2,e3⟩=>by
     rw [Bh] at hu;obtain ⟨e,he,rfl⟩:=An.mp hu;refine ⟨e.1,Ai he,?_,?_,?_⟩
     ·rw [<- e1];exact dS.symm
     ·rw [<- e2];exact eG.1.symm
     ·rw [<- e3];exact eG.2.symm
    have e1:∀ adr:Th×Addr->Addr,((zi.map λe=>(Th.poured es.1 y m N e.1,adr e)).map λe=>e.1)=(zi.map λe=>e.1).map (Th.poured es.1 y m N):=λadr=>by
     rw [Bh,Bh];rfl
    have e2:∀ adr:Th×Addr->Addr,((zi.map λe=>(Th.poured es.1 y m N e.1,adr e)).map (·.2))=zi.map adr:=λadr=>by
     rw [Bh];rfl
    have frT:∀ {HF:Hp},(∀ b o,b∉zi.map (·.2)->b≠hd->b≠a->H1 b=some o->HF b=some o)->KpL (La a hd kd ls dd zi) H HF/\Tk H HF:=λ{HF} hh=>by
     refine ⟨λb o nb q=>hh b o (λz=>nb (Ac _ z)) (λz=>nb (Af _ (by rw [z];simp))) (λz=>nb (Af _ (by rw [z];simp))) (s1 _ _ q),λb xs q=>?_⟩;refine hh b _ (λz=>?_) (λz=>?_) (λz=>?_) (s1 _ _ q)
     ·obtain ⟨e,he,rfl⟩:=An.mp z
      obtain ⟨_,_,w,_⟩:=B.s.inn e he;rw [w] at q;cases q
     ·rw [z,B.s.hh] at q;cases q
     ·rw [z,B.s.ha] at q;cases q
    have lX:(zi.map keyX).length<AB:=aW (by rw [Ab];have:=B.g.ln;rw [Ab] at this;omega);refine ⟨_,rfl,_,rfl,rfl,_,rfl,ite2 (λhc=>?_) (λhc=>?_)⟩
    ·have mTe:m=es.1.T:=V.int.inj (of_decide_eq_true hc)
     intro dn hdn;have t8:=Same.upd (o:=.dK []) hdn;refine ⟨_,rfl,a,_,rfl,dg (t8 _ _ a6) bQ,_,rfl,hd,_,rfl,DPut.k (k:=As es.1.x) (t8 _ _ h6') lX,?_⟩;have dnN:∀ {b:Addr} {o:HO},H6 b=some o->b≠dn:=λ{b o} q z=>by rw [z,hdn] at q;cases q
     have dni:dn∉zi.map (·.2):=λz=>by
      obtain ⟨e,he,q⟩:=An.mp z
      by_cases w:e.2=es.2
      ·exact dnN h6 (w.symm.trans q)
      ·by_cases w2:e.2=eg.2
       ·exact dnN g6 (w2.symm.trans q)
       ·obtain ⟨_,_,w3,_⟩:=inn4 e he
        exact dnN (s6 _ _ w w2 (t5 _ _ w3)) q
     have keyE:putK (zi.map keyX) (As es.1.x) (.ref dn)=(zi.map λe=>(Th.poured es.1 y m N e.1,if e.1.x=es.1.x then dn else e.2)).map keyX:=by
      rw [tS (LS.getX nd hs),Bh,Bh];refine BV λe _=>?_;show (if (As e.1.x:Key)=As es.1.x then ((As e.1.x:Key),V.ref dn) else (As e.1.x,V.ref e.2))=(As (Th.poured es.1 y m N e.1).x,V.ref (if e.1.x=es.1.x then dn else e.2));rw [dS]
      by_cases q:e.1.x=es.1.x
      ·rw [if_pos (by rw [q]),if_pos q]
      ·rw [if_neg (λz=>q (BG z)),if_neg q]
     rw [keyE];have dnh:dn≠hd:=λz=>dnN h6' z.symm;have up:∀ b o,b≠hd->H6 b=some o->(upd (upd H6 dn (.dK [])) hd (.dK ((zi.map λe=>(Th.poured es.1 y m N e.1,if e.1.x=es.1.x then dn else e.2)).map keyX))) b=some o:=λb o nb q=>by rw [aD nb];exact t8 _ _ q
     have hdn':(upd (upd H6 dn (.dK [])) hd (.dK ((zi.map λe=>(Th.poured es.1 y m N e.1,if e.1.x=es.1.x then dn else e.2)).map keyX))) dn=some (.dK []):=by rw [aD dnh];exact aB
     have hhF:(upd (upd H6 dn (.dK [])) hd (.dK ((zi.map λe=>(Th.poured es.1 y m N e.1,if e.1.x=es.1.x then dn else e.2)).map keyX))) hd=some (.dK ((zi.map λe=>(Th.poured es.1 y m N e.1,if e.1.x=es.1.x then dn else e.2)).map keyX)):=aB;generalize upd (upd H6 dn (.dK [])) hd (.dK ((zi.map λe=>(Th.poured es.1 y m N e.1,if e.1.x=es.1.x then dn else e.2)).map keyX))=HF at up hdn' hhF ⊢;obtain ⟨kp,tkF⟩:=frT (HF:=HF) λb o nb nh na q=>up b o nh (to6 b o nb nh na q);have dn0:H dn=none:=by
      cases q:H dn with
      |none=>rfl
      |some o=>
       exfalso;have nz:dn≠a:=λz=>dnN a6 z.symm;exact dnN (to6 dn o dni dnh nz (s1 _ _ q)) rfl
     refine k _ HF kp tkF (e1 _) (λe he=>?_) ⟨up _ _ nha a6,hhF,λe he=>?_,?_,⟨lk,lks,?_,ldk,lll,⟨λx l q=>lval.v x l (eL _ x l q),λx hx=>eM _ x (lval.m x hx)⟩⟩,?_,B.s.dl,?_⟩
     ·obtain ⟨u,hu,rfl⟩:=An.mp he
      show (if u.1.x=es.1.x then dn else u.2)∈_\/H (if u.1.x=es.1.x then dn else u.2)=none;split
      ·exact .inr dn0
      ·exact .inl (Ai hu)
     ·obtain ⟨u,hu,rfl⟩:=An.mp he
      by_cases q:u.1.x=es.1.x
      ·have:u=es:=yO nd hu hs q
       subst this;show Inn HF (Th.poured u.1 y m N u.1,if u.1.x=u.1.x then dn else u.2);rw [if_pos rfl];unfold Th.poured;rw [if_pos rfl];refine ⟨[],[],hdn',⟨.nil,(λ_ h=>absurd h Ag),λx _=>?_⟩,λx=>?_⟩
       ·show u.1.f x*(u.1.T-m)=0
        rw [mTe,Int.sub_self,Int.mul_zero]
       ·show x∈[]↔x∈(if m<u.1.T then u.1.ks else [])
        rw [if_neg (by omega)]
      ·show Inn HF (Th.poured es.1 y m N u.1,if u.1.x=es.1.x then dn else u.2)
       rw [if_neg q];exact (ih u hu q).keep λo z=>up _ _ (hio u hu) z
     ·rw [eK]
      obtain ⟨w1,w2,w3⟩:=nkd kd (by simp);exact up _ _ w2 (to6 _ _ w1 w2 w3 B1.s.hk)
     ·obtain ⟨w1,w2,w3⟩:=nkd ls (by simp)
      exact up _ _ w2 (to6 _ _ w1 w2 w3 hls)
     ·obtain ⟨w1,w2,w3⟩:=nkd dd (by simp)
      exact up _ _ w2 (to6 _ _ w1 w2 w3 B1.s.hdd)
     ·rw [e2]
      refine AN.mpr ⟨n5,uR nds nd dni,λb hb c hc q=>?_⟩;subst q;obtain ⟨u,hu,q⟩:=An.mp hc
      by_cases w:u.1.x=es.1.x
      ·rw [if_pos w] at q
       subst q;simp only [Ae,Ag,or_false] at hb
       rcases hb with z|z|z|z|z
       ·exact dnN a6 z.symm
       ·exact dnh z
       ·obtain ⟨w1,w2,w3⟩:=nkd kd (by simp)
        exact dnN (to6 _ _ w1 w2 w3 B1.s.hk) z.symm
       ·obtain ⟨w1,w2,w3⟩:=nkd ls (by simp)
        exact dnN (to6 _ _ w1 w2 w3 hls) z.symm
       ·obtain ⟨w1,w2,w3⟩:=nkd dd (by simp)
        exact dnN (to6 _ _ w1 w2 w3 B1.s.hdd) z.symm
      ·rw [if_neg w] at q
       exact nO b hb (q▸Ai (f:=(·.2)) hu)
    ·have mTn:m<es.1.T:=by
      have:¬ m=es.1.T:=λz=>hc (decide_eq_true (congrArg V.int z));omega
     obtain ⟨kp,tkF⟩:=frT (HF:=H6) to6;refine k (zi.map λe=>(Th.poured es.1 y m N e.1,e.2)) H6 kp tkF (e1 _) (λe he=>?_) ⟨a6,?_,λe he=>?_,?_,⟨lk,lks,?_,ldk,lll,⟨λx l q=>lval.v x l (eL _ x l q),λx hx=>eM _ x (lval.m x hx)⟩⟩,?_,B.s.dl,?_⟩
     ·obtain ⟨u,hu,rfl⟩:=An.mp he
      exact .inl (Ai (f:=(·.2)) hu)
     ·rw [h6',Bh]
      refine congrArg (λl=>some (HO.dK l)) (BV λe _=>?_);show ((As e.1.x:Key),V.ref e.2)=(As (Th.poured es.1 y m N e.1).x,V.ref e.2);rw [dS]
     ·obtain ⟨u,hu,rfl⟩:=An.mp he
      by_cases q:u.1.x=es.1.x
      ·have:u=es:=yO nd hu hs q
       subst this;show Inn H6 (Th.poured u.1 y m N u.1,u.2);unfold Th.poured;rw [if_pos rfl];refine ⟨kA',lA',h6,hi6.congr λx=>?_,λx=>?_⟩
       ·show (if x∈lA then u.1.f x*(u.1.T-m) else u.1.f x*u.1.T)=u.1.f x*(u.1.T-m)
        by_cases z:x∈lA
        ·rw [if_pos z]
        ·rw [if_neg z,os.out x (λw=>z ((mA x).mpr w)),Ca,Ca]
       ·show _↔x∈(if m<u.1.T then u.1.ks else [])
        rw [if_pos mTn,m6];exact mA x
      ·exact ih u hu q
     ·rw [eK (λe=>e.2)]
      obtain ⟨w1,w2,w3⟩:=nkd kd (by simp);exact to6 _ _ w1 w2 w3 B1.s.hk
     ·obtain ⟨w1,w2,w3⟩:=nkd ls (by simp)
      exact to6 _ _ w1 w2 w3 hls
     ·obtain ⟨w1,w2,w3⟩:=nkd dd (by simp)
      exact to6 _ _ w1 w2 w3 B1.s.hdd
     ·rw [e2 (λe=>e.2)]
      exact B.s.nda
end
inductive Dd where
 |take (x w:Str) (m l:Int)
 |go (d:Int)
 |pour (x y:Str) (m:Int)
 |give (x y:Str) (m:Int)
def Dd.row:Dd->List V
 |.take x w m l=>[.str "take",.str x,.str w,.int m,.int l]
 |.go d=>[.str "go",.int d]
 |.pour x y m=>[.str "pour",.str x,.str y,.int m]
 |.give x y m=>[.str "give",.str x,.str y,.int m]
inductive Stp (n:Nat)(M:Int)(zs:List Th)(today:Int):Dd->Int->List Th->Int->Prop where
 |take {x w:Str} {m l:Int}:Wr x->Wr w->x∉zs.map Th.x->1<=m->m<=1000000->0<=l->l<=1000000->Stp n M zs today (.take x w m l) M (zs++[Th.lot M x m l]) today
 |go {d:Int}:today<=d->0<=d->d<=1000000->Stp n M zs today (.go d) M zs d
 |pour {s:Th} {y:Str} {m:Int}:PoA zs s y m today n->(∀ z∈zs,z.x=y->z.k = "store")->Stp n M zs today (.pour s.x y m) (M*s.T) (after zs s y "store" m n) today
 |give {s:Th} {y:Str} {m:Int}:PoA zs s y m today n->y∉zs.map Th.x->Stp n M zs today (.give s.x y m) (M*s.T) (after zs s y "dose" m n) today
def aAs {M:Int}{n:Nat}{y k:Str}(g:ZOk M n zs)(wy:Wr y)(hk:k = "store" \/ k = "dose")(n1:n+1<=52):ZOk M (n+1) (if y∈zs.map Th.x then zs else zs++[Th.ves y k]):=by
 obtain ⟨all,nd,len,inc⟩:=jL g wy hk;refine ⟨nd,λz hz=>?_,λz hz=>(all z hz).2.1,λz hz x hx=>?_,g.M0,g.bM.mono (by omega),len,n1⟩
 ·obtain ⟨a,b,c,d,e,f,t,k⟩:=(all z hz).1
  exact ⟨a,b,c,d,e,f,by omega,by omega⟩
 ·obtain ⟨u,hu,q⟩:=(all z hz).2.2 x hx
  exact ⟨u,inc u hu,q⟩
def spDo (C:Addr)(K:Aa):Sp:=λvs H Q _=>∃ L p dl dt db bs kvs day bf M n zs,∃ (d:Dd) (M':Int) (zs':List Th) (day':Int) (q:Addr),vs=[.ref p,.ref q]/\PS C H L p dl dt db bs kvs day bf M n zs/\SqT K H q d.row/\Stp n M zs day d M' zs' day'/\n+1<=52/\Nxt C H L p dl dt db bs kvs day bf day' M' n zs' d.row Q
def oX:Sp:=λvs H Q _=>∃ a hd kd ls dd big F today n ds zi,∃ (d:Dd) (F':Int) (zs':List Th) (today':Int) (q:Addr),vs=[.ref a,.ref q]/\LG H a hd kd ls dd big F today n ds zi/\H q=some (.tup d.row)/\Stp n F (zi.map (·.1)) today d F' zs' today'/\n+1<=52 /\
 ∀ zi' H',KpL (La a hd kd ls dd zi) H H'->Tk H H'->(zi'.map λe=>e.1)=zs'->Adr H zi zi'->LS H' a hd kd ls dd big F' today' (n+1) (ds++[.ref q]) zi'->Q .non H'
section
variable {P:AE}{w:World}{K:Aa}{mg:Str->Option Value}{base:Heap}
def scDo:FnScope ["_law_books","_law_deed"] ["_law_books","_law_deed"] (aG sDo):=fnScOk (by decide +kernel)
def aGl (F:Fun K "_law_do" "_law_do" sDo f fd)(L:Cl K mg C)(mT:MCal P w K mg base CX0 7 C "take" ["self","name","ware","many","last"] (sT C))(mP:MCal P w K mg base CX0 7 C "pour" ["self","source","goal","many"] (sV C))(mG:MCal P w K mg base CX0 7 C "give" ["self","source","name","many"] (tG C))(mO:MCal P w K mg base CX0 7 C "go" ["self","day"] (spGo C)):FnOk P w K mg base CX0 8 f fd ["_law_books","_law_deed"] (spDo C K):=by
 refine F.ok scDo (λvs H Q E h=>?_) (λcdv A outer s0 H vs Q E hr h=>?_)
 ·obtain ⟨_,_,_,_,_,_,_,_,_,_,_,_,_,_,_,_,_,rfl,_⟩:=h
  rfl
 ·obtain ⟨ad,p,dl,dt,db,bs,kvs,day,bf,M,n,zs,d,M',zs',day',q,rfl,B,sq,st,n1,k⟩:=h
  refine ⟨_,(aC (bC (aP dN (pit 1 0) aJ (aU _)) (aF (aK (cQ L.cl mT hr aR (pv 0) (aA (pit 1 1) (aA (pit 1 2) (aA (pit 1 3) (aA (pit 1 4) aE))))))) aQ)
   (aC (bC (aP dN (pit 1 0) aJ (aU _)) (aF (aK (cQ L.cl mP hr aR (pv 0) (aA (pit 1 1) (aA (pit 1 2) (aA (pit 1 3) aE)))))) aQ)
   (aC (bC (aP dN (pit 1 0) aJ (aU _)) (aF (aK (cQ L.cl mG hr aR (pv 0) (aA (pit 1 1) (aA (pit 1 2) (aA (pit 1 3) aE)))))) aQ)
   (aF (aK (cQ L.cl mO hr aR (pv 0) (aA (pit 1 1) aE))))))),?_⟩
  refine cut4 ?_
  intros
  obtain ⟨⟨dx,h0⟩,_⟩:=id B.bk;have no:∀ {x z:Str},x≠z->decide (V.str x=V.str z)=false:=λh=>decide_eq_false λq=>h (V.str.inj q);cases st with
  |take wx ww nx m1 mb l0 l1=>
   refine ⟨q,_,_,rfl,sq,rfl,rfl,_,rfl,?_⟩;rw [decide_eq_true rfl];exact iteT ⟨_,rfl,p,dx,_,rfl,h0,(by kernel_rfl),q,_,_,rfl,sq,rfl,q,_,_,rfl,sq,rfl,q,_,_,rfl,sq,rfl,q,_,_,rfl,sq,rfl,ad,p,dl,dt,db,bs,kvs,day,bf,M,n,zs,_,_,_,_,rfl,B,wx,ww,nx,m1,mb,l0,l1,n1,k⟩
  |go d0 d1 d2=>
   refine ⟨q,_,_,rfl,sq,rfl,rfl,_,rfl,?_⟩;rw [no (by decide +kernel)];refine iteF ⟨q,_,_,rfl,sq,rfl,rfl,_,rfl,?_⟩;rw [no (by decide +kernel)];refine iteF ⟨q,_,_,rfl,sq,rfl,rfl,_,rfl,?_⟩;rw [no (by decide +kernel)];exact iteF ⟨_,rfl,p,dx,_,rfl,h0,(by kernel_rfl),q,_,_,rfl,sq,rfl,ad,p,dl,dt,db,bs,kvs,day,bf,M,n,zs,_,rfl,B,d0,d1,d2,n1,k⟩
  |pour a st'=>
   refine ⟨q,_,_,rfl,sq,rfl,rfl,_,rfl,?_⟩;rw [no (by decide +kernel)];refine iteF ⟨q,_,_,rfl,sq,rfl,rfl,_,rfl,?_⟩;rw [decide_eq_true rfl];exact iteT ⟨_,rfl,p,dx,_,rfl,h0,(by kernel_rfl),q,_,_,rfl,sq,rfl,q,_,_,rfl,sq,rfl,q,_,_,rfl,sq,rfl,ad,p,dl,dt,db,bs,kvs,day,bf,M,n,zs,_,_,_,rfl,B,a,st',k⟩
  |give a st'=>
   refine ⟨q,_,_,rfl,sq,rfl,rfl,_,rfl,?_⟩;rw [no (by decide +kernel)];refine iteF ⟨q,_,_,rfl,sq,rfl,rfl,_,rfl,?_⟩;rw [no (by decide +kernel)];refine iteF ⟨q,_,_,rfl,sq,rfl,rfl,_,rfl,?_⟩;rw [decide_eq_true rfl];exact iteT ⟨_,rfl,p,dx,_,rfl,h0,(by kernel_rfl),q,_,_,rfl,sq,rfl,q,_,_,rfl,sq,rfl,q,_,_,rfl,sq,rfl,ad,p,dl,dt,db,bs,kvs,day,bf,M,n,zs,_,_,_,rfl,B,a,st',k⟩
end
section
variable {H H':Hp}{a hd kd ls dd:Addr}{big:Bool}{F today:Int}{n:Nat}{ds:List V}{zi:List (Th×Addr)}
structure Five (a hd kd ls dd:Addr)(zi:List (Th×Addr)):Prop where
 ah:a≠hd
 ak:a≠kd
 al:a≠ls
 ad:a≠dd
 hk:hd≠kd
 hl:hd≠ls
 hd':hd≠dd
 kl:kd≠ls
 kd':kd≠dd
 ld:ls≠dd
 o:∀ e∈zi,e.2≠a/\e.2≠hd/\e.2≠kd/\e.2≠ls/\e.2≠dd
def LS.five (B:LS H a hd kd ls dd big F today n ds zi):Five a hd kd ls dd zi:=by
 have n5:=(AN.mp B.nda).1;have nO:∀ b∈[a,hd,kd,ls,dd],∀ e∈zi,e.2≠b:=λb hb e he z=>(AN.mp B.nda).2.2 b hb b (z▸Ai (f:=(·.2)) he) rfl;simp only [AU,Ae,Ag,or_false,not_or] at n5;obtain ⟨⟨h1,h2,h3,h4⟩,⟨h5,h6,h7⟩,⟨h8,h9⟩,h10,_⟩:=n5;exact ⟨h1,h2,h3,h4,h5,h6,h7,h8,h9,h10,λe he=>⟨nO a (by simp) e he,nO hd (by simp) e he,nO kd (by simp) e he,nO ls (by simp) e he,nO dd (by simp) e he⟩⟩
def aE4 (B:LS H a hd kd ls dd big F today n ds zi)(h:H q=some (.tup xs)):q∉La a hd kd ls dd zi:=λz=>by
 rcases Aj.mp z with z|z
 ·simp only [Ae,Ag,or_false] at z
  obtain ⟨lk,_,hl,_⟩:=B.hl
  rcases z with rfl|rfl|rfl|rfl|rfl
  ·rw [B.ha] at h;cases h
  ·rw [B.hh] at h;cases h
  ·rw [B.hk] at h;cases h
  ·rw [hl] at h;cases h
  ·rw [B.hdd] at h;cases h
 ·obtain ⟨e,he,rfl⟩:=An.mp z
  obtain ⟨_,_,w,_⟩:=B.inn e he;rw [w] at h;cases h
def LS.tk (B:LS H a hd kd ls dd big F today n ds zi)(k:KpL (La a hd kd ls dd zi) H H'):Tk H H':=λb xs e=>k b _ (aE4 B e) e
def LS.allo (B:LS H a hd kd ls dd big F today n ds zi):∀ b∈La a hd kd ls dd zi,H b≠none:=λb hb z=>by
 rcases Aj.mp hb with w|w
 ·simp only [Ae,Ag,or_false] at w
  obtain ⟨lk,_,hl,_⟩:=B.hl
  rcases w with rfl|rfl|rfl|rfl|rfl
  ·rw [B.ha] at z;cases z
  ·rw [B.hh] at z;cases z
  ·rw [B.hk] at z;cases z
  ·rw [hl] at z;cases z
  ·rw [B.hdd] at z;cases z
 ·obtain ⟨e,he,rfl⟩:=An.mp w
  obtain ⟨_,_,w,_⟩:=B.inn e he;rw [w] at z;cases z
end
section
variable {P:AE}{w:World}{K:Aa}{mg:Str->Option Value}{base:Heap}
def aBk:FnScope ["_law_here","_law_deed"] ["_law_here","_law_deed"] (aG sApply):=fnScOk (by decide +kernel)
def pick2 (b:Bool):Str:=if b then "dose" else "store"
def yM (F:Fun K "_law_apply" "_law_apply" sApply f fd)(T:Txt mg)(cP:Cal P w K mg base CX0 2 "_law_pour" ["_law_here","_law_source","_law_goal","_law_many"] lN):FnOk P w K mg base CX0 3 f fd ["_law_here","_law_deed"] oX:=by
 refine F.ok aBk (λvs H Q E h=>?_) (λcdv A outer s0 H vs Q E hr h=>?_)
 ·obtain ⟨_,_,_,_,_,_,_,_,_,_,_,_,_,_,_,_,rfl,_⟩:=h
  rfl
 ·obtain ⟨a,hd,kd,ls,dd,big,Fn,today,n,ds,zi,d,F',zs',today',q,rfl,B,hq,st,n1,k⟩:=h
  refine ⟨_,(aC (bD (mE Bb Bx Bw dB (aI (aO hr) (pv 0) aJ (λ_ _=>rfl)) (aA (pv 1) aE)))
   (aF (bC (aP dN (pit 1 0) aJ (aU _))
    (aC (bR (aO hr) (aI (aO hr) (pv 0) aJ (λ_ _=>rfl)) (pit 1 1) aJ rfl)
    (aC (bR (aO hr) (aI (aO hr) (pv 0) aJ (λ_ _=>rfl)) (pit 1 1) (gL (bV (pit 1 1) (aM bL (pit 1 3) (aI (aO hr) (pv 0) aJ (λ_ _=>rfl))) gI) rfl rfl (by simp) (by decide)) rfl)
    (aF (bR (aO hr) (aI (aO hr) (pv 0) aJ (λ_ _=>rfl)) (pit 1 1) (pit 1 4) rfl))))
    (aF (bC (aP dN (pit 1 0) aJ (aU _))
     (aF (bR (aO hr) (pv 0) aJ (pit 1 1) rfl))
     (aC (bC (nP (fT (aO hr) (pit 1 2) (aI (aO hr) (pv 0) aJ (λ_ _=>rfl))))
      (aC (bR (aO hr) (aI (aO hr) (pv 0) aJ (λ_ _=>rfl)) (pit 1 2) (cR dO (dH (aA aJ (aA aJ aE))) (bP kK rfl T.int' rB (aA (dM dN (pit 1 0) aJ (aU _)) aE)) (λ_ _=>rfl)) rfl)
      (aF (bR (aO hr) (aI (aO hr) (pv 0) aJ (λ_ _=>rfl)) (pit 1 2) bW rfl)))
      aQ)
     (aF (bD (aV cP hr rfl aR (aA (pv 0) (aA (pit 1 1) (aA (pit 1 2) (aA (pit 1 3) aE))))))))))))),?_⟩
  have nd:=B.g.nd;have v5:=B.s.five;have zl:=B.g.ln;rw [Ab] at zl;have n60:=B.g.n60;refine ⟨_,rfl,a,_,rfl,dg B.s.ha mK,.inl ⟨rfl,_,SqL.of B.s.hdd⟩,_,rfl,dd,_,_,rfl,rfl,B.s.hdd,aW (by rw [B.s.dl];omega),?_⟩;have qdd:q≠dd:=fJ hq B.s.hdd (by intro z;cases z);have hq1:(upd H dd (.lst (ds++[.ref q]))) q=some (.tup d.row):=by rw [aD qdd];exact hq
  have fr1:∀ b o,b≠dd->H b=some o->(upd H dd (.lst (ds++[.ref q]))) b=some o:=λb o nb e=>by rw [aD nb];exact e
  have B1:LS (upd H dd (.lst (ds++[.ref q]))) a hd kd ls dd big Fn today (n+1) (ds++[.ref q]) zi:=by
   obtain ⟨h1,h2,h3,h4,⟨lk,lks,h5,h6,h6',h6''⟩,h7,h8,h9⟩:=B.s;exact ⟨fr1 _ _ v5.ad h1,fr1 _ _ v5.hd' h2,λe he=>(h3 e he).keep λo z=>fr1 _ _ (v5.o e he).2.2.2.2 z,fr1 _ _ v5.kd' h4,⟨lk,lks,fr1 _ _ v5.ld h5,h6,by omega,h6''⟩,aB,by rw [Az,h8];rfl,h9⟩
  have kp1:KpL (La a hd kd ls dd zi) H (upd H dd (.lst (ds++[.ref q]))):=λb o nb e=>fr1 b o (λz=>nb (Af _ (by rw [z];simp))) e;have no1:∀ b,(upd H dd (.lst (ds++[.ref q]))) b=none->H b=none:=λb z=>by
   cases hb:H b with
   |none=>rfl
   |some o=>
    by_cases e:b=dd
    ·rw [e,aB] at z;cases z
    ·rw [fr1 b o e hb] at z;cases z
  generalize upd H dd (.lst (ds++[.ref q]))=H1 at hq1 fr1 B1 kp1 no1 ⊢;have no:∀ {x z:Str},x≠z->decide (V.str x=V.str z)=false:=λh=>decide_eq_false λq=>h (V.str.inj q);have pourC:∀ (Q':VK) (E':XK) (s:Th) (y ky:Str) (m:Int) (zi0:List (Th×Addr)) (H2:Hp),PoA (zi.map (·.1)) s y m today n->(ky = "store" \/ ky = "dose")->(zi0.map (·.1))=(if y∈(zi.map (·.1)).map Th.x then (zi.map (·.1)) else (zi.map (·.1))++[Th.ves y ky])->LS H2 a hd kd ls dd big Fn today (n+1) (ds++[.ref q]) zi0->KpL (La a hd kd ls dd zi) H H2->Adr H zi zi0->(∀ zi' H',KpL (La a hd kd ls dd zi) H H'->Tk H H'->(zi'.map λe=>e.1)=after (zi.map (·.1)) s y ky m n->Adr H zi zi'->LS H' a hd kd ls dd big (Fn*s.T) today (n+1) (ds++[.ref q]) zi'->Q' .non H')->lN [.ref a,.str s.x,.str y,.int m] H2 Q' E':=λQ' E' s y ky m zi0 H2 pa hk ez L2 kp2 ad2 kk=>by
   have g0:=aAs B.g pa.wy hk n1;rw [<- ez] at g0;have hs0:s∈zi0.map (·.1):=by rw [ez];exact (jL B.g pa.wy hk).2.2.2 s pa.hs
   obtain ⟨es,hes,rfl⟩:=An.mp hs0;have hy0:y∈(zi0.map (·.1)).map Th.x:=by
    rw [ez]
    by_cases z:y∈(zi.map (·.1)).map Th.x
    ·rw [if_pos z];exact z
    ·rw [if_neg z,AC];exact Ac _ (Am.mpr rfl)
   obtain ⟨t,ht,rfl⟩:=An.mp hy0;obtain ⟨eg,heg,rfl⟩:=An.mp ht;refine ⟨a,hd,kd,ls,dd,big,Fn,today,n+1,ds++[.ref q],zi0,es,eg,eg.1.x,m,n,rfl,⟨L2,g0⟩,⟨hes,heg,rfl,pa.ne,pa.m1,pa.mT,pa.mb⟩,λzi' H' kp' tk' e' ad' L'=>?_⟩;have in0:∀ b,b∈La a hd kd ls dd zi0->b∈La a hd kd ls dd zi\/H b=none:=λb hb=>by
    rcases Aj.mp hb with w|w
    ·exact .inl (Af _ w)
    ·obtain ⟨u,hu,rfl⟩:=An.mp w
     exact (ad2 u hu).elim (λz=>.inl (Ac _ z)) .inr
   have kpF:KpL (La a hd kd ls dd zi) H H':=λb o nb e=>kp' b o (λz=>(in0 b z).elim nb (λw=>by rw [w] at e;cases e)) (kp2 b o nb e);refine kk zi' H' kpF (B.s.tk kpF) ?_ (λe he=>?_) L'
   ·rw [e']
    show (zi0.map (·.1)).map _=_;rw [ez];rfl
   ·rcases ad' e he with w|w
    ·obtain ⟨u,hu,q⟩:=An.mp w
     rw [<- q];exact ad2 u hu
    ·by_cases z:e.2∈zi.map (·.2)
     ·exact .inl z
     ·refine .inr ?_
      cases hb:H e.2 with
      |none=>rfl
      |some o=>
       exfalso
       by_cases z2:e.2∈La a hd kd ls dd zi
       ·exact L2.allo e.2 ((Aj.mp z2).elim (λw=>Af _ w) (λw=>absurd w z)) w
       ·rw [kp2 e.2 o z2 hb] at w
        cases w
  cases st with
  |take wx ww nx m1 mb l0 l1=>
   rename_i x wr m l;have hq1':H1 q=some (.tup [.str "take",.str x,.str wr,.int m,.int l]):=hq1;obtain ⟨h1,h2,h3,h4,⟨lk,lks,h5,h6,h6l,h6v⟩,h7,h8,h9⟩:=id B1;have sm:(zi.map keyK).length<AB:=aW (by rw [Ab];omega);have smX:(zi.map keyX).length<AB:=aW (by rw [Ab];omega);have smL:lk.length<AB:=aW (by rw [h6.len];omega);refine ⟨q,_,_,rfl,SqT.of hq1,rfl,rfl,_,rfl,?_⟩;rw [decide_eq_true rfl];refine iteT ⟨_,rfl,a,_,rfl,dg h1 cJ,q,_,_,rfl,SqT.of hq1',rfl,kd,_,rfl,DPut.k (k:=As x) h4 sm,?_⟩;have eK:putK (zi.map keyK) (As x) (.str "lot")=zi.map keyK++[(.inr x,.str "lot")]:=cH _ (eN (φ:=λe=>.str e.1.k) nx);rw [eK];have fr2:∀ b o,b≠kd->H1 b=some o->(upd H1 kd (.dK (zi.map keyK++[(.inr x,.str "lot")]))) b=some o:=λb o nb e=>by rw [aD nb];exact e
   have k2:(upd H1 kd (.dK (zi.map keyK++[(.inr x,.str "lot")]))) kd=some (.dK (zi.map keyK++[(.inr x,.str "lot")])):=aB;have no2:∀ b,(upd H1 kd (.dK (zi.map keyK++[(.inr x,.str "lot")]))) b=none->H1 b=none:=λb z=>by
    by_cases e:b=kd
    ·rw [e,aB] at z;cases z
    ·rwa [aD e] at z
   generalize upd H1 kd (.dK (zi.map keyK++[(.inr x,.str "lot")]))=H2 at fr2 k2 no2 ⊢;have hq2:=fr2 _ _ (fJ hq1' h4 (by intro z;cases z)) hq1';have a2:=fr2 _ _ v5.ak h1;have hh2:=fr2 _ _ v5.hk h2;have l2:=fr2 _ _ (Au v5.kl) h5;have d2:=fr2 _ _ (Au v5.kd') h7;have i2:∀ e∈zi,Inn H2 e:=λe he=>(h3 e he).keep λo z=>fr2 _ _ (v5.o e he).2.2.1 z;intro dn hdn;have dn0:H dn=none:=no1 _ (no2 _ hdn);have t3:=Same.upd (o:=.dK []) hdn;refine ⟨q,_,_,rfl,SqT.of (t3 _ _ hq2),rfl,q,_,_,rfl,SqT.of (t3 _ _ hq2),rfl,_,rfl,a,_,rfl,dg (t3 _ _ a2) pI,_,_,rfl,rfl,⟨b6 (eE 20 (c:=1048576) (by omega) (by omega)),b6 B.g.bm⟩,aB,[(.inr x,.int (m*Fn))],rfl,by show 1<=15;decide,?_⟩;rw [show dA [] [((.inr x:Key),V.int (m*Fn))]=[(.inr x,.int (m*Fn))] from rfl];have s4:Same H2 (upd (upd H2 dn (.dK [])) dn (.dK [(.inr x,.int (m*Fn))])):=dD t3 hdn;have dn4:(upd (upd H2 dn (.dK [])) dn (.dK [(.inr x,.int (m*Fn))])) dn=some (.dK [(.inr x,.int (m*Fn))]):=aB;generalize upd (upd H2 dn (.dK [])) dn (.dK [(.inr x,.int (m*Fn))])=H4 at s4 dn4 ⊢;have dnN:∀ {b:Addr} {o:HO},H2 b=some o->dn≠b:=λ{b o} e z=>by rw [z,e] at hdn;cases hdn
   refine ⟨_,rfl,a,_,rfl,dg (s4 _ _ a2) bQ,q,_,_,rfl,SqT.of (s4 _ _ hq2),rfl,hd,_,rfl,DPut.k (k:=As x) (s4 _ _ hh2) smX,?_⟩;have eX:putK (zi.map keyX) (As x) (.ref dn)=(zi++[(Th.lot Fn x m l,dn)]).map keyX:=by
    have z:=cH (kvs:=zi.map keyX) (k:=As x) (.ref dn) (eN (φ:=λe=>.ref e.2) nx);rw [z,AC];rfl
   rw [eX];have fr5:∀ b o,b≠hd->H4 b=some o->(upd H4 hd (.dK ((zi++[(Th.lot Fn x m l,dn)]).map keyX))) b=some o:=λb o nb e=>by rw [aD nb];exact e
   have hh5:(upd H4 hd (.dK ((zi++[(Th.lot Fn x m l,dn)]).map keyX))) hd=some (.dK ((zi++[(Th.lot Fn x m l,dn)]).map keyX)):=aB;generalize upd H4 hd (.dK ((zi++[(Th.lot Fn x m l,dn)]).map keyX))=H5 at fr5 hh5 ⊢;have qh:q≠hd:=fJ hq2 hh2 (by intro z;cases z);have hq5:=fr5 _ _ qh (s4 _ _ hq2);refine ⟨q,_,_,rfl,SqT.of hq5,rfl,_,rfl,a,_,rfl,dg (fr5 _ _ v5.ah (s4 _ _ a2)) jC,q,_,_,rfl,SqT.of hq5,rfl,ls,_,rfl,DPut.k (k:=As x) (fr5 _ _ (Au v5.hl) (s4 _ _ l2)) smL,?_⟩;have fr6:∀ b o,b≠ls->H5 b=some o->(upd H5 ls (.dK (putK lk (As x) (.int l)))) b=some o:=λb o nb e=>by rw [aD nb];exact e
   have ls6:(upd H5 ls (.dK (putK lk (As x) (.int l)))) ls=some (.dK (putK lk (As x) (.int l))):=aB;generalize upd H5 ls (.dK (putK lk (As x) (.int l)))=H6 at fr6 ls6 ⊢;have up:∀ b o,b≠hd->b≠ls->H2 b=some o->H6 b=some o:=λb o n1 n2 e=>fr6 b o n2 (fr5 b o n1 (s4 _ _ e));have kpF:KpL (La a hd kd ls dd zi) H H6:=λb o nb e=>up b o (λz=>nb (Af _ (by rw [z];simp))) (λz=>nb (Af _ (by rw [z];simp))) (fr2 b o (λz=>nb (Af _ (by rw [z];simp))) (kp1 b o nb e));obtain ⟨lks',ldk',lm',ll'⟩:=h6.put x (.int l);have dnh:dn≠hd:=dnN hh2;have dnl:dn≠ls:=dnN l2;refine k (zi++[(Th.lot Fn x m l,dn)]) H6 kpF (B.s.tk kpF) (by rw [AC];rfl) (λe he=>?_) ⟨up _ _ v5.ah v5.al a2,fr6 _ _ v5.hl hh5,λe he=>?_,?_,⟨_,lks',ls6,ldk',?_,⟨λy l' hy=>?_,λy hy=>?_⟩⟩,up _ _ (Au v5.hd') (Au v5.ld) d2,h8,?_⟩
   ·rcases Aj.mp he with he|he
    ·exact .inl (Ai he)
    ·rw [Am.mp he];exact .inr dn0
   ·rcases Aj.mp he with he|he
    ·exact (i2 e he).keep λo z=>up _ _ (v5.o e he).2.1 (v5.o e he).2.2.2.1 z
    ·rw [Am.mp he]
     refine ⟨_,[x],fr6 _ _ dnl (fr5 _ _ dnh dn4),⟨⟨rfl,Bz (λ_ h=>absurd h Ag) .nil⟩,λy hy=>?_,λy hy=>if_neg λz=>hy (Am.mpr z)⟩,λy=>Iff.rfl⟩;obtain rfl:=Am.mp hy;show valV [((As y:Key),V.int (m*Fn))] (As y)=some (.int (if y=y then m*Fn else 0));rw [if_pos rfl];exact bJ rfl
   ·rw [AC]
    exact up _ _ (Au v5.hk) v5.kl k2
   ·have hz:lks.length<=n:=by
     obtain ⟨lk0,lks0,z1,z2,z3,_⟩:=B.s.hl;have e0:lk0=lk:=by
      have:=fr1 _ _ v5.ld z1;rw [h5] at this;cases this;rfl
     subst e0;have e1:lks0.map (As:Str->Key)=lks.map As:=z2.keys.symm.trans h6.keys;have e2:=congrArg List.length e1;rw [Ab,Ab] at e2;omega
    omega
   ·rw [bZ]
    obtain ⟨u,hu,ux,uk,ul⟩:=hy;rw [AC] at hu
    rcases Aj.mp hu with hu|hu
    ·have ny:y≠x:=λz=>nx (by rw [<- z,<- ux];exact Ai hu)
     rw [if_neg (λz=>ny (BG z))];exact h6v.v y l' ⟨u,hu,ux,uk,ul⟩
    ·have e0:u=Th.lot Fn x m l:=Am.mp hu
     rw [e0] at ux ul;have e1:x=y:=ux;have e2:some l=some l':=ul;rw [if_pos (by rw [e1]),AF e2]
   ·rw [AC]
    rcases (lm' y).mp hy with h|h
    ·obtain ⟨u,hu,q⟩:=h6v.m y h
     exact ⟨u,Af _ hu,q⟩
    ·exact ⟨Th.lot Fn x m l,Ac _ (Am.mpr rfl),h.symm,rfl⟩
   ·rw [AC,<- DC]
    refine AN.mpr ⟨B.s.nda,Bz (λ_ h=>absurd h Ag) .nil,λb hb c hc z=>?_⟩;rw [Am.mp hc] at z;exact B.s.allo b hb (by rw [z];exact dn0)
  |go d0 d1 d2=>
   refine ⟨q,_,_,rfl,SqT.of hq1,rfl,rfl,_,rfl,?_⟩;rw [no (by decide +kernel)];refine iteF ⟨q,_,_,rfl,SqT.of hq1,rfl,rfl,_,rfl,?_⟩;rw [decide_eq_true rfl];refine iteT ⟨q,_,_,rfl,SqT.of hq1,rfl,_,rfl,a,_,rfl,DPut.k (k:=As "today") B1.ha (aW (by show 7<=1000;decide)),?_⟩;rw [aCv];have fr2:∀ b o,b≠a->H1 b=some o->(upd H1 a (.dK (hkv big Fn hd kd ls today' dd))) b=some o:=λb o nb e=>by rw [aD nb];exact e
   have kpF:KpL (La a hd kd ls dd zi) H (upd H1 a (.dK (hkv big Fn hd kd ls today' dd))):=λb o nb e=>fr2 b o (λz=>nb (Af _ (by rw [z];simp))) (kp1 b o nb e);obtain ⟨h1,h2,h3,h4,⟨lk,lks,h5,h6⟩,h7,h8,h9⟩:=B1;exact k zi _ kpF (B.s.tk kpF) rfl (λe he=>.inl (Ai he)) ⟨aB,fr2 _ _ (Au v5.ah) h2,λe he=>(h3 e he).keep λo z=>fr2 _ _ (v5.o e he).1 z,fr2 _ _ (Au v5.ak) h4,⟨lk,lks,fr2 _ _ (Au v5.al) h5,h6⟩,fr2 _ _ (Au v5.ad) h7,h8,h9⟩
  |pour pa st'=>
   rename_i s y m;have hq1':H1 q=some (.tup [.str "pour",.str s.x,.str y,.int m]):=hq1;refine ⟨q,_,_,rfl,SqT.of hq1',rfl,rfl,_,rfl,?_⟩;rw [no (by decide +kernel)];refine iteF ⟨q,_,_,rfl,SqT.of hq1',rfl,rfl,_,rfl,?_⟩;rw [no (by decide +kernel)];refine iteF ⟨q,_,_,rfl,SqT.of hq1',rfl,_,rfl,a,_,rfl,dg B1.ha cJ,kd,_,rfl,DGet.k (k:=.inr y) B1.hk,_,rfl,?_⟩
   by_cases hy:y∈(zi.map (·.1)).map Th.x
   ·obtain ⟨t,ht,rfl⟩:=An.mp hy
    obtain ⟨eg,heg,rfl⟩:=An.mp ht;rw [show (valV (zi.map keyK) (As eg.1.x)).isSome=true by rw [LS.getK nd heg];rfl];exact iteF ⟨_,rfl,q,_,_,rfl,SqT.of hq1',rfl,q,_,_,rfl,SqT.of hq1',rfl,q,_,_,rfl,SqT.of hq1',rfl,pourC _ E s eg.1.x "store" m zi H1 pa (.inl rfl) (by rw [if_pos hy]) B1 kp1 (λe he=>.inl (Ai he)) k⟩
   ·have sm:(zi.map keyK).length<AB:=aW (by rw [Ab];omega)
    have smX:(zi.map keyX).length<AB:=aW (by rw [Ab];omega);obtain ⟨h1,h2,h3,h4,⟨lk,lks,h5,h6,h6l,h6v⟩,h7,h8,h9⟩:=id B1;have vn:(valV (zi.map keyK) (As y)).isSome=false:=by rw [show valV (zi.map keyK) (As y)=none from eN (φ:=λe=>.str e.1.k) hy];rfl
    rw [vn];refine iteT ⟨zLn2,λlb hlb=>?_⟩;have t2:=Same.upd (o:=.lst [.str "store",.str "dose"]) hlb;have lb2:(upd H1 lb (.lst [.str "store",.str "dose"])) lb=some (.lst [.str "store",.str "dose"]):=aB;generalize upd H1 lb (.lst [.str "store",.str "dose"])=H2 at t2 lb2 ⊢;refine ⟨q,_,_,rfl,SqT.of (t2 _ _ hq1'),rfl,rfl,.inr ⟨_,rfl,?_⟩⟩;rw [no (by decide +kernel)];refine ⟨lb,_,(0:Int),V.str "store",rfl,rfl,SqL.of lb2,rfl,_,rfl,a,_,rfl,dg (t2 _ _ h1) cJ,q,_,_,rfl,SqT.of (t2 _ _ hq1'),rfl,kd,_,rfl,DPut.k (k:=As y) (t2 _ _ h4) sm,?_⟩;have eK:putK (zi.map keyK) (As y) (.str "store")=zi.map keyK++[(.inr y,.str "store")]:=cH _ (eN (φ:=λe=>.str e.1.k) hy);rw [eK];have fr3:∀ b o,b≠kd->H2 b=some o->(upd H2 kd (.dK (zi.map keyK++[(.inr y,.str "store")]))) b=some o:=λb o nb e=>by rw [aD nb];exact e
    have k3:(upd H2 kd (.dK (zi.map keyK++[(.inr y,.str "store")]))) kd=some (.dK (zi.map keyK++[(.inr y,.str "store")])):=aB;have no3:∀ b,(upd H2 kd (.dK (zi.map keyK++[(.inr y,.str "store")]))) b=none->H2 b=none:=λb z=>by
     by_cases e:b=kd
     ·rw [e,aB] at z;cases z
     ·rwa [aD e] at z
    generalize upd H2 kd (.dK (zi.map keyK++[(.inr y,.str "store")]))=H3 at fr3 k3 no3 ⊢;have hq3:=fr3 _ _ (fJ hq1' h4 (by intro z;cases z)) (t2 _ _ hq1');have a3:=fr3 _ _ v5.ak (t2 _ _ h1);have hh3:=fr3 _ _ v5.hk (t2 _ _ h2);have l3:=fr3 _ _ (Au v5.kl) (t2 _ _ h5);have d3:=fr3 _ _ (Au v5.kd') (t2 _ _ h7);intro dn hdn;have dn0:H dn=none:=no1 _ (same_none t2 (no3 _ hdn));have t4:=Same.upd (o:=.dK []) hdn;have dn4:(upd H3 dn (.dK [])) dn=some (.dK []):=aB;have dnN:∀ {b:Addr} {o:HO},H3 b=some o->dn≠b:=λ{b o} e z=>by rw [z,e] at hdn;cases hdn
    generalize upd H3 dn (.dK [])=H4 at t4 dn4 ⊢;refine ⟨_,rfl,a,_,rfl,dg (t4 _ _ a3) bQ,q,_,_,rfl,SqT.of (t4 _ _ hq3),rfl,hd,_,rfl,DPut.k (k:=As y) (t4 _ _ hh3) smX,?_⟩;have eX:putK (zi.map keyX) (As y) (.ref dn)=(zi++[(Th.ves y "store",dn)]).map keyX:=by
     have z:=cH (kvs:=zi.map keyX) (k:=As y) (.ref dn) (eN (φ:=λe=>.ref e.2) hy);rw [z,AC];rfl
    rw [eX];have fr5:∀ b o,b≠hd->H4 b=some o->(upd H4 hd (.dK ((zi++[(Th.ves y "store",dn)]).map keyX))) b=some o:=λb o nb e=>by rw [aD nb];exact e
    have hh5:(upd H4 hd (.dK ((zi++[(Th.ves y "store",dn)]).map keyX))) hd=some (.dK ((zi++[(Th.ves y "store",dn)]).map keyX)):=aB;generalize upd H4 hd (.dK ((zi++[(Th.ves y "store",dn)]).map keyX))=H5 at fr5 hh5 ⊢;have qh:q≠hd:=fJ hq3 hh3 (by intro z;cases z);have hq5:=fr5 _ _ qh (t4 _ _ hq3);have up:∀ b o,b≠hd->b≠kd->H1 b=some o->H5 b=some o:=λb o n1 n2 e=>fr5 b o n1 (t4 _ _ (fr3 b o n2 (t2 _ _ e)));have kpF:KpL (La a hd kd ls dd zi) H H5:=λb o nb e=>up b o (λz=>nb (Af _ (by rw [z];simp))) (λz=>nb (Af _ (by rw [z];simp))) (kp1 b o nb e);have dnh:dn≠hd:=dnN hh3;refine ⟨_,rfl,q,_,_,rfl,SqT.of hq5,rfl,q,_,_,rfl,SqT.of hq5,rfl,q,_,_,rfl,SqT.of hq5,rfl,pourC _ E s y "store" m (zi++[(Th.ves y "store",dn)]) H5 pa (.inl rfl) (by rw [if_neg hy,AC];rfl) ⟨fr5 _ _ v5.ah (t4 _ _ a3),hh5,λe he=>?_,?_,⟨lk,lks,fr5 _ _ (Au v5.hl) (t4 _ _ l3),h6,h6l,⟨λx l hx=>h6v.v x l ?_,λx hx=>by obtain ⟨u,hu,q⟩:=h6v.m x hx;exact ⟨u,by rw [AC];exact Af _ hu,q⟩⟩⟩,fr5 _ _ (Au v5.hd') (t4 _ _ d3),h8,?_⟩ kpF (λe he=>?_) k⟩
    ·rcases Aj.mp he with he|he
     ·exact (h3 e he).keep λo z=>up _ _ (v5.o e he).2.1 (v5.o e he).2.2.1 z
     ·rw [Am.mp he]
      exact ⟨[],[],fr5 _ _ dnh dn4,⟨.nil,(λ_ h=>absurd h Ag),λ_ _=>rfl⟩,λ_=>Iff.rfl⟩
    ·rw [AC]
     exact fr5 _ _ (Au v5.hk) (t4 _ _ k3)
    ·obtain ⟨u,hu,ux,uk,ul⟩:=hx
     rw [AC] at hu
     rcases Aj.mp hu with hu|hu
     ·exact ⟨u,hu,ux,uk,ul⟩
     ·rw [Am.mp hu] at ul
      cases ul
    ·rw [AC,<- DC]
     refine AN.mpr ⟨B.s.nda,Bz (λ_ h=>absurd h Ag) .nil,λb hb c hc z=>?_⟩;rw [Am.mp hc] at z;exact B.s.allo b hb (by rw [z];exact dn0)
    ·rcases Aj.mp he with he|he
     ·exact .inl (Ai he)
     ·rw [Am.mp he];exact .inr dn0
  |give pa hy=>
   rename_i s y m;have hq1':H1 q=some (.tup [.str "give",.str s.x,.str y,.int m]):=hq1;refine ⟨q,_,_,rfl,SqT.of hq1',rfl,rfl,_,rfl,?_⟩;rw [no (by decide +kernel)];refine iteF ⟨q,_,_,rfl,SqT.of hq1',rfl,rfl,_,rfl,?_⟩;rw [no (by decide +kernel)];refine iteF ⟨q,_,_,rfl,SqT.of hq1',rfl,_,rfl,a,_,rfl,dg B1.ha cJ,kd,_,rfl,DGet.k (k:=.inr y) B1.hk,_,rfl,?_⟩;have sm:(zi.map keyK).length<AB:=aW (by rw [Ab];omega);have smX:(zi.map keyX).length<AB:=aW (by rw [Ab];omega);obtain ⟨h1,h2,h3,h4,⟨lk,lks,h5,h6,h6l,h6v⟩,h7,h8,h9⟩:=id B1;have vn:(valV (zi.map keyK) (As y)).isSome=false:=by rw [show valV (zi.map keyK) (As y)=none from eN (φ:=λe=>.str e.1.k) hy];rfl
   rw [vn];refine iteT ⟨zLn2,λlb hlb=>?_⟩;have t2:=Same.upd (o:=.lst [.str "store",.str "dose"]) hlb;have lb2:(upd H1 lb (.lst [.str "store",.str "dose"])) lb=some (.lst [.str "store",.str "dose"]):=aB;generalize upd H1 lb (.lst [.str "store",.str "dose"])=H2 at t2 lb2 ⊢;refine ⟨q,_,_,rfl,SqT.of (t2 _ _ hq1'),rfl,rfl,.inr ⟨_,rfl,?_⟩⟩;rw [decide_eq_true rfl];refine ⟨lb,_,(1:Int),V.str "dose",rfl,rfl,SqL.of lb2,rfl,_,rfl,a,_,rfl,dg (t2 _ _ h1) cJ,q,_,_,rfl,SqT.of (t2 _ _ hq1'),rfl,kd,_,rfl,DPut.k (k:=As y) (t2 _ _ h4) sm,?_⟩;have eK:putK (zi.map keyK) (As y) (.str "dose")=zi.map keyK++[(.inr y,.str "dose")]:=cH _ (eN (φ:=λe=>.str e.1.k) hy);rw [eK];have fr3:∀ b o,b≠kd->H2 b=some o->(upd H2 kd (.dK (zi.map keyK++[(.inr y,.str "dose")]))) b=some o:=λb o nb e=>by rw [aD nb];exact e
   have k3:(upd H2 kd (.dK (zi.map keyK++[(.inr y,.str "dose")]))) kd=some (.dK (zi.map keyK++[(.inr y,.str "dose")])):=aB;have no3:∀ b,(upd H2 kd (.dK (zi.map keyK++[(.inr y,.str "dose")]))) b=none->H2 b=none:=λb z=>by
    by_cases e:b=kd
    ·rw [e,aB] at z;cases z
    ·rwa [aD e] at z
   generalize upd H2 kd (.dK (zi.map keyK++[(.inr y,.str "dose")]))=H3 at fr3 k3 no3 ⊢;have hq3:=fr3 _ _ (fJ hq1' h4 (by intro z;cases z)) (t2 _ _ hq1');have a3:=fr3 _ _ v5.ak (t2 _ _ h1);have hh3:=fr3 _ _ v5.hk (t2 _ _ h2);have l3:=fr3 _ _ (Au v5.kl) (t2 _ _ h5);have d3:=fr3 _ _ (Au v5.kd') (t2 _ _ h7);intro dn hdn;have dn0:H dn=none:=no1 _ (same_none t2 (no3 _ hdn));have t4:=Same.upd (o:=.dK []) hdn;have dn4:(upd H3 dn (.dK [])) dn=some (.dK []):=aB;have dnN:∀ {b:Addr} {o:HO},H3 b=some o->dn≠b:=λ{b o} e z=>by rw [z,e] at hdn;cases hdn
   generalize upd H3 dn (.dK [])=H4 at t4 dn4 ⊢;refine ⟨_,rfl,a,_,rfl,dg (t4 _ _ a3) bQ,q,_,_,rfl,SqT.of (t4 _ _ hq3),rfl,hd,_,rfl,DPut.k (k:=As y) (t4 _ _ hh3) smX,?_⟩;have eX:putK (zi.map keyX) (As y) (.ref dn)=(zi++[(Th.ves y "dose",dn)]).map keyX:=by
    have z:=cH (kvs:=zi.map keyX) (k:=As y) (.ref dn) (eN (φ:=λe=>.ref e.2) hy);rw [z,AC];rfl
   rw [eX];have fr5:∀ b o,b≠hd->H4 b=some o->(upd H4 hd (.dK ((zi++[(Th.ves y "dose",dn)]).map keyX))) b=some o:=λb o nb e=>by rw [aD nb];exact e
   have hh5:(upd H4 hd (.dK ((zi++[(Th.ves y "dose",dn)]).map keyX))) hd=some (.dK ((zi++[(Th.ves y "dose",dn)]).map keyX)):=aB;generalize upd H4 hd (.dK ((zi++[(Th.ves y "dose",dn)]).map keyX))=H5 at fr5 hh5 ⊢;have qh:q≠hd:=fJ hq3 hh3 (by intro z;cases z);have hq5:=fr5 _ _ qh (t4 _ _ hq3);have up:∀ b o,b≠hd->b≠kd->H1 b=some o->H5 b=some o:=λb o n1 n2 e=>fr5 b o n1 (t4 _ _ (fr3 b o n2 (t2 _ _ e)));have kpF:KpL (La a hd kd ls dd zi) H H5:=λb o nb e=>up b o (λz=>nb (Af _ (by rw [z];simp))) (λz=>nb (Af _ (by rw [z];simp))) (kp1 b o nb e);have dnh:dn≠hd:=dnN hh3;refine ⟨_,rfl,q,_,_,rfl,SqT.of hq5,rfl,q,_,_,rfl,SqT.of hq5,rfl,q,_,_,rfl,SqT.of hq5,rfl,pourC _ E s y "dose" m (zi++[(Th.ves y "dose",dn)]) H5 pa (.inr rfl) (by rw [if_neg hy,AC];rfl) ⟨fr5 _ _ v5.ah (t4 _ _ a3),hh5,λe he=>?_,?_,⟨lk,lks,fr5 _ _ (Au v5.hl) (t4 _ _ l3),h6,h6l,⟨λx l hx=>h6v.v x l ?_,λx hx=>by obtain ⟨u,hu,q⟩:=h6v.m x hx;exact ⟨u,by rw [AC];exact Af _ hu,q⟩⟩⟩,fr5 _ _ (Au v5.hd') (t4 _ _ d3),h8,?_⟩ kpF (λe he=>?_) k⟩
   ·rcases Aj.mp he with he|he
    ·exact (h3 e he).keep λo z=>up _ _ (v5.o e he).2.1 (v5.o e he).2.2.1 z
    ·rw [Am.mp he]
     exact ⟨[],[],fr5 _ _ dnh dn4,⟨.nil,(λ_ h=>absurd h Ag),λ_ _=>rfl⟩,λ_=>Iff.rfl⟩
   ·rw [AC]
    exact fr5 _ _ (Au v5.hk) (t4 _ _ k3)
   ·obtain ⟨u,hu,ux,uk,ul⟩:=hx
    rw [AC] at hu
    rcases Aj.mp hu with hu|hu
    ·exact ⟨u,hu,ux,uk,ul⟩
    ·rw [Am.mp hu] at ul
     cases ul
   ·rw [AC,<- DC]
    refine AN.mpr ⟨B.s.nda,Bz (λ_ h=>absurd h Ag) .nil,λb hb c hc z=>?_⟩;rw [Am.mp hc] at z;exact B.s.allo b hb (by rw [z];exact dn0)
   ·rcases Aj.mp he with he|he
    ·exact .inl (Ai he)
    ·rw [Am.mp he];exact .inr dn0
end
def kM {α:Type}{xs:List α}{e:Int}(h0:0<=e)(h:e<(xs.length:Int)):∃ x,atI xs e=some x/\x∈xs:=by
 obtain ⟨n,rfl⟩:=Dw h0;have hn:n<xs.length:=by omega
 exact ⟨xs[n],iK (Al hn),CN hn⟩
def lM (K:Aa):Sp:=λvs H Q _=>∃ (kp:Addr) (ss:List Str) (n:Int),vs=[.ref kp,.int n]/\SqL K H kp (ss.map V.str)/\(∀ x∈ss,Wr x)/\ss.length<=100/\0<=n/\∀ (x:Str) (n':Int) p H',0<=n'->Wr x->Same H H'->H' p=some (.tup [.str x,.int n'])->Q (.ref p) H'
def CanB (n:Nat)(M:Int)(zs:List Th)(today:Int)(d:Dd):Prop:=∃ M' zs' today',Stp n M zs today d M' zs' today'
def DdF:Dd->Prop
 |.take x w m l=>Wr x/\Wr w/\1<=m/\m<=1000000/\0<=l/\l<=1000000
 |.go d=>0<=d/\d<=1000000
 |.pour _ y m=>Wr y/\1<=m/\m<=1000000
 |.give _ y m=>Wr y/\1<=m/\m<=1000000
def aA5:Sp:=λvs H Q _=>∃ a hd kd ls dd big F today n ds zi,∃ (d:Dd) (q:Addr),vs=[.ref a,.ref q]/\LG H a hd kd ls dd big F today n ds zi/\H q=some (.tup d.row)/\DdF d/\n+1<=52/\∀ b H',Same H H'->(b=true->CanB n F (zi.map (·.1)) today d)->Q (.bl b) H'
section
variable {P:AE}{w:World}{K:Aa}{mg:Str->Option Value}{base:Heap}
def lV:FnScope ["_law_known","_law_left","_law_at"] ["_law_known","_law_left"] (aG sNameBy):=fnScOk (by decide +kernel)
def uK {f:Addr}{fd:Bj}(F:Fun K "_law_name_by" "_law_name_by" sNameBy f fd)(T:Txt mg)(cW:Cal P w K mg base CX0 1 "_law_word_by" ["_law_left"] pW):FnOk P w K mg base CX0 2 f fd ["_law_known","_law_left"] (lM K):=by
 refine F.ok lV (λvs H Q E h=>?_) (λcdv A outer s0 H vs Q E hr h=>?_)
 ·obtain ⟨_,_,_,rfl,_⟩:=h
  rfl
 ·obtain ⟨kp,ss,n,rfl,hk,hw,hl,n0,k⟩:=h
  refine ⟨_,(aC (aT (i:=2) lV.nd rfl (Or.inl rfl) (aM bK (pv 1) (aM cZ (aS bA rfl T.len Be (aA (pv 0) aE)) aH)))
   (aC (aT (i:=1) lV.nd rfl (Or.inl rfl) (aM bB (pv 1) (aM cZ (aS bA rfl T.len Be (aA (pv 0) aE)) aH)))
   (aC (bC (aP jO (pv 2) (aS bA rfl T.len Be (aA (pv 0) aE)) (aU _)) (aF (aK (bF (aA (cR dO (pv 0) (pv 2) (λ_ _=>rfl)) (aA (pv 1) aE))))) aQ)
   (aF (aK (aV cW hr rfl aR (aA (pv 1) aE))))))),?_⟩
  refine cut4 ?_
  intros
  have lp:(0:Int)<((ss.map V.str).length:Int)+1:=by omega
  have hm:=bN n lp;have dn:=DV n0 (show 0<=((ss.map V.str).length:Int)+1 by omega);refine ⟨_,rfl,_,rfl,kp,_,rfl,.inl hk,_,_,rfl,rfl,_,_,rfl,rfl,lp,?_⟩;refine ⟨_,rfl,_,rfl,kp,_,rfl,.inl hk,_,_,rfl,rfl,_,_,rfl,rfl,⟨lp,(eE 64 (c:=1000) (by omega) (by rw [Ab];omega)).mono (by decide)⟩,?_⟩;refine ⟨_,rfl,_,rfl,kp,_,rfl,.inl hk,_,_,rfl,rfl,_,rfl,ite2 (λhc=>?_) (λhc=>?_)⟩
  ·obtain ⟨v,hv,mv⟩:=kM (xs:=ss.map V.str) hm.1 (of_decide_eq_true hc)
   obtain ⟨x,mx,rfl⟩:=An.mp mv;exact ⟨_,rfl,_,rfl,kp,_,_,_,rfl,rfl,hk,hv,_,rfl,zLn2,λp hp=>k x _ p _ dn (hw x mx) (Same.upd hp) aB⟩
  ·exact ⟨_,rfl,_,rfl,dn,λx n' p H' h1 h2 s h3=>k x n' p H' h1 h2 s h3⟩
end
section
variable {P:AE}{w:World}{K:Aa}{mg:Str->Option Value}{base:Heap}
def aD6:FnScope ["_law_here","_law_deed","_law_kinds"] ["_law_here","_law_deed"] (aG sCan):=fnScOk (by decide +kernel)
def aE2 (F:Fun K "_law_can" "_law_can" sCan f fd)(cF:Cal P w K mg base CX0 1 "_law_fresh" ["_law_here","_law_name"] lO)(cT:Cal P w K mg base CX0 1 "_law_total" ["_law_here","_law_name"] nI):FnOk P w K mg base CX0 2 f fd ["_law_here","_law_deed"] aA5:=by
 refine F.ok aD6 (λvs H Q E h=>?_) (λcdv A outer s0 H vs Q E hr h=>?_)
 ·obtain ⟨_,_,_,_,_,_,_,_,_,_,_,_,_,rfl,_⟩:=h
  rfl
 ·obtain ⟨a,hd,kd,ls,dd,big,Fn,today,n,ds,zi,d,q,rfl,B,hq,df,n1,k⟩:=h
  refine ⟨_,(aC (aT (i:=2) aD6.nd rfl (Or.inl rfl) (aI (aO hr) (pv 0) aJ (λ_ _=>rfl)))
   (aC (bC (aP dN (pit 1 0) aJ (aU _)) (aF (aK (dM aEq (pit 1 1) (aI (aO hr) (pv 0) aJ (λ_ _=>rfl)) (aU _)))) aQ)
   (aC (bC (aP dN (pit 1 0) aJ (aU _)) (aF (aK (tX (fT (aO hr) (pit 1 1) (pv 2))))) aQ)
   (aC (bC (PW.pt (jJ (aP dN (jB (aO hr) (pv 2) (pit 1 1) aJ ⟨rfl,rfl,rfl,rfl⟩) aJ (aU _)) (gG (eC (cU (aV cF hr rfl aR (aA (pv 0) (aA (pit 1 1) aE)))))))) (aF (aK gF)) aQ)
   (aC (bC (PW.pt (jJ (aP jO (aV cT hr rfl aR (aA (pv 0) (aA (pit 1 1) aE))) (pit 1 3) (aU _)) (gG (aP dN (pit 1 1) (pit 1 2) (aU _))))) (aF (aK gF)) aQ)
   (aF (aK (aGj (tX (fT (aO hr) (pit 1 2) (pv 2))) (iN (iO (dM dN (pit 1 0) aJ (aU _)) (iN (dM dN (aI (aO hr) (pv 2) (pit 1 2) (λ_ _=>rfl)) aJ (aU _))))))))))))),?_⟩
  refine cut6 ?_
  intros
  have nd:=B.g.nd;have no:∀ {x z:Str},x≠z->decide (V.str x=V.str z)=false:=λh=>decide_eq_false λq=>h (V.str.inj q);refine ⟨_,rfl,a,_,rfl,dg B.s.ha cJ,?_⟩;cases d with
  |go d'=>
   have sq:SqT K H q [.str "go",.int d']:=SqT.of hq;refine ⟨q,_,_,rfl,sq,rfl,rfl,_,rfl,?_⟩;rw [decide_eq_true rfl];exact iteT ⟨q,_,_,rfl,sq,rfl,_,rfl,a,_,rfl,dg B.s.ha fG,_,_,rfl,rfl,k _ _ (Same.refl _) λhb=>⟨_,_,_,.go (by have:d' ≥ today:=of_decide_eq_true hb;omega) df.1 df.2⟩⟩
  |take x wr m l=>
   have sq:SqT K H q [.str "take",.str x,.str wr,.int m,.int l]:=SqT.of hq;refine ⟨q,_,_,rfl,sq,rfl,rfl,_,rfl,?_⟩;rw [no (by decide +kernel)];refine iteF ⟨q,_,_,rfl,sq,rfl,rfl,_,rfl,?_⟩;rw [decide_eq_true rfl];refine iteT ⟨q,_,_,rfl,sq,rfl,_,rfl,kd,_,rfl,DGet.k (k:=.inr x) B.s.hk,k _ _ (Same.refl _) λhb=>⟨_,_,_,.take df.1 df.2.1 (λz=>?_) df.2.2.1 df.2.2.2.1 df.2.2.2.2.1 df.2.2.2.2.2⟩⟩;obtain ⟨t,ht,rfl⟩:=An.mp z;obtain ⟨e,he,rfl⟩:=An.mp ht;rw [LS.getK nd he] at hb;cases hb
  |pour x y m=>
   have sq:SqT K H q [.str "pour",.str x,.str y,.int m]:=SqT.of hq;refine ⟨q,_,_,rfl,sq,rfl,rfl,_,rfl,?_⟩;rw [no (by decide +kernel)];refine iteF ⟨q,_,_,rfl,sq,rfl,rfl,_,rfl,?_⟩;rw [no (by decide +kernel)];refine iteF ⟨_,rfl,kd,rfl,.inl ⟨_,.inl B.s.hk⟩,q,_,_,rfl,sq,rfl,_,DGet.k (k:=.inr x) B.s.hk,?_⟩
   by_cases hx:x∈(zi.map (·.1)).map Th.x
   ·obtain ⟨t,ht,ex⟩:=An.mp hx
    obtain ⟨e,he,rfl⟩:=An.mp ht;subst ex;rw [LS.getK nd he];refine ⟨rfl,_,rfl,ite2 (λhc=>k false _ (Same.refl _) (λz=>by cases z)) (λhc=>?_)⟩;have ndo:e.1.k ≠ "dose":=λz=>hc (decide_eq_true (by rw [z];rfl));refine ⟨_,rfl,q,_,_,rfl,sq,rfl,a,hd,kd,ls,dd,big,Fn,today,n,zi,e,rfl,B.lr,he,λb H1 s1 hf=>⟨_,rfl,?_⟩⟩;cases b with
    |false=>exact iteT (k false _ s1 (λz=>by cases z))
    |true=>
     refine iteF ⟨_,rfl,q,_,_,rfl,s1.tup sq,rfl,a,hd,kd,ls,dd,big,Fn,today,n,ds,zi,e,rfl,B.same s1,he,λH2 s2=>?_⟩;have s12:=s1.trans s2;have sq1:=s12.tup sq;have B1:=B.same s12;refine ⟨q,_,_,rfl,sq1,rfl,_,_,rfl,rfl,_,rfl,ite2 (λ_=>k false _ s12 (λz=>by cases z)) (λhlt=>?_)⟩;refine ⟨q,_,_,rfl,sq1,rfl,q,_,_,rfl,sq1,rfl,rfl,_,rfl,ite2 (λ_=>k false _ s12 (λz=>by cases z)) (λhne=>?_)⟩;have mT:m<=e.1.T:=by
      have:¬ e.1.T<m:=λz=>hlt (decide_eq_true z);omega
     have ne:y≠e.1.x:=λz=>hne (decide_eq_true (by rw [z]));have pa:PoA (zi.map (·.1)) e.1 y m today n:=⟨ht,ndo,df.1,ne,df.2.1,mT,df.2.2,(hf rfl).2,n1⟩;have s13:=s12;refine ⟨q,_,_,rfl,sq1,rfl,_,rfl,kd,_,rfl,DGet.k (k:=.inr y) B1.s.hk,?_⟩
     by_cases hy:y∈(zi.map (·.1)).map Th.x
     ·have vs:(valV (zi.map keyK) (As y)).isSome=true:=by
       obtain ⟨t,ht,ey⟩:=An.mp hy;obtain ⟨g,hg,rfl⟩:=An.mp ht;rw [<- ey,LS.getK nd hg];rfl
      rw [vs];refine ⟨_,rfl,iteF ⟨q,_,_,rfl,sq1,rfl,rfl,_,rfl,?_⟩⟩;obtain ⟨t,ht,ey⟩:=An.mp hy;obtain ⟨g,hg,rfl⟩:=An.mp ht;subst ey;rw [decide_eq_true rfl];refine iteT ⟨_,rfl,q,_,_,rfl,sq1,rfl,kd,_,rfl,dg B1.s.hk (LS.getK nd hg),rfl,k _ _ s13 λhb=>⟨_,_,_,.pour pa λz hz ez=>?_⟩⟩;rw [kN nd hz ht ez];exact V.str.inj (of_decide_eq_true hb)
     ·have vn:(valV (zi.map keyK) (As y)).isSome=false:=by rw [show valV (zi.map keyK) (As y)=none from eN (φ:=λe=>.str e.1.k) hy];rfl
      rw [vn];exact ⟨_,rfl,iteT (k _ _ s13 λ_=>⟨_,_,_,.pour pa λz hz ez=>absurd (ez▸Ai (f:=Th.x) hz) hy⟩)⟩
   ·rw [show valV (zi.map keyK) (As x)=none from eN (φ:=λe=>.str e.1.k) hx]
    refine ⟨rfl,_,rfl,?_⟩;rw [show decide ((none:Option V).getD (.str "dose")=V.str "dose")=true from decide_eq_true rfl];exact iteT (k false _ (Same.refl _) (λz=>by cases z))
  |give x y m=>
   have sq:SqT K H q [.str "give",.str x,.str y,.int m]:=SqT.of hq;refine ⟨q,_,_,rfl,sq,rfl,rfl,_,rfl,?_⟩;rw [no (by decide +kernel)];refine iteF ⟨q,_,_,rfl,sq,rfl,rfl,_,rfl,?_⟩;rw [no (by decide +kernel)];refine iteF ⟨_,rfl,kd,rfl,.inl ⟨_,.inl B.s.hk⟩,q,_,_,rfl,sq,rfl,_,DGet.k (k:=.inr x) B.s.hk,?_⟩
   by_cases hx:x∈(zi.map (·.1)).map Th.x
   ·obtain ⟨t,ht,ex⟩:=An.mp hx
    obtain ⟨e,he,rfl⟩:=An.mp ht;subst ex;rw [LS.getK nd he];refine ⟨rfl,_,rfl,ite2 (λhc=>k false _ (Same.refl _) (λz=>by cases z)) (λhc=>?_)⟩;have ndo:e.1.k ≠ "dose":=λz=>hc (decide_eq_true (by rw [z];rfl));refine ⟨_,rfl,q,_,_,rfl,sq,rfl,a,hd,kd,ls,dd,big,Fn,today,n,zi,e,rfl,B.lr,he,λb H1 s1 hf=>⟨_,rfl,?_⟩⟩;cases b with
    |false=>exact iteT (k false _ s1 (λz=>by cases z))
    |true=>
     refine iteF ⟨_,rfl,q,_,_,rfl,s1.tup sq,rfl,a,hd,kd,ls,dd,big,Fn,today,n,ds,zi,e,rfl,B.same s1,he,λH2 s2=>?_⟩;have s12:=s1.trans s2;have sq1:=s12.tup sq;have B1:=B.same s12;refine ⟨q,_,_,rfl,sq1,rfl,_,_,rfl,rfl,_,rfl,ite2 (λ_=>k false _ s12 (λz=>by cases z)) (λhlt=>?_)⟩;refine ⟨q,_,_,rfl,sq1,rfl,q,_,_,rfl,sq1,rfl,rfl,_,rfl,ite2 (λ_=>k false _ s12 (λz=>by cases z)) (λhne=>?_)⟩;have mT:m<=e.1.T:=by
      have:¬ e.1.T<m:=λz=>hlt (decide_eq_true z);omega
     have ne:y≠e.1.x:=λz=>hne (decide_eq_true (by rw [z]));have pa:PoA (zi.map (·.1)) e.1 y m today n:=⟨ht,ndo,df.1,ne,df.2.1,mT,df.2.2,(hf rfl).2,n1⟩;have s13:=s12;refine ⟨q,_,_,rfl,sq1,rfl,_,rfl,kd,_,rfl,DGet.k (k:=.inr y) B1.s.hk,?_⟩
     by_cases hy:y∈(zi.map (·.1)).map Th.x
     ·have vs:(valV (zi.map keyK) (As y)).isSome=true:=by
       obtain ⟨t,ht,ey⟩:=An.mp hy;obtain ⟨g,hg,rfl⟩:=An.mp ht;rw [<- ey,LS.getK nd hg];rfl
      rw [vs];refine ⟨_,rfl,iteF ⟨q,_,_,rfl,sq1,rfl,rfl,_,rfl,?_⟩⟩;obtain ⟨t,ht,ey⟩:=An.mp hy;obtain ⟨g,hg,rfl⟩:=An.mp ht;subst ey;rw [no (by decide +kernel)];exact iteF (k _ _ s13 λhb=>by cases hb)
     ·have vn:(valV (zi.map keyK) (As y)).isSome=false:=by rw [show valV (zi.map keyK) (As y)=none from eN (φ:=λe=>.str e.1.k) hy];rfl
      rw [vn];exact ⟨_,rfl,iteT (k _ _ s13 λ_=>⟨_,_,_,.give pa hy⟩)⟩
   ·rw [show valV (zi.map keyK) (As x)=none from eN (φ:=λe=>.str e.1.k) hx]
    refine ⟨rfl,_,rfl,?_⟩;rw [show decide ((none:Option V).getD (.str "dose")=V.str "dose")=true from decide_eq_true rfl];exact iteT (k false _ (Same.refl _) (λz=>by cases z))
end
theorem e6:(10:Int)^Dl 6=1000000:=by decide +kernel
def sS:Sp:=λvs H Q _=>∃ a hd kd ls dd big F today n ds zi,∃ c:Int,vs=[.ref a,.int c]/\LG H a hd kd ls dd big F today n ds zi/\∀ (d:Dd) q H',Same H H'->H' q=some (.tup d.row)->DdF d->Q (.ref q) H'
section
variable {P:AE}{w:World}{K:Aa}{mg:Str->Option Value}{base:Heap}
def eP:FnScope ["_law_here","_law_cell","_law_known","_law_way","_law_left","_law_name","_law_ware","_law_one","_law_other"] ["_law_here","_law_cell"] (aG sTold):=fnScOk (by decide +kernel)
def aBy (F:Fun K "_law_told_deed" "_law_told_deed" sTold f fd)(T:Txt mg)(cW:Cal P w K mg base CX0 2 "_law_word_by" ["_law_left"] pW)(cN:Cal P w K mg base CX0 2 "_law_name_by" ["_law_known","_law_left"] (lM K)):FnOk P w K mg base CX0 3 f fd ["_law_here","_law_cell"] sS:=by
 refine F.ok eP (λvs H Q E h=>?_) (λcdv A outer s0 H vs Q E hr h=>?_)
 ·obtain ⟨_,_,_,_,_,_,_,_,_,_,_,_,rfl,_⟩:=h
  rfl
 ·obtain ⟨a,hd,kd,ls,dd,big,Fn,today,n,ds,zi,c,rfl,B,k⟩:=h
  refine ⟨_,(aC (aT (i:=2) eP.nd rfl (Or.inl rfl) (aS (dG rfl) rfl T.sorted' DQ (aA (aI (aO hr) (pv 0) aJ (λ_ _=>rfl)) aE)))
   (aC (aT (i:=3) eP.nd rfl (Or.inl rfl) (aM bK (aS mV rfl T.abs' wH (aA (pv 1) aE)) aH))
   (aC (aT (i:=4) eP.nd rfl (Or.inl rfl) (aM bB (aS mV rfl T.abs' wH (aA (pv 1) aE)) aH))
   (aC (bC (aP dN (pv 3) aH (aU _)) (aF (aK (bF (aA aJ (aA (aM bK (pv 4) aH) aE))))) aQ)
   (aC (bC (aP dN (pv 3) aH (aU _))
    (aC (nQ (aV cW hr rfl aR (aA (pv 4) aE)) (kW rfl (dF (aY (i:=5) eP.nd rfl (Or.inl rfl)) (dF (aY (i:=4) eP.nd rfl (Or.inl rfl)) iC))))
    (aC (nQ (aV cW hr rfl aR (aA (pv 4) aE)) (kW rfl (dF (aY (i:=6) eP.nd rfl (Or.inl rfl)) (dF (aY (i:=4) eP.nd rfl (Or.inl rfl)) iC))))
    (aF (aK (bF (aA aJ (aA (pv 5) (aA (pv 6) (aA (aM cZ aH (aM bK (pv 4) (aM iE aH aH))) (aA (aM bK (aM bB (pv 4) (aM iE aH aH)) aH) aE)))))))))) aQ)
   (aC (nQ (aV cN hr rfl aR (aA (pv 2) (aA (pv 4) aE))) (kW rfl (dF (aY (i:=7) eP.nd rfl (Or.inl rfl)) (dF (aY (i:=4) eP.nd rfl (Or.inl rfl)) iC))))
   (aC (bC (aP dN (pv 3) aH (aU _))
    (aC (nQ (aV cN hr rfl aR (aA (pv 2) (aA (pv 4) aE))) (kW rfl (dF (aY (i:=8) eP.nd rfl (Or.inl rfl)) (dF (aY (i:=4) eP.nd rfl (Or.inl rfl)) iC))))
    (aF (aK (bF (aA aJ (aA (pv 7) (aA (pv 8) (aA (aM cZ aH (aM bK (pv 4) (aM iE aH aH))) aE)))))))) aQ)
   (aC (nQ (aV cW hr rfl aR (aA (pv 4) aE)) (kW rfl (dF (aY (i:=8) eP.nd rfl (Or.inl rfl)) (dF (aY (i:=4) eP.nd rfl (Or.inl rfl)) iC))))
   (aF (aK (bF (aA aJ (aA (pv 7) (aA (pv 8) (aA (aM cZ aH (aM bK (pv 4) (aM iE aH aH))) aE))))))))))))))),?_⟩
  refine cut9 ?_
  intros
  have nd:=B.g.nd;have zl:=B.g.ln;have n60:=B.g.n60;rw [Ab] at zl;have dkk:=vA nd;have a0:=aAr c;have p0:(0:Int)<(10:Int)^Dl 6:=by rw [e6];decide
  refine ⟨_,rfl,a,_,rfl,dg B.s.ha cJ,kd,_,_,rfl,B.s.hk,dkk.keys,by rw [Ab];omega,λpn ss pm so hpn=>?_⟩;have t1:=Same.upd (o:=.lst (ss.map V.str)) hpn;have hn1:(upd H pn (.lst (ss.map V.str))) pn=some (.lst (ss.map V.str)):=aB;generalize upd H pn (.lst (ss.map V.str))=H1 at t1 hn1 ⊢;have sl:=pm.length_eq;rw [Ab,Ab] at sl;have wss:∀ x∈ss,Wr x:=λx hx=>by
   obtain ⟨z,hz,rfl⟩:=An.mp (pm.mem_iff.mp hx);exact (B.g.ok z hz).wr
  have l0:=DV a0 (show (0:Int)<=4 by decide);refine ⟨_,rfl,c,rfl,_,_,rfl,rfl,(by show (0:Int)<4;decide),_,rfl,c,rfl,_,_,rfl,rfl,⟨by decide,b9⟩,?_⟩;have q0:∀ z:Int,1<=1+z%(10:Int)^Dl 6/\1+z%(10:Int)^Dl 6<=1000000:=λz=>by
   have:=bN z (m:=1000000) (by decide);rw [e6];omega
  refine ⟨_,rfl,rfl,_,rfl,ite2 (λ_=>?_) (λ_=>⟨_,rfl,rfl,_,rfl,ite2 (λ_=>?_) (λ_=>?_)⟩)⟩
  ·refine ⟨_,rfl,_,_,rfl,rfl,(by show (0:Int)<1000001;decide),zLn2,λq hq=>?_⟩
   have e:=bN ((if c<0 then -c else c)/4) (m:=1000001) (by decide);exact k (.go ((if c<0 then -c else c)/4%1000001)) q _ (t1.trans (Same.upd hq)) aB ⟨e.1,by omega⟩
  ·refine ⟨_,rfl,_,rfl,l0,λx n2 p H2 n20 wx s2 hp2=>?_⟩
   refine ⟨p,_,rfl,SqT.of hp2,rfl,_,_,rfl,_,_,rfl,rfl,?_⟩;refine ⟨_,rfl,_,rfl,n20,λwr n3 p3 H3 n30 ww s3 hp3=>?_⟩;refine ⟨p3,_,rfl,SqT.of hp3,rfl,_,_,rfl,_,_,rfl,rfl,?_⟩;refine ⟨_,rfl,_,rfl,_,rfl,_,_,rfl,rfl,⟨by decide,by decide,bk⟩,_,_,rfl,rfl,p0,_,_,rfl,rfl,_,rfl,_,_,rfl,rfl,⟨by decide,by decide,bk⟩,_,_,rfl,rfl,⟨p0,by rw [e6];exact b9⟩,_,_,rfl,rfl,(by show (0:Int)<1000001;decide),zLn5,λq hq=>?_⟩;have e:=bN (n3/(10:Int)^Dl 6) (m:=1000001) (by decide);exact k (.take x wr (1+n3%(10:Int)^Dl 6) (n3/(10:Int)^Dl 6%1000001)) q _ ((t1.trans (s2.trans s3)).trans (Same.upd hq)) aB ⟨wx,ww,(q0 n3).1,(q0 n3).2,e.1,by omega⟩
  ·refine ⟨_,rfl,_,rfl,pn,ss,_,rfl,SqL.of hn1,wss,by omega,l0,λx n2 p H2 n20 wx s2 hp2=>?_⟩
   refine ⟨p,_,rfl,SqT.of hp2,rfl,_,_,rfl,_,_,rfl,rfl,?_⟩;refine ⟨_,rfl,rfl,_,rfl,ite2 (λ_=>?_) (λ_=>?_)⟩
   ·refine ⟨_,rfl,_,rfl,pn,ss,_,rfl,SqL.of (s2 _ _ hn1),wss,by omega,n20,λy n3 p3 H3 n30 wy s3 hp3=>?_⟩
    refine ⟨p3,_,rfl,SqT.of hp3,rfl,_,_,rfl,_,_,rfl,rfl,?_⟩;refine ⟨_,rfl,_,rfl,_,rfl,_,_,rfl,rfl,⟨by decide,by decide,bk⟩,_,_,rfl,rfl,p0,_,_,rfl,rfl,zLn4,λq hq=>?_⟩;exact k (.pour x y (1+n3%(10:Int)^Dl 6)) q _ ((t1.trans (s2.trans s3)).trans (Same.upd hq)) aB ⟨wy,(q0 n3).1,(q0 n3).2⟩
   ·refine ⟨_,rfl,_,rfl,n20,λy n3 p3 H3 n30 wy s3 hp3=>?_⟩
    refine ⟨p3,_,rfl,SqT.of hp3,rfl,_,_,rfl,_,_,rfl,rfl,?_⟩;refine ⟨_,rfl,_,rfl,_,rfl,_,_,rfl,rfl,⟨by decide,by decide,bk⟩,_,_,rfl,rfl,p0,_,_,rfl,rfl,zLn4,λq hq=>?_⟩;exact k (.give x y (1+n3%(10:Int)^Dl 6)) q _ ((t1.trans (s2.trans s3)).trans (Same.upd hq)) aB ⟨wy,(q0 n3).1,(q0 n3).2⟩
end
def tF (K:Aa):Sp:=λvs H Q _=>∃ a hd kd ls dd big F today n ds zi,∃ (nm:Addr) (ws:List Str) (c:Int),vs=[.ref a,.ref nm,.int c]/\LG H a hd kd ls dd big F today n ds zi/\SqL K H nm (ws.map V.str)/\ws.length=8/\(∀ x∈ws,Wr x)/\0<=c/\c<2147483587/\0<=today/\today<=2*(n:Int)/\n+1<=52 /\
 ∀ (d:Dd) q H' M' zs' today',Same H H'->H' q=some (.tup d.row)->Stp n F (zi.map (·.1)) today d M' zs' today'->today'<=2*((n:Int)+1)->Q (.ref q) H'
def sX (K:Aa):Sp:=λvs H Q _=>∃ a hd kd ls dd big F today n ds zi,∃ (nm:Addr) (ws:List Str) (o c:Int) (b:Bool),vs=[.ref a,.ref nm,.int o,.int c,.bl b]/\LG H a hd kd ls dd big F today n ds zi/\SqL K H nm (ws.map V.str)/\ws.length=8/\(∀ x∈ws,Wr x)/\0<=c/\(b=false->c<2147483587)/\0<=today/\today<=1000000/\(b=false->today<=2*(n:Int))/\n+1<=52 /\
 ∀ (d:Dd) q H' M' zs' today',Same H H'->H' q=some (.tup d.row)->Stp n F (zi.map (·.1)) today d M' zs' today'->(b=false->today'<=2*((n:Int)+1))->Q (.ref q) H'
section
variable {P:AE}{w:World}{K:Aa}{mg:Str->Option Value}{base:Heap}
def zV:FnScope ["_law_here","_law_names_here","_law_own","_law_cell","_law_by_digits","_law_deed"] ["_law_here","_law_names_here","_law_own","_law_cell","_law_by_digits"] (aG sNext):=fnScOk (by decide +kernel)
def aB7 (F:Fun K "_law_next" "_law_next" sNext f fd)(cG:Cal P w K mg base CX0 3 "_law_good" ["_law_here","_law_names_here","_law_cell"] (tF K))(cT:Cal P w K mg base CX0 3 "_law_told_deed" ["_law_here","_law_cell"] sS)(cC:Cal P w K mg base CX0 3 "_law_can" ["_law_here","_law_deed"] aA5):FnOk P w K mg base CX0 4 f fd ["_law_here","_law_names_here","_law_own","_law_cell","_law_by_digits"] (sX K):=by
 refine F.ok zV (λvs H Q E h=>?_) (λcdv A outer s0 H vs Q E hr h=>?_)
 ·obtain ⟨_,_,_,_,_,_,_,_,_,_,_,_,_,_,_,_,rfl,_⟩:=h
  rfl
 ·obtain ⟨a,hd,kd,ls,dd,big,Fn,today,n,ds,zi,nm,ws,o,c,b,rfl,B,hn,wl,ww,c0,c1,t0,t1,tb,n1,k⟩:=h
  refine ⟨_,(aC (bC (eC (cU (pv 4))) (aF (aK (aV cG hr rfl aR (aA (pv 0) (aA (pv 1) (aA (pv 3) aE)))))) aQ)
   (aC (aT (i:=5) zV.nd rfl (Or.inl rfl) (aV cT hr rfl aR (aA (pv 0) (aA (pv 2) aE))))
   (aC (bC (cU (aV cC hr rfl aR (aA (pv 0) (aA (pv 5) aE)))) (aF (aK (pv 5))) aQ)
   (aF (aK (bF (aA aJ (aA (aI (aO hr) (pv 0) aJ (λ_ _=>rfl)) aE)))))))),?_⟩
  refine cut4 ?_
  intros
  cases b with
  |false=>
   exact ⟨_,rfl,_,rfl,iteT ⟨_,rfl,_,rfl,_,rfl,a,hd,kd,ls,dd,big,Fn,today,n,ds,zi,nm,ws,c,rfl,B,hn,wl,ww,c0,c1 rfl,t0,tb rfl,n1,λd q H' M' zs' today' s hq st le=>k d q H' M' zs' today' s hq st λ_=>le⟩⟩
  |true=>
   refine ⟨_,rfl,_,rfl,iteF ⟨_,rfl,_,rfl,a,hd,kd,ls,dd,big,Fn,today,n,ds,zi,o,rfl,B,λd q H1 s1 hq df=>?_⟩⟩;refine ⟨_,rfl,_,rfl,a,hd,kd,ls,dd,big,Fn,today,n,ds,zi,d,q,rfl,B.same s1,hq,df,n1,λb H2 s2 hb=>⟨_,rfl,?_⟩⟩;cases b with
   |true=>
    obtain ⟨M',zs',today',st⟩:=hb rfl;exact iteT ⟨_,rfl,k d q _ M' zs' today' (s1.trans s2) (s2 _ _ hq) st (λz=>by cases z)⟩
   |false=>
    have B2:=B.same (s1.trans s2);exact iteF ⟨_,rfl,a,_,rfl,dg B2.s.ha fG,zLn2,λr hr'=>k (.go today) r _ _ _ _ ((s1.trans s2).trans (Same.upd hr')) aB (.go (CM _) t0 t1) (λz=>by cases z)⟩
end
end K77
namespace L2
open PySem PySem.Spec PyProof.Rows
def qD {n:Nat}(h:n<=3000):n<AB:=Nat.lt_of_le_of_lt h (by decide)
def vY {β:Type}{J:It}{xs:List V}{D:Addr}{g:TG}{tt:TT}{te:TE}{σ0:St}{QD:Hp->Prop}{H1:Hp}(Y:Ys J xs H1)(rs:List β)(el:xs.length=rs.length)(p:β->Bool)(Pr:β->V->Hp->Prop)(hP:∀ r y H H',Pr r y H->Tk H H'->Pr r y H')(hD:H1 D=none)(hl:xs.length<=3000)
  (hs:∀ (i:Nat) x r H' (R1:VK) (R2:Hp->Prop),xs[i]?=some x->rs[i]?=some r->Same H1 H'->(p r=true->∀ y H4,Same H' H4->Pr r y H4->R1 y H4)->(p r=false->∀ H4,Same H' H4->R2 H4)->g x σ0 H' λσ2 H2=>Keep σ0 σ2/\tt σ2 H2 λb H3=>if b=true then te σ2 H3 R1 else R2 H3)
  (hd:∀ ys H',Same H1 H'->H' D=some (.lst ys)->Paired (λy r=>Pr r y H') ys (rs.filter p)->QD H') :
  ∃ W:Nat->Nat->List V->Hp->Prop,(∃ m,W 0 m [] (upd H1 D (.lst [])))/\∀ i m ys H,W i m ys H->H D=some (.lst ys)/\ys.length<AB /\
   ((J.stop i H/\QD H)\/(J.go i H/\∀ x H',J.yld i H x H'->g x σ0 H' λσ2 H2=>Keep σ0 σ2/\tt σ2 H2 λb H3=>
    if b=true then te σ2 H3 λy H4=>H4 D=some (.lst ys)/\∃ m',m'<m/\W (i+1) m' (ys++[y]) (upd H4 D (.lst (ys++[y]))) else ∃ m',m'<m/\W (i+1) m' ys H3)):=by
 refine ⟨λi m ys H=>m=xs.length-i/\i<=xs.length/\Same H1 H/\H D=some (.lst ys)/\Paired (λy r=>Pr r y H) ys ((rs.take i).filter p),⟨_,rfl,Bv _,Same.upd hD,aB,.nil⟩,?_⟩
 rintro i m ys H ⟨rfl,hi,sm,hDH,pr⟩
 have yl:ys.length<=i:=by
  rw [Paired.length pr];refine AX (BY _ _) ?_;rw [Bn];exact Nat.min_le_left ..
 refine ⟨hDH,qD (by omega),?_⟩
 by_cases hlt:i<xs.length
 ·refine .inr ⟨Y.go i H sm hlt,λx H' y=>?_⟩
  obtain ⟨rfl,hx⟩:=Y.yld i H x H' sm hlt y;obtain ⟨r,hr⟩:∃ r,rs[i]?=some r:=⟨_,Al (by omega)⟩;have et:(rs.take (i+1)).filter p=(rs.take i).filter p++if p r=true then [r] else []:=by
   rw [Ci,hr,Ct]
   congr 1
   show List.filter p [r]=_
   by_cases e:p r=true
   ·rw [if_pos e,CH e];rfl
   ·rw [if_neg e,CI e];rfl
  refine hs i x r H' _ _ hx hr sm (λhp y H4 s4 py=>?_) λhp H4 s4=>?_
  ·have hD4:=s4 _ _ hDH
   have tk:Tk H4 (upd H4 D (.lst (ys++[y]))):=Tk.lst hD4;refine ⟨hD4,xs.length-(i+1),by omega,rfl,hlt,λb o hb=>?_,aB,?_⟩
   ·rw [aD (aX hb hD)]
    exact s4 _ _ (sm _ _ hb)
   ·rw [et,if_pos hp]
    exact Paired.snoc (Paired.mapP pr λ_ _ z=>hP _ _ _ _ (hP _ _ _ _ z (Same.tk s4)) tk) (hP _ _ _ _ py tk)
  ·refine ⟨xs.length-(i+1),by omega,rfl,hlt,sm.trans s4,s4 _ _ hDH,?_⟩
   rw [et,if_neg (by rw [hp];decide),Ck];exact Paired.mapP pr λ_ _ z=>hP _ _ _ _ z (Same.tk s4)
 ·have e:i=xs.length:=by omega
  subst e;rw [el,Bq] at pr;exact .inl ⟨Y.stop _ H sm (Ak _),hd ys H sm hDH pr⟩
def mU {J:It}{xs:List V}{D:Addr}{g:TG}{tt:TT}{te:TE}{σ0:St}{QD:Hp->Prop}{H1:Hp}(Y:Ys J xs H1)(Pr:V->Prop)(hD:H1 D=none)(hl:xs.length<=1000)
  (hs:∀ (i:Nat) x H' (R1:VK) (R2:Hp->Prop),xs[i]?=some x->Same H1 H'->(∀ y H4,Same H' H4->Pr y->R1 y H4)->(∀ H4,Same H' H4->R2 H4)->g x σ0 H' λσ2 H2=>Keep σ0 σ2/\tt σ2 H2 λb H3=>if b=true then te σ2 H3 R1 else R2 H3)
  (hd:∀ ys H',Same H1 H'->H' D=some (.lst ys)->ys.length<=xs.length->(∀ y∈ys,Pr y)->QD H') :
  ∃ W:Nat->Nat->List V->Hp->Prop,(∃ m,W 0 m [] (upd H1 D (.lst [])))/\∀ i m ys H,W i m ys H->H D=some (.lst ys)/\ys.length<AB /\
   ((J.stop i H/\QD H)\/(J.go i H/\∀ x H',J.yld i H x H'->g x σ0 H' λσ2 H2=>Keep σ0 σ2/\tt σ2 H2 λb H3=>
    if b=true then te σ2 H3 λy H4=>H4 D=some (.lst ys)/\∃ m',m'<m/\W (i+1) m' (ys++[y]) (upd H4 D (.lst (ys++[y]))) else ∃ m',m'<m/\W (i+1) m' ys H3)):=by
 refine ⟨λi m ys H=>m=xs.length-i/\i<=xs.length/\Same H1 H/\H D=some (.lst ys)/\ys.length<=i/\∀ y∈ys,Pr y,⟨_,rfl,Bv _,Same.upd hD,aB,Ak _,λy h=>(nomatch h)⟩,?_⟩
 rintro i m ys H ⟨rfl,hi,sm,hDH,yl,pr⟩
 refine ⟨hDH,aW (by omega),?_⟩
 by_cases hlt:i<xs.length
 ·refine .inr ⟨Y.go i H sm hlt,λx H' y=>?_⟩
  obtain ⟨rfl,hx⟩:=Y.yld i H x H' sm hlt y;refine hs i x H' _ _ hx sm (λy H4 s4 py=>?_) λH4 s4=>?_
  ·have hD4:=s4 _ _ hDH
   refine ⟨hD4,xs.length-(i+1),by omega,rfl,hlt,λb o hb=>?_,aB,?_,λz hz=>?_⟩
   ·rw [aD (aX hb hD)]
    exact s4 _ _ (sm _ _ hb)
   ·rw [Az]
    exact Nat.succ_le_succ yl
   ·rcases Aj.mp hz with h|h
    ·exact pr z h
    ·rw [Am.mp h]
     exact py
  ·exact ⟨xs.length-(i+1),by omega,rfl,hlt,sm.trans s4,s4 _ _ hDH,by omega,pr⟩
 ·have e:i=xs.length:=by omega
  subst e;exact .inl ⟨Y.stop _ H sm (Ak _),hd ys H sm hDH yl pr⟩
def seqN {σ:St}(S:St->Hp->Prop)(h:∀ σ' H',S σ' H'->u D σ' H')(g:∀ N:St->Hp->Prop,(∀ σ' H',S σ' H'->N σ' H')->t { D with nx:=N } σ H):tSeq t u D σ H:=g (u D) h
def ifN {t u r:TS}{σ:St}(S:Bool->Hp->Prop)(h:∀ b H',S b H'->if b=true then t { D with nx:=r D } σ H' else u { D with nx:=r D } σ H')(g:∀ C:Bool->Hp->Prop,(∀ b H',S b H'->C b H')->c σ H C):tSeq (tIfS c t u) r D σ H:=g _ h
def aC5 {α:Type}{xs:List α}(h:xs≠[]):∃ x,atI xs (-1)=some x/\x∈xs:=by
 have e:=List.dropLast_concat_getLast h;refine ⟨xs.getLast h,?_,List.getLast_mem h⟩;have:=zJ xs.dropLast (xs.getLast h);rw [e] at this;exact this
def aC1 {xs:List V}{lo hi:Option Int}{v:V}(h:v∈cutV xs lo hi):v∈xs:=List.mem_of_mem_drop (DT h)
end L2
namespace K77
open PySem PySem.Spec PyProof.Rows L2 GM TM
def TOk.T1 {M:Int}{n:Nat}(t:TOk M n z)(M0:0<M)(h:z.ks≠[]):1<=z.T:=by
 have s:=t.sum;obtain ⟨y,ys,e⟩:=List.exists_cons_of_ne_nil h;have le:1<=(z.ks.map z.f).sum:=by
  have a:=t.pos y (by rw [e];exact AO);have b:=gH (f:=z.f) (λx=>by
   by_cases hx:x∈z.ks
   ·have:=t.pos x hx;omega
   ·rw [t.out x hx];exact CM _) (show y∈z.ks by rw [e];exact AO)
  omega
 rw [s] at le
 by_cases c:1<=z.T
 ·exact c
 ·have:z.T=0:=by have:=t.T0;omega
  rw [this,Ca] at le;omega
section
variable {P:AE}{w:World}{K:Aa}{mg:Str->Option Value}{base:Heap}
def ndG1:(["_law_name","_law_here"]:List Str).Nodup:=by decide +kernel
def ndG3:(["_law_name","_law_here","_law_source"]:List Str).Nodup:=by decide +kernel
abbrev zK:List Str:=["_law_here","_law_names_here","_law_cell","_law_some","_law_free","_law_way","_law_most","_law_spoons","_law_source","_law_many","_law_goals"]
def eV:FnScope zK ["_law_here","_law_names_here","_law_cell"] (aG sGood):=fnScOk (by decide +kernel)
def aCf {f:Addr}{fd:Bj}(F:Fun K "_law_good" "_law_good" sGood f fd)(T:Txt mg)(cF:Cal P w K mg base CX0 2 "_law_fresh" ["_law_here","_law_name"] lO)(cT:Cal P w K mg base CX0 2 "_law_total" ["_law_here","_law_name"] nI):FnOk P w K mg base CX0 3 f fd ["_law_here","_law_names_here","_law_cell"] (tF K):=by
 refine F.ok eV (λvs H Q E h=>?_) (λcdv A outer s0 H vs Q E hr h=>?_)
 ·obtain ⟨_,_,_,_,_,_,_,_,_,_,_,_,_,_,rfl,_⟩:=h
  rfl
 ·obtain ⟨a,hd,kd,ls,dd,big,Fn,today,n,ds,zi,nm,ws,c,rfl,B,hn,wl,ww,c0,c1,t0,tb,n1,k⟩:=h
  refine ⟨_,(aC (fQ (gU (iy:=3) (N':=["_law_name","_law_here"]) (λσ=>[none,some 0].map λt=>t.bind λj=>(σ[j]?).join) rfl rfl (by decide +kernel) (by decide +kernel)
     (iF (sc:=aG sGood) rfl (by decide +kernel)) (λ_ _ _=>dR (sc:=aG sGood) (N:=zK) [none,some 0] rfl rfl rfl rfl (by decide +kernel))
     (eI (aI (aO hr) (pv 0) aJ (λ_ _=>rfl))) (λ_ _ _ _ _ _=>aY (i:=0) ndG1 rfl (Or.inl rfl))
     (λ_ _ _ _ _ _=>gB (PW.pt (kR (aP rN (aI (aO hr) (aI (aO hr) (pv 1) aJ (λ_ _=>rfl)) (pv 0) (λ_ _=>rfl)) aJ (aU _)) (jK (cU (aV cF hr rfl aR (aA (pv 1) (aA (pv 0) aE))))))))
     (λ_ _ _ _ _ _=>pv 0) eV.nd rfl (Or.inl rfl) (Or.inr rfl) rfl))
   (aC (gU (iy:=4) (N':=["_law_name","_law_here"]) (λσ=>[none,some 0].map λt=>t.bind λj=>(σ[j]?).join) rfl rfl (by decide +kernel) (by decide +kernel)
     (iF (sc:=aG sGood) rfl (by decide +kernel)) (λ_ _ _=>dR (sc:=aG sGood) (N:=zK) [none,some 0] rfl rfl rfl rfl (by decide +kernel))
     (cK (pv 1)) (λ_ _ _ _ _ _=>aY (i:=0) ndG1 rfl (Or.inl rfl))
     (λ_ _ _ _ _ _=>gB (nP (fT (aO hr) (pv 0) (aI (aO hr) (pv 1) aJ (λ_ _=>rfl)))))
     (λ_ _ _ _ _ _=>pv 0) eV.nd rfl (Or.inl rfl) (Or.inr rfl) rfl)
   (aC (aT (i:=5) eV.nd rfl (Or.inl rfl) (aM bK (pv 2) aH))
   (aC (aT (i:=6) eV.nd rfl (Or.inl rfl) (cR dO (dH (aA aH (aA aH (aA aH aE)))) (aM bK (aM bB (pv 2) aH) aH) (λ_ _=>rfl)))
   (aC (bC (cU (aI (aO hr) (pv 0) aJ (λ_ _=>rfl)))
    (aF (aT (i:=6) eV.nd rfl (Or.inl rfl) (aM cZ (aM bL (pv 6) (pv 6)) aH)))
    aQ)
   (aC (aT (i:=7) eV.nd rfl (Or.inl rfl) (aM cZ aH (aM bK (aM bB (pv 2) aH) (pv 6))))
   (aC (bC (PW.pt (jJ (aP (jP hr.units) (pv 3) (dH aE) (aU _)) (gG (PW.pt (kR (aP jO (pv 5) aH (aU _)) (kR (aP (aAb hr.units) (pv 4) (dH aE) (aU _)) (jK (aP jO (aS sC rfl T.len Be (aA (aI (aO hr) (pv 0) aJ (λ_ _=>rfl)) aE)) aH (aU _)))))))))
    (aC (bC (aP (jP hr.units) (pv 4) (dH aE) (aU _))
     (aF (aK (bF (aA aJ (aA (aI (aO hr) (pv 0) aJ (λ_ _=>rfl)) aE)))))
     aQ)
    (aF (aK (bF (aA aJ (aA (cR dO (pv 4) aH (λ_ _=>rfl)) (aA (cR dO (pv 1) (aM bK (aM bB (pv 2) aH) aH) (λ_ _=>rfl)) (aA (pv 7) (aA (aM cZ (aI (aO hr) (pv 0) aJ (λ_ _=>rfl)) (aM bK (aM bB (pv 2) aH) aH)) aE)))))))))
    aQ)
   (aC (bC (aP dN (pv 5) aH (aU _))
    (aF (aK (bF (aA aJ (aA (aS (hG rfl) rfl T.min' boot_min (aA (aM iE aH aH) (aA (aM cZ (aI (aO hr) (pv 0) aJ (λ_ _=>rfl)) (aM bK (aM bB (pv 2) aH) aH)) aE))) aE)))))
    aQ)
   (aC (aT (i:=8) eV.nd rfl (Or.inr rfl) (cR dO (pv 3) (aM bK (aM bB (pv 2) aH) (aS bA rfl T.len Be (aA (pv 3) aE))) (λ_ _=>rfl)))
   (aC (aT (i:=9) eV.nd rfl (Or.inl rfl) (aM cZ aH (aM bK (aM bB (pv 2) aH) (aV cT hr rfl aR (aA (pv 0) (aA (pv 8) aE))))))
   (aC (bC (aP dN (aM bK (aM bB (pv 2) aH) aH) aH (aU _))
    (aF (aT (i:=9) eV.nd rfl (Or.inl rfl) (aV cT hr rfl aR (aA (pv 0) (aA (pv 8) aE)))))
    aQ)
   (aC (aT (i:=9) eV.nd rfl (Or.inl rfl) (aS (hG rfl) rfl T.min' boot_min (aA (pv 9) (aA (aM iE aH aH) aE))))
   (aC (bC (PW.pt (kR (aP dN (pv 5) aH (aU _)) (jK (aP aEp (aS bA rfl T.len Be (aA (pv 4) aE)) aH (aU _)))))
    (aF (aK (bF (aA aJ (aA (pv 8) (aA (cR dO (pv 4) (aEi zP aH) (λ_ _=>rfl)) (aA (pv 9) aE)))))))
    aQ)
   (aC (fQ (gU (iy:=10) (N':=["_law_name","_law_here","_law_source"]) (λσ=>[none,some 0,some 8].map λt=>t.bind λj=>(σ[j]?).join) rfl rfl (by decide +kernel) (by decide +kernel)
     (iF (sc:=aG sGood) rfl (by decide +kernel)) (λ_ _ _=>dR (sc:=aG sGood) (N:=zK) [none,some 0,some 8] rfl rfl rfl rfl (by decide +kernel))
     (eI (aI (aO hr) (pv 0) aJ (λ_ _=>rfl))) (λ_ _ _ _ _ _=>aY (i:=0) ndG3 rfl (Or.inl rfl))
     (λ_ _ _ _ _ _=>gB (PW.pt (kR (aP dN (aI (aO hr) (aI (aO hr) (pv 1) aJ (λ_ _=>rfl)) (pv 0) (λ_ _=>rfl)) aJ (aU _)) (jK (aP rN (pv 0) (pv 2) (aU _))))))
     (λ_ _ _ _ _ _=>pv 0) eV.nd rfl (Or.inl rfl) (Or.inr rfl) rfl))
   (aC (aT (i:=10) eV.nd rfl (Or.inl rfl) (aM aEt (pv 10) (gW aA7 (pv 4) (gJ aH) (gJ aH))))
   (aC (bC (aP (jP hr.units) (pv 10) (dH aE) (aU _))
    (aF (aK (bF (aA aJ (aA (aI (aO hr) (pv 0) aJ (λ_ _=>rfl)) aE)))))
    aQ)
   (aF (aK (bF (aA aJ (aA (pv 8) (aA (cR dO (pv 10) (aM bK (aM bB (pv 2) aH) (aS bA rfl T.len Be (aA (pv 10) aE))) (λ_ _=>rfl)) (aA (pv 9) aE))))))))))))))))))))))),?_⟩
  refine aGz ?_
  intros
  have nd:=B.g.nd;have zl:=B.g.ln;have n60:=B.g.n60;rw [Ab] at zl;have t1:today<=1000000:=by omega
  have nfz:=jQ B.s.hh;have p0:(0:Int)<(10:Int)^Dl 6:=by rw [e6];decide
  refine ⟨_,rfl,a,_,rfl,dg B.s.ha bQ,hd,_,rfl,B.s.hh,λob D hD=>?_⟩;have nda:=B.s.nda;have n5:=(AN.mp nda).1;simp only [AU,Ae,Ag,or_false,not_or] at n5;have nhk:kd≠hd:=Au n5.2.1.1;have nah:a≠hd:=n5.1.1;refine mU (Ys.dict aB) (λy=>∃ e∈zi,y=.str e.1.x/\e.1.k ≠ "dose" /\ Frs (zi.map λe:Th×Addr=>e.1) e.1 today) hD (by rw [Ab,Ab];omega) (λi y H' R1 R2 hy sm h1 h2=>?_) (λys H5 sm hD5 yl hys=>?_)
  ·rw [Ah] at hy
   obtain ⟨kv,hkv,rfl⟩:=AA.mp hy;rw [Ah] at hkv;obtain ⟨e,hze,rfl⟩:=AA.mp hkv;have he:=Ar hze;have L1:=(B.held ob).same sm;have hk1:H' kd=some (.dK (zi.map keyK)):=sm _ _ (by rw [aD nhk];exact B.s.hk);refine ⟨(Keep.refl _).set rfl,_,rfl,a,_,rfl,dg L1.ha cJ,_,rfl,kd,_,rfl,dg hk1 (LS.getK nd he),rfl,_,rfl,ite2 (λhc=>?_) (λ_=>iteF (h2 _ (Same.refl _)))⟩;have ndo:e.1.k ≠ "dose":=λz=>by
    have:(!decide (V.str e.1.k=V.str "dose"))=true:=hc;rw [z] at this;simp at this
   refine ⟨_,rfl,_,rfl,a,hd,kd,ls,dd,big,Fn,today,n,zi,e,rfl,L1,he,λb H2 s2 hf=>?_⟩;cases b with
   |true=>exact ⟨_,rfl,iteT ⟨_,rfl,h1 _ _ s2 ⟨e,he,rfl,ndo,hf rfl⟩⟩⟩
   |false=>exact ⟨_,rfl,iteF (h2 _ s2)⟩
  ·have Dd:D≠hd:=λz=>by rw [z,aB] at hD;cases hD
   have sF:=eU B.s.hh sm;refine ⟨hd,ob,_,sm _ _ aB,nfz,?_⟩;have hs1:(upd H5 hd (.dK (zi.map keyX))) D=some (.lst ys):=by rw [aD Dd];exact hD5
   have B1:=B.same sF;generalize upd H5 hd (.dK (zi.map keyX))=H1 at sF hs1 B1 ⊢;have hn1:=sF.seq hn;refine ⟨_,rfl,nm,rfl,⟨_,hn1⟩,λD2 hD2=>?_⟩;refine mU (Ys.list (xs:=ws.map V.str) hn1) (λy=>∃ x∈ws,y=.str x/\x∉(zi.map λe:Th×Addr=>e.1).map Th.x) hD2 (by rw [Ab];omega) (λi y H' R1 R2 hy sm2 h1 h2=>?_) (λfs H6 sm2 hD6 fl hfs=>?_)
   ·rw [Ah] at hy
    obtain ⟨x,hx,rfl⟩:=AA.mp hy;have B2:=B1.same sm2;refine ⟨(Keep.refl _).set rfl,_,rfl,_,rfl,a,_,rfl,dg B2.s.ha cJ,kd,_,rfl,DGet.k (k:=.inr x) B2.s.hk,?_⟩
    by_cases hxx:x∈(zi.map λe:Th×Addr=>e.1).map Th.x
    ·have vs:(valV (zi.map keyK) (As x)).isSome=true:=by
      obtain ⟨t,ht,ey⟩:=An.mp hxx;obtain ⟨g,hg,rfl⟩:=An.mp ht;rw [<- ey,LS.getK nd hg];rfl
     rw [vs];exact ⟨_,rfl,iteF (h2 _ (Same.refl _))⟩
    ·have vn:(valV (zi.map keyK) (As x)).isSome=false:=by rw [show valV (zi.map keyK) (As x)=none from eN (φ:=λe=>.str e.1.k) hxx];rfl
     rw [vn];exact ⟨_,rfl,iteT ⟨_,rfl,h1 _ _ (Same.refl _) ⟨x,Ar hx,rfl,hxx⟩⟩⟩
   ·have s6:=sF.trans sm2
    have B6:=B1.same sm2;have hs6:=sm2 _ _ hs1;have hn6:=s6.seq hn;clear hD hD5 sm yl hD2 hs1 hn1 sm2 B1 sF;have m3:=bN (c/8) (m:=3) (by decide);refine ⟨_,rfl,_,_,rfl,rfl,(by show (0:Int)<8;decide),?_⟩;refine ⟨zLn3,λz hz=>?_⟩;have tz:=Same.upd (o:=.lst [.int 12,.int 60,.int 900]) hz;obtain ⟨v,hv,mv⟩:=kM (xs:=[V.int 12,.int 60,.int 900]) m3.1 m3.2;refine ⟨_,rfl,_,_,rfl,rfl,⟨by decide,b9⟩,_,_,rfl,rfl,(by show (0:Int)<3;decide),z,_,_,_,rfl,rfl,SqL.of aB,hv,?_⟩;obtain ⟨mo,rfl,mo1,mo2⟩:∃ mo:Int,v=.int mo/\12<=mo/\mo<=900:=by
     simp only [Ae,Ag,or_false] at mv
     rcases mv with rfl|rfl|rfl
     ·exact ⟨12,rfl,by decide,by decide⟩
     ·exact ⟨60,rfl,by decide,by decide⟩
     ·exact ⟨900,rfl,by decide,by decide⟩
    have s7:=s6.trans tz;have B7:=B6.same tz;have hs7:=tz _ _ hs6;have hf7:=tz _ _ hD6;generalize upd H6 z (.lst [.int 12,.int 60,.int 900])=H7 at s7 B7 hs7 hf7 ⊢;have hn7:=s7.seq hn;clear tz B6 hs6 hn6 hD6 s6 hz;dsimp only [kC];refine seqN (λσ' H'=>H7=H'/\∃ m6:Int,1<=m6/\m6<=1000000/\σ'=[some (.ref a),some (.ref nm),some (.int c),some (.ref D),some (.ref D2),some (.int (c%8)),some (.int m6),none,none,none,none]) ?_ (λN hN=>?_)
    rotate_left
    ·refine ⟨_,rfl,a,_,rfl,dg B7.s.ha aFk,_,rfl,ite2 (λ_=>?_) (λ_=>hN _ _ ⟨rfl,mo,by omega,by omega,rfl⟩)⟩
     refine ⟨_,rfl,_,rfl,_,_,rfl,rfl,⟨b6 (eE 10 (c:=1024) (by omega) (by omega)),b6 (eE 10 (c:=1024) (by omega) (by omega))⟩,_,_,rfl,rfl,hN _ _ ⟨rfl,_,?_,?_,rfl⟩⟩
     ·have:=Bu (show 0<=mo by omega) (show 0<=mo by omega)
      omega
     ·have:=DH mo2 mo2 (by omega) (by decide)
      omega
    rintro _ _ ⟨rfl,m6,m61,m62,rfl⟩
    have sp:=bN (c/64) (m:=m6) (by omega);refine ⟨_,rfl,_,_,rfl,rfl,⟨by decide,b9⟩,_,rfl,_,_,rfl,rfl,(by show (0:Int)<m6;omega),_,_,rfl,rfl,?_⟩;dsimp only [kC];refine ifN (λb H'=>Same H7 H'/\(b=false->ys≠[])) (λb H8 ⟨s8,hb⟩=>?_) (λC hC=>?_)
    rotate_left
    ·refine ⟨_,rfl,zLn0,λz hz=>?_⟩
     have t8:=Same.upd (o:=.lst []) hz;refine ⟨D,z,ys,rfl,rfl,SqL.of (t8 _ _ hs7),SqL.of aB,_,rfl,ite2 (λ_=>hC _ _ ⟨t8,λz=>by cases z⟩) (λhne=>?_)⟩;have yne:ys≠[]:=λz=>hne (by rw [z];rfl);refine ⟨_,rfl,_,_,rfl,rfl,_,rfl,ite2 (λ_=>?_) (λ_=>hC _ _ ⟨t8,λ_=>yne⟩)⟩;refine ⟨_,rfl,zLn0,λz2 hz2=>?_⟩;have t9:=Same.upd (o:=.lst []) hz2;have t89:=t8.trans t9;refine ⟨D2,z2,fs,rfl,rfl,SqL.of (t89 _ _ hf7),SqL.of aB,_,rfl,ite2 (λ_=>?_) (λ_=>hC _ _ ⟨t89,λ_=>yne⟩)⟩;have B9:=B7.same t89;obtain ⟨lk,lks,hls,_⟩:=B9.s.hl;refine ⟨_,rfl,a,_,rfl,dg B9.s.ha jC,ls,_,rfl,hls,_,_,rfl,rfl,_,rfl,hC _ _ ⟨t89,λ_=>yne⟩⟩
    have B8:=B7.same s8;have hs8:=s8 _ _ hs7;have hf8:=s8 _ _ hf7;have s08:=s7.trans s8;have hn8:=s08.seq hn;cases b with
    |true=>
     refine iteT ?_;refine ⟨_,rfl,zLn0,λz hz=>?_⟩;have t9:=Same.upd (o:=.lst []) hz;have B9:=B8.same t9;have hf9:=t9 _ _ hf8;have hn9:=t9.seq hn8;have s09:=s08.trans t9;refine ⟨D2,z,fs,rfl,rfl,SqL.of hf9,SqL.of aB,_,rfl,ite2 (λ_=>?_) (λhne=>?_)⟩
     ·exact ⟨_,rfl,a,_,rfl,dg B9.s.ha fG,zLn2,λq hq=>k (.go today) q _ _ _ _ (s09.trans (Same.upd hq)) aB (.go (CM _) t0 t1) (by omega)⟩
     ·have fne:fs≠[]:=λz=>hne (by rw [z];rfl)
      have fpos:0<fs.length:=List.length_pos_iff.mpr fne;obtain ⟨v0,hv0,mv0⟩:=kM (xs:=fs) (e:=0) (by decide) (by omega);obtain ⟨x,hx,rfl,nx⟩:=hfs v0 mv0;have m8:=bN (c/8) (m:=8) (by decide);have m5:=bN (c/512) (m:=5) (by decide);obtain ⟨v1,hv1,mv1⟩:=kM (xs:=ws.map V.str) (e:=c/8%8) m8.1 (by rw [Ab,wl];exact m8.2);obtain ⟨x1,hx1,rfl⟩:=An.mp mv1;refine ⟨_,rfl,D2,_,_,_,rfl,rfl,SqL.of hf9,hv0,_,rfl,_,rfl,_,_,rfl,rfl,⟨by decide,b9⟩,_,_,rfl,rfl,(by show (0:Int)<8;decide),nm,_,_,_,rfl,rfl,hn9,hv1,_,rfl,_,rfl,a,_,rfl,dg B9.s.ha fG,_,rfl,_,_,rfl,rfl,⟨by decide,b9⟩,_,_,rfl,rfl,(by show (0:Int)<5;decide),_,_,rfl,rfl,zLn5,λq hq=>?_⟩;exact k (.take x x1 (1+c/64%m6) (today+c/512%5)) q _ _ _ _ (s09.trans (Same.upd hq)) aB (.take (ww x hx) (ww x1 hx1) nx (by omega) (by omega) (by omega) (by omega)) (by omega)
    |false=>
     refine iteF ?_;have yne:=hb rfl;have ypos:0<ys.length:=List.length_pos_iff.mpr yne;have m3':=bN (c/8) (m:=3) (by decide);refine ⟨_,rfl,rfl,_,rfl,ite2 (λ_=>?_) (λ_=>?_)⟩
     ·refine ⟨_,_,rfl,rfl,⟨by decide,by decide,bk⟩,_,rfl,a,_,rfl,dg B8.s.ha fG,_,rfl,_,_,rfl,rfl,⟨by decide,b9⟩,_,_,rfl,rfl,(by show (0:Int)<3;decide),_,_,rfl,rfl,_,_,rfl,zLn2,λq hq=>?_⟩
      rw [e6,if_pos (show today+c/8%3<1000000 by omega)] at *
      exact k (.go (today+c/8%3)) q _ _ _ _ (s08.trans (Same.upd hq)) aB (.go (by omega) (by omega) (by omega)) (by omega)
     ·have my:=bN (c/8) (m:=(ys.length:Int)) (by omega)
      obtain ⟨v,hv,mv⟩:=kM (xs:=ys) my.1 my.2;obtain ⟨e,he,rfl,ndo,fr⟩:=hys v mv;have mz:=Ai (f:=(·.1)) he;have to:=B.g.ok e.1 mz;have T1:=to.T1 B.g.M0 fr.1;refine ⟨_,rfl,_,rfl,_,_,rfl,rfl,⟨by decide,b9⟩,_,rfl,D,_,rfl,.inl (SqL.of hs8),_,_,rfl,rfl,(by show (0:Int)<(ys.length:Int);omega),D,_,_,_,rfl,rfl,SqL.of hs8,hv,?_⟩;have mm:=bN (c/64) (m:=e.1.T) (by omega);refine ⟨_,rfl,_,_,rfl,rfl,⟨by decide,b9⟩,_,rfl,_,rfl,a,hd,kd,ls,dd,big,Fn,today,n,ds,zi,e,rfl,B8,he,λH9 s9=>⟨_,_,rfl,rfl,(by show (0:Int)<e.1.T;omega),_,_,rfl,rfl,?_⟩⟩;have B9:=B8.same s9;have s09:=s08.trans s9;have hs9:=s9 _ _ hs8;have hf9:=s9 _ _ hf8;dsimp only [kC];refine seqN (λσ' H'=>Same H9 H'/\∃ m:Int,1<=m/\m<=e.1.T/\σ'=[some (.ref a),some (.ref nm),some (.int c),some (.ref D),some (.ref D2),some (.int (c%8)),some (.int m6),some (.int (1+c/64%m6)),some (.str e.1.x),some (.int m),none]) ?_ (λN hN=>?_)
      rotate_left
      ·refine ⟨_,rfl,_,_,rfl,rfl,⟨by decide,b9⟩,_,_,rfl,rfl,(by show (0:Int)<4;decide),rfl,_,rfl,ite2 (λ_=>?_) (λ_=>hN _ _ ⟨Same.refl _,_,by omega,by omega,rfl⟩)⟩
       exact ⟨_,rfl,_,rfl,a,hd,kd,ls,dd,big,Fn,today,n,ds,zi,e,rfl,B9,he,λH10 s10=>hN _ _ ⟨s10,_,T1,CM _,rfl⟩⟩
      rintro _ HA ⟨sA,m,mm1,mm2,rfl⟩
      have BA:=B9.same sA;have s0A:=s09.trans sA;have hfA:=sA _ _ hf9;refine ⟨_,rfl,_,_,rfl,rfl,⟨by decide,by decide,bk⟩,_,_,rfl,?_⟩;obtain ⟨m',em,p1,p2,p3⟩:∃ m':Int,(if (10:Int)^Dl 6<m then (10:Int)^Dl 6 else m)=m'/\1<=m'/\m'<=e.1.T/\m'<=1000000:=by
       rw [e6];split
       ·exact ⟨_,rfl,by omega,by omega,by omega⟩
       ·exact ⟨_,rfl,by omega,by omega,by omega⟩
      rw [em];dsimp only [kC];refine ifN (λb H'=>HA=H'/\(b=true->fs≠[])) (λb _ ⟨eh,hb1⟩=>?_) (λC hC=>?_)
      rotate_left
      ·refine ⟨_,rfl,rfl,_,rfl,ite2 (λ_=>⟨_,rfl,D2,_,rfl,.inl (SqL.of hfA),_,_,rfl,rfl,_,rfl,hC _ _ ⟨rfl,λhg z=>?_⟩⟩) (λ_=>hC _ _ ⟨rfl,λz=>by cases z⟩)⟩
       subst z;exact absurd hg (by decide)
      subst eh;have ww':∀ {y:Str},y∉(zi.map λe:Th×Addr=>e.1).map Th.x->y≠e.1.x:=λny z=>ny (z▸Ai mz);cases b with
      |true=>
       refine iteT ?_;obtain ⟨v2,hv2,mv2⟩:=aC5 (hb1 rfl);obtain ⟨x,hx,rfl,nx⟩:=hfs v2 mv2;refine ⟨_,rfl,_,rfl,_,rfl,D2,_,_,_,rfl,rfl,SqL.of hfA,hv2,_,rfl,zLn4,λq hq=>?_⟩;exact k (.give e.1.x x m') q _ _ _ _ (s0A.trans (Same.upd hq)) aB (.give (s:=e.1) ⟨mz,ndo,ww x hx,ww' nx,p1,p2,p3,fr.2,n1⟩ nx) (by omega)
      |false=>
       refine iteF ?_;refine ⟨_,rfl,a,_,rfl,dg BA.s.ha bQ,hd,_,rfl,BA.s.hh,λob3 D3 hD3=>?_⟩;refine mU (Ys.dict aB) (λy=>∃ g∈zi,y=.str g.1.x/\g.1.k = "store" /\ g.1.x≠e.1.x) hD3 (by rw [Ab,Ab];omega) (λi y H' R1 R2 hy sm h1 h2=>?_) (λgs H5 sm hD5 gl hgs=>?_)
       ·rw [Ah] at hy
        obtain ⟨kv,hkv,rfl⟩:=AA.mp hy;rw [Ah] at hkv;obtain ⟨g,hzg,rfl⟩:=AA.mp hkv;have hg:=Ar hzg;have L1:=(BA.held ob3).same sm;have hk1:H' kd=some (.dK (zi.map keyK)):=sm _ _ (by rw [aD nhk];exact BA.s.hk);refine ⟨(Keep.refl _).set rfl,_,rfl,a,_,rfl,dg L1.ha cJ,_,rfl,kd,_,rfl,dg hk1 (LS.getK nd hg),rfl,_,rfl,ite2 (λhc=>?_) (λ_=>iteF (h2 _ (Same.refl _)))⟩;refine ⟨_,rfl,_,rfl,rfl,_,rfl,ite2 (λhc2=>⟨_,rfl,h1 _ _ (Same.refl _) ⟨g,hg,rfl,V.str.inj (of_decide_eq_true hc),λz=>?_⟩⟩) (λ_=>h2 _ (Same.refl _))⟩;have:(!decide (V.str g.1.x=V.str e.1.x))=true:=hc2;rw [z] at this;simp at this
       ·have Dd3:D3≠hd:=λz=>by rw [z,aB] at hD3;cases hD3
        have sF:=eU BA.s.hh sm;refine ⟨hd,ob3,_,sm _ _ aB,nfz,?_⟩;have hg1:(upd H5 hd (.dK (zi.map keyX))) D3=some (.lst gs):=by rw [aD Dd3];exact hD5
        have BB:=BA.same sF;generalize upd H5 hd (.dK (zi.map keyX))=HB at sF hg1 BB ⊢;have s0B:=s0A.trans sF;have hfB:=sF _ _ hfA;refine ⟨_,rfl,_,rfl,_,rfl,_,rfl,D2,_,rfl,SqL.of hfB,λp hp=>?_⟩;have tp:=Same.upd (o:=.lst (cutV fs (some 1) (some 2))) hp;have cl:=kJ fs (some 1) (some 2);rw [Ab,Ab] at gl;rw [Ab] at fl;refine ⟨D3,p,gs,_,rfl,rfl,tp _ _ hg1,aB,Nat.le_of_lt (aW (by omega)),λr hrr=>?_⟩;have tr:=Same.upd (o:=.lst (gs++cutV fs (some 1) (some 2))) hrr;have BC:=BB.same (tp.trans tr);have s0C:=s0B.trans (tp.trans tr);have hall:∀ v∈gs++cutV fs (some 1) (some 2),∃ y:Str,v=.str y/\Wr y/\y≠e.1.x/\∀ z∈zi.map (λe:Th×Addr=>e.1),z.x=y->z.k = "store":=λv hv=>by
         rcases Aj.mp hv with hv|hv
         ·obtain ⟨g,hg,rfl,gk,ne⟩:=hgs v hv
          have mg':=Ai (f:=(·.1)) hg;exact ⟨_,rfl,(B.g.ok g.1 mg').wr,ne,λz hz ez=>by rw [kN nd hz mg' ez];exact gk⟩
         ·obtain ⟨x,hx,rfl,nx⟩:=hfs v (aC1 hv)
          exact ⟨x,rfl,ww x hx,ww' nx,λz hz ez=>absurd (ez▸Ai hz) nx⟩
        have hr2:(upd (upd HB p (.lst (cutV fs (some 1) (some 2)))) r (.lst (gs++cutV fs (some 1) (some 2)))) r=some (.lst (gs++cutV fs (some 1) (some 2))):=aB;generalize upd (upd HB p (.lst (cutV fs (some 1) (some 2)))) r (.lst (gs++cutV fs (some 1) (some 2)))=HC at BC s0C hr2 ⊢;generalize gs++cutV fs (some 1) (some 2)=qs at hall hr2;refine ⟨_,rfl,zLn0,λz hz=>?_⟩;have t9:=Same.upd (o:=.lst []) hz;have BD:=BC.same t9;have hr3:=t9 _ _ hr2;have s0D:=s0C.trans t9;refine ⟨r,z,qs,rfl,rfl,SqL.of hr3,SqL.of aB,_,rfl,ite2 (λ_=>?_) (λhne=>?_)⟩
        ·exact ⟨_,rfl,a,_,rfl,dg BD.s.ha fG,zLn2,λq hq=>k (.go today) q _ _ _ _ (s0D.trans (Same.upd hq)) aB (.go (CM _) t0 t1) (by omega)⟩
        ·have qne:qs≠[]:=λz=>hne (by rw [z];rfl)
         have qpos:0<qs.length:=List.length_pos_iff.mpr qne;have mq:=bN (c/4096) (m:=(qs.length:Int)) (by omega);obtain ⟨v4,hv4,mv4⟩:=kM (xs:=qs) mq.1 mq.2;obtain ⟨y,rfl,wy,ny,sty⟩:=hall v4 mv4;refine ⟨_,rfl,_,rfl,_,rfl,_,_,rfl,rfl,⟨by decide,b9⟩,_,rfl,r,_,rfl,.inl (SqL.of hr3),_,_,rfl,rfl,(by show (0:Int)<(qs.length:Int);omega),r,_,_,_,rfl,rfl,SqL.of hr3,hv4,_,rfl,zLn4,λq hq=>?_⟩;exact k (.pour e.1.x y m') q _ _ _ _ (s0D.trans (Same.upd hq)) aB (.pour (s:=e.1) ⟨mz,ndo,wy,ny,p1,p2,p3,fr.2,n1⟩ sty) (by omega)
end
def PS.grow {p dl dt db:Addr}{bs:List V}{day:Int}{M:Int}{n:Nat}(h:PS C H L p dl dt db bs kvs day bf M n zs)(hA:∀ b∈A,b∈L/\Out p dl dt db b)(k:KpL A H H')(t:Tk H H')(sub:∀ b∈L',b∈L\/H b=none)(inc:p∈L'/\dl∈L'/\dt∈L'/\db∈L')(al:∀ b∈L',H' b≠none):PS C H' L' p dl dt db bs kvs day bf M n zs:=by
 obtain ⟨⟨⟨dx,b0⟩,b1,b2,b3,b4⟩,th,bl,fl,inL,al0,g⟩:=h;have o1:p∉A:=λz=>(hA _ z).2.1 rfl;have o2:dl∉A:=λz=>(hA _ z).2.2.1 rfl;have o3:dt∉A:=λz=>(hA _ z).2.2.2.1 rfl;have o4:db∉A:=λz=>(hA _ z).2.2.2.2 rfl;refine ⟨⟨⟨dx,k _ _ o1 b0⟩,k _ _ o2 b1,k _ _ o3 b2,k _ _ o4 b3,b4⟩,bG (λkv z ⟨e,q,d1,d2,r1,r2,r3,r4⟩=>⟨e,q,d1,d2,r1,?_,?_,?_⟩) th,bl,fl,inc,al,g⟩
 ·exact r2.keep (L:=A) (λz=>r3 (hA _ z).1) (λz=>r4 (hA _ z).1) k t (Ak _)
 ·intro z
  obtain ⟨_,_,e1,_⟩:=r2.hd;exact (sub _ z).elim r3 λy=>by rw [e1] at y;cases y
 ·intro z
  obtain ⟨_,e1,_⟩:=r2.hw;exact (sub _ z).elim r4 λy=>by rw [e1] at y;cases y
structure BS (C:Addr)(K:Aa)(H1 H:Hp)(p dl dt db a hd kd ls dd:Addr)(big:Bool)(bs:List V)(kvs:List (Key×V))(bf ds:List V)(M today:Int)(n:Nat)(dts:List Dt)(zi:List (Th×Addr)):Prop where
 P:PS C H ([p,dl,dt,db]++La a hd kd ls dd zi) p dl dt db bs kvs today bf M n (zi.map (·.1))
 L:LG H a hd kd ls dd big M today n ds zi
 D1:DL K H 40 bs dts
 D2:DL K H 40 ds dts
 sm:Same H1 H
 fr:∀ b∈[p,dl,dt,db]++La a hd kd ls dd zi,H1 b=none
 dj:∀ b∈La a hd kd ls dd zi,Out p dl dt db b
 d0:0<=today
 d1:today<=1000000
section
variable {C:Addr}{K:Aa}{H1 H H2 H3:Hp}{p dl dt db a hd kd ls dd:Addr}{big:Bool}{bs:List V}{kvs:List (Key×V)}{bf ds:List V}{M today:Int}{n:Nat}{dts:List Dt}{zi:List (Th×Addr)}
def BS.keep (S:BS C K H1 H p dl dt db a hd kd ls dd big bs kvs bf ds M today n dts zi)(s:Same H H2):BS C K H1 H2 p dl dt db a hd kd ls dd big bs kvs bf ds M today n dts zi:=⟨S.P.keep s,S.L.same s,S.D1.keep s.tk,S.D2.keep s.tk,S.sm.trans s,S.fr,S.dj,S.d0,S.d1⟩
def BS.lg (S:BS C K H1 H p dl dt db a hd kd ls dd big bs kvs bf ds M today n dts zi)(k:Kp p dl dt db H H2):LG H2 a hd kd ls dd big M today n ds zi:=⟨S.L.s.keep λb hb o e=>k b o (S.dj b hb) e,S.L.g⟩
def BS.out1 (S:BS C K H1 H p dl dt db a hd kd ls dd big bs kvs bf ds M today n dts zi)(e:H1 b=some o):Out p dl dt db b/\b∉La a hd kd ls dd zi:=by
 have nn:∀ x∈[p,dl,dt,db]++La a hd kd ls dd zi,b≠x:=λx hx z=>by
  have:=S.fr x hx;rw [<- z,e] at this;cases this
 exact ⟨⟨nn _ (by simp),nn _ (by simp),nn _ (by simp),nn _ (by simp)⟩,λz=>nn b (Ac _ z) rfl⟩
def BS.same2 (S:BS C K H1 H p dl dt db a hd kd ls dd big bs kvs bf ds M today n dts zi)(k:Kp p dl dt db H H2):Same H1 H2:=λb o e=>k b o (S.out1 e).1 (S.sm b o e)
def BS.next (S:BS C K H1 H p dl dt db a hd kd ls dd big bs kvs bf ds M today n dts zi){M' today':Int}{n':Nat}(P2:PS C H2 ([p,dl,dt,db]++La a hd kd ls dd zi) p dl dt db bs' kvs' today' bf' M' n' (zi'.map (·.1)))(k2:Kp p dl dt db H H2)(k3:KpL (La a hd kd ls dd zi) H2 H3)(t3:Tk H2 H3)(ad:Adr H2 zi zi')(l3:LS H3 a hd kd ls dd big M' today' n' ds' zi')(D1:DL K H3 40 bs' dts')(D2:DL K H3 40 ds' dts')(d0:0<=today')(d1:today'<=1000000):BS C K H1 H3 p dl dt db a hd kd ls dd big bs' kvs' bf' ds' M' today' n' dts' zi':=by
 have s2:=S.same2 k2;have cases':∀ b∈La a hd kd ls dd zi',b∈La a hd kd ls dd zi\/H2 b=none:=λb hb=>by
  rcases Aj.mp hb with hb|hb
  ·exact .inl (Af _ hb)
  ·obtain ⟨e,he,rfl⟩:=An.mp hb
   exact (ad e he).elim (λz=>.inl (Ac _ z)) .inr
 have four:∀ b,b∈[p,dl,dt,db]->b∉La a hd kd ls dd zi:=λb hb z=>by
  obtain ⟨o1,o2,o3,o4⟩:=S.dj b z;simp only [Ae,Ag,or_false] at hb
  rcases hb with rfl|rfl|rfl|rfl
  ·exact o1 rfl
  ·exact o2 rfl
  ·exact o3 rfl
  ·exact o4 rfl
 refine ⟨P2.grow (A:=La a hd kd ls dd zi) (λb hb=>⟨Ac _ hb,S.dj b hb⟩) k3 t3 (λb hb=>?_) ⟨by simp,by simp,by simp,by simp⟩ (λb hb=>?_),⟨l3,P2.g⟩,D1,D2,λb o e=>k3 b o (S.out1 e).2 (s2 b o e),λb hb=>?_,λb hb=>?_,d0,d1⟩
 ·rcases Aj.mp hb with hb|hb
  ·exact .inl (Af _ hb)
  ·exact (cases' b hb).elim (λz=>.inl (Ac _ z)) .inr
 ·rcases Aj.mp hb with hb|hb
  ·intro z
   cases h2:H2 b with
   |none=>exact P2.al b (Af _ hb) h2
   |some o=>rw [k3 b o (four b hb) h2] at z;cases z
  ·exact l3.allo b hb
 ·rcases Aj.mp hb with hb|hb
  ·exact S.fr b (Af _ hb)
  ·exact (cases' b hb).elim (λz=>S.fr b (Ac _ z)) λz=>same_none s2 z
 ·exact (cases' b hb).elim (λz=>S.dj b z) λz=>P2.bk.outN z
end
def Dd.dt:Dd->Dt
 |.take x w m l=>.t [.s "take",.s x,.s w,.i m,.i l]
 |.go d=>.t [.s "go",.i d]
 |.pour x y m=>.t [.s "pour",.s x,.s y,.i m]
 |.give x y m=>.t [.s "give",.s x,.s y,.i m]
def Dd.dv {K:Aa}{H:Hp}{q:Addr}(d:Dd)(h:H q=some (.tup d.row)):Dv K H 40 (.ref q) d.dt:=by
 cases d with
 |take x w m l=>exact .tup (n:=39) (SqZ.of h) (.cons .s (.cons .s (.cons .s (.cons .i (.cons .i .nil)))))
 |go d=>exact .tup (n:=39) (SqZ.of h) (.cons .s (.cons .i .nil))
 |pour x y m=>exact .tup (n:=39) (SqZ.of h) (.cons .s (.cons .s (.cons .s (.cons .i .nil))))
 |give x y m=>exact .tup (n:=39) (SqZ.of h) (.cons .s (.cons .s (.cons .s (.cons .i .nil))))
theorem Stp.day {n:Nat}{M M':Int}{today today':Int}(h:Stp n M zs today d M' zs' today')(h0:0<=today)(h1:today<=1000000):0<=today'/\today'<=1000000:=by
 cases h with
 |take=>exact ⟨h0,h1⟩
 |go _ a b=>exact ⟨a,b⟩
 |pour=>exact ⟨h0,h1⟩
 |give=>exact ⟨h0,h1⟩
theorem BS.start {C:Addr}{K:Aa}{H1 H2 H3:Hp}{p dl dt db a hd kd ls dd:Addr}{big:Bool}(B:Bk C H2 p dl dt db [] [] 0 [])(s2:Same H1 H2)(f:H1 p=none/\H1 dl=none/\H1 dt=none/\H1 db=none)(s3:Same H2 H3)(fr:∀ b∈[a,hd,kd,ls,dd],H2 b=none)(l:LS H3 a hd kd ls dd big 1 0 0 [] []):BS C K H1 H3 p dl dt db a hd kd ls dd big [] [] [] [] 1 0 0 [] []:=by
 have g:ZOk 1 0 []:=⟨DF,(λz h=>nomatch h),(λz h=>nomatch h),(λz h=>nomatch h),by decide,eE 1 (c:=2) (by decide) (by decide),Ak _,by decide⟩;have B3:=B.keep s3;have e:La a hd kd ls dd []=[a,hd,kd,ls,dd]:=rfl;refine ⟨⟨B3,.nil,rfl,rfl,⟨by simp,by simp,by simp,by simp⟩,λb hb=>?_,g⟩,⟨l,g⟩,.nil,.nil,s2.trans s3,λb hb=>?_,λb hb=>?_,by decide,by decide⟩
 ·rcases Aj.mp hb with hb|hb
  ·obtain ⟨⟨dx,h0⟩,h1,h2,h3,_⟩:=B3
   simp only [Ae,Ag,or_false] at hb
   rcases hb with rfl|rfl|rfl|rfl
   ·rw [h0];simp
   ·rw [h1];simp
   ·rw [h2];simp
   ·rw [h3];simp
  ·exact l.allo b hb
 ·rcases Aj.mp hb with hb|hb
  ·simp only [Ae,Ag,or_false] at hb
   rcases hb with rfl|rfl|rfl|rfl
   ·exact f.1
   ·exact f.2.1
   ·exact f.2.2.1
   ·exact f.2.2.2
  ·exact same_none s2 (fr b (e▸hb))
 ·exact B.outN (fr b (e▸hb))
end K77
namespace L2
open PySem PySem.Spec PyProof.Rows
def Itz3 (K:Aa)(a b:Addr):It:=
  ⟨λi H=>∃ xs ys,SqL K H a xs/\SqL K H b ys/\i<xs.length/\i<ys.length,
   λi H v H'=>∃ T,H T=none/\v=.ref T/\∀ xs ys,SqL K H a xs->SqL K H b ys->∃ x y,xs[i]?=some x/\ys[i]?=some y/\H'=upd H T (.tup [x,y]),
   λi H=>∃ xs ys,SqL K H a xs/\SqL K H b ys/\(i=xs.length\/(i<xs.length/\i=ys.length))⟩
def ZipSt3 (n a b:Nat)(i:Nat)(h:Heap):Prop:=IsZip h (n+4) (n+2) (n+3) .none/\IsPair h (n+2) (.ref n) (.ref (n+1))/\(∃ x y,IsPair h (n+3) x y)/\h.IsListIter n a i/\h.IsListIter (n+1) b i
abbrev xo1 (h:Heap)(a:Addr):Heap:=h.push { cls:=.type "list_iterator",data:=.fields #[.ref a,.int 0 0] }
abbrev xo2 (h:Heap)(a b:Addr):Heap:=(xo1 h a).push { cls:=.type "list_iterator",data:=.fields #[.ref b,.int 0 0] }
abbrev xo3 (h:Heap)(a b:Addr):Heap:=(xo2 h a b).push { cls:=.type "tuple",data:=.seq #[.ref h.objs.size,.ref (xo1 h a).objs.size] }
abbrev xo4 (h:Heap)(a b:Addr):Heap:=(xo3 h a b).push { cls:=.type "tuple",data:=.seq #[.none,.none] }
abbrev xo5 (h:Heap)(a b:Addr):Heap:=(xo4 h a b).push { cls:=.type "zip",data:=.fields #[.none,.bool false,.bool false,.ref (xo2 h a b).objs.size,.ref (xo3 h a b).objs.size] }
def iZip3 (K:Aa)(ta:TA):TI:=λσ H R=>ta σ H λvs H1=>∃ a b,vs=[.ref a,.ref b]/\(∃ xs,SqL K H1 a xs)/\(∃ ys,SqL K H1 b ys)/\R (Itz3 K a b) H1
end L2
namespace K77
open PySem PySem.Spec PyProof.Rows L2 GM TM
def BfK (H:Hp)(X:List Addr)(b:V)(kvs:List (Key×V))(day:Int)(kvs':List (Key×V)):Prop:=∃ t l cs ns,b=.ref t/\H t=some (.tup [.ref l,.int day])/\H l=some (.lst (cs.map V.ref))/\l∉X/\Paired (λc (e:Str×Option V)=>H c=some (.tup [.str e.1,e.2.getD .non])) cs ns/\(∀ e∈ns,∀ v,e.2=some v->∃ a,v=.ref a)/\undo kvs' ns=kvs/\ns.length<=2/\(∀ e∈ns,(valV kvs' (.inr e.1)).isSome=true)/\(ns.map (·.1)).Nodup
def BfN.kept {day:Int}(h:BfN H H' bf bf' kvs day kvs')(al:∀ b∈X,H b≠none):∃ b,bf'=bf++[b]/\BfK H' X b kvs day kvs':=by
 obtain ⟨t,l,cs,ns,e1,e2,e3,e4,r⟩:=h.ex;exact ⟨.ref t,e1,t,l,cs,ns,rfl,e2,e3,λz=>al l z e4,r⟩
def BfK.keep {day:Int}(h:BfK H X b kvs day kvs')(k:∀ b o,b∉X->H b=some o->H' b=some o/\b∉X')(t:Tk H H'):BfK H' X' b kvs day kvs':=by
 obtain ⟨t',l,cs,ns,e1,e2,e3,e4,e5,r⟩:=h;obtain ⟨f1,f2⟩:=k l _ e4 e3;exact ⟨t',l,cs,ns,e1,t _ _ e2,f1,f2,bG (λ_ _ q=>t _ _ q) e5,r⟩
def tJ (C:Addr):Sp:=λvs H Q _=>∃ p dl dt db bs kvs day bf v kvs0 day0 b,vs=[.ref p]/\Bk C H p dl dt db (bs++[v]) kvs day (bf++[b])/\BfK H [p,dl,dt,db] b kvs0 day0 kvs/\kvs.length<=100 /\
 ∀ H',Bk C H' p dl dt db bs kvs0 day0 bf->Kp p dl dt db H H'->Q v H'
theorem eD {α:Type}(xs:List α)(x:α):(xs++[x]).dropLast=xs:=by simp
def gX {α:Type}(xs:List α)(x:α):(xs++[x])[(xs++[x]).length-1]?=some x:=by simp
def aFe (kk:List (Key×V))(e:Str×Option V):(gP kk e).length<=kk.length+1:=by
 unfold gP;split
 ·exact AX (qX _ _) (CQ _)
 ·unfold putK
  split
  ·rw [Ab];exact CQ _
  ·rw [Az];exact Ak _
def wL {j k:Key}(ne:j≠k):valV (iH kvs k) j=valV kvs j:=by
 induction kvs with
 |nil=>rfl
 |cons a t ih=>
  unfold iH at *
  by_cases q:a.1=k
  ·rw [CI (by simpa using q),bE (λz=>ne (z.symm.trans q))]
   exact ih
  ·rw [CH (by simpa using q)]
   by_cases z:a.1=j
   ·rw [bJ z,bJ z]
   ·rw [bE z,bE z]
    exact ih
theorem pQ :∀ {ns:List (Str×Option V)} {kvs:List (Key×V)},x∉ns.map (·.1)->valV (undo kvs ns) (.inr x)=valV kvs (.inr x)
 |[],_,_=>rfl
 |e::ns,kvs,h=>by
  rw [Ao,Ae,not_or] at h;show valV (undo (gP kvs e) ns) (.inr x)=_;rw [pQ h.2];have ne:(As x:Key)≠As e.1:=λq=>h.1 (BG q);unfold gP;split
  ·exact wL ne
  ·rw [bZ,if_neg ne]
section
variable {P:AE}{w:World}{K:Aa}{mg:Str->Option Value}{base:Heap}
def nM:FnScope ["self","before","name","thing"] ["self"] (aG tQ):=fnScOk (by decide +kernel)
def aCk (F:Fun K "back" "Books.back" tQ f fd)(L:Cl K mg C):FnOk P w K mg base CX0 1 f fd ["self"] (tJ C):=by
 refine F.ok nM (λvs H Q E h=>?_) (λcdv A outer s H vs Q E hr h=>?_)
 ·obtain ⟨_,_,_,_,_,_,_,_,_,_,_,_,rfl,_⟩:=h
  rfl
 ·obtain ⟨p,dl,dt,db,bs,kvs,day,bf,v,kvs0,day0,b,rfl,B,K0,kvl,k⟩:=h
  refine ⟨_,(aC (bC (aP (jP hr.units) (bU (pv 0) rfl) (dH aE) (aU _)) (aF iR) aQ)
   (aC (aT (i:=1) nM.nd rfl (Or.inl rfl) (qQ Bb DA Dz qT (bU (pv 0) rfl)))
   (aC (dW Bc rfl (cK (pit 1 0)) (kW rfl (dF (aY (i:=2) nM.nd rfl (Or.inl rfl)) (dF (aY (i:=3) nM.nd rfl (Or.inl rfl)) iC)))
    (aF (bC (aP aEo (pv 3) qO (aU _))
     (aF (bD (xS (bU (pv 0) rfl) (pv 2) ⟨rfl,rfl,rfl,rfl⟩)))
     (aF (bR (aO hr) (bU (pv 0) rfl) (pv 2) (pv 3) rfl)))))
   (aC (kS (pv 0) (pit 1 1) rfl)
   (aF (aK (qQ Bb DA Dz qT (bU (pv 0) rfl)))))))),?_⟩
  refine cut5 ?_
  intros
  obtain ⟨n1,n2,n3,n4,n5⟩:=B.ns;obtain ⟨⟨dx,h0⟩,hl,ht,hb,n6⟩:=id B;obtain ⟨t,l,cs,ns,rfl,r1,r2,r3,r4,r5,r6,r7,r8,r9⟩:=K0;refine ⟨_,rfl,p,C,dx,_,_,rfl,h0,L.cl,L.nE,dI,zLn0,λz hz=>?_⟩;have t1:=Same.upd (o:=.lst []) hz;refine ⟨dl,z,_,rfl,rfl,SqL.of (t1 _ _ hl),SqL.of aB,_,rfl,ite2 (λh=>by cases bs<;>cases h) (λ_=>?_)⟩;generalize upd H z (.lst [])=H1 at t1 ⊢;have lx:l≠p/\l≠dl/\l≠dt/\l≠db:=by
   simp only [Ae,Ag,or_false,not_or] at r3;exact r3
  refine ⟨_,rfl,p,C,dx,_,_,rfl,t1 _ _ h0,L.cl,L.nB,kE,.inl ⟨rfl,_,SqL.of (t1 _ _ hb)⟩,db,_,_,rfl,rfl,t1 _ _ hb,gX _ _,?_⟩;rw [eD];have tO:t≠db:=λq=>by rw [q,hb] at r1;cases r1
  have t2:(upd H1 db (.lst bf)) t=some (.tup [.ref l,.int day0]):=by rw [aD tO];exact t1 _ _ r1
  have k2:Kp p dl dt db H (upd H1 db (.lst bf)):=λb o u e=>by rw [aD u.2.2.2];exact t1 _ _ e
  have p2:(upd H1 db (.lst bf)) p=some (.ins C dx (flds dl dt db day)):=by rw [aD n3];exact t1 _ _ h0
  have l2:(upd H1 db (.lst bf)) dl=some (.lst (bs++[v])):=by rw [aD n6];exact t1 _ _ hl
  have d2:(upd H1 db (.lst bf)) dt=some (.dK kvs):=by rw [aD n5];exact t1 _ _ ht
  have b2:(upd H1 db (.lst bf)) db=some (.lst bf):=aB;have ll2:(upd H1 db (.lst bf)) l=some (.lst (cs.map V.ref)):=by rw [aD lx.2.2.2];exact t1 _ _ r2
  have c2:Paired (λc (e:Str×Option V)=>(upd H1 db (.lst bf)) c=some (.tup [.str e.1,e.2.getD .non])) cs ns:=bG (λc e q=>by rw [aD (λw=>by rw [w,hb] at q;cases q)];exact t1 _ _ q) r4;generalize upd H1 db (.lst bf)=H2 at t2 k2 p2 l2 d2 b2 ll2 c2 ⊢;refine ⟨t,_,_,rfl,SqT.of t2,rfl,l,rfl,⟨_,SqL.of ll2⟩,?_⟩;have cl:=bY c2;refine jD (xs:=cs.map V.ref) (λi σ H'=>∃ (v2 v3:Option V) (kk:List (Key×V)),σ=[some (.ref p),some (.ref t),v2,v3]/\(∀ b o,b≠dt->H2 b=some o->H' b=some o)/\H' dt=some (.dK kk)/\kk.length<=kvs.length+i/\kk=undo kvs (ns.take i))
   ⟨none,none,kvs,rfl,λ_ _ _ e=>e,d2,Ak _,rfl⟩ (λi σ H' _ hh=>by obtain ⟨_,_,_,_,kp,_⟩:=hh;exact SqL.of (kp _ _ lx.2.2.1 ll2)) ?_ ?_
  ·rintro i x σ H3 hx hh
   obtain ⟨v2,v3,kk,rfl,kp,hd3,kl,ek⟩:=hh;rw [Ah] at hx;obtain ⟨c,hc,rfl⟩:=AA.mp hx;obtain ⟨e,he,hce⟩:=dP c2 hc;have il:=(Ad.mp he).1;have hc3:H3 c=some (.tup [.str e.1,e.2.getD .non]):=kp _ _ (λq=>by rw [q,d2] at hce;cases hce) hce;have hp3:=kp _ _ n2 p2;refine ⟨c,_,rfl,SqT.of hc3,rfl,_,_,rfl,_,_,rfl,rfl,?_⟩;have nx:e.1∉(ns.take i).map (·.1):=λq=>by
    rw [List.map_take] at q;obtain ⟨j,hj⟩:=Bf.mp q;rw [List.getElem?_take] at hj;split at hj
    ·rename_i lt
     obtain ⟨a1,a2⟩:=Ad.mp hj;have b1:i<(ns.map (·.1)).length:=by rw [Ab];exact il
     have b2:(ns.map (·.1))[i]=e.1:=by rw [List.getElem_map,(Ad.mp he).2]
     exact Dg.mp r9 j i a1 b1 lt (a2.trans b2.symm)
    ·cases hj
   have hv:(valV kk (.inr e.1)).isSome=true:=by rw [ek,pQ nx];exact r8 e (Ar he)
   have ek':undo kvs (ns.take (i+1))=gP kk e:=by
    rw [Ci,he,ek];unfold undo;rw [List.foldl_append];rfl
   have fin:∀ {kk':List (Key×V)},kk'=gP kk e->∃ (v2 v3:Option V) (kk:List (Key×V)),[some (V.ref p),some (.ref t),some (.str e.1),some (e.2.getD .non)]=[some (.ref p),some (.ref t),v2,v3]/\(∀ b o,b≠dt->H2 b=some o->(upd H3 dt (.dK kk')) b=some o)/\(upd H3 dt (.dK kk')) dt=some (.dK kk)/\kk.length<=kvs.length+(i+1)/\kk=undo kvs (ns.take (i+1)):=λ{kk'} q=>⟨_,_,kk',rfl,λb o nb w=>by rw [aD nb];exact kp b o nb w,aB,by rw [q];have:=aFe kk e;omega,by rw [q,ek']⟩;cases h2:e.2 with
   |none=>
    rw [h2] at fin;refine ⟨_,rfl,rfl,_,rfl,iteT ?_⟩;obtain ⟨u,hu⟩:=Dj.mp hv;exact ⟨_,rfl,p,C,dx,_,_,rfl,hp3,L.cl,L.nT,aZ,dt,rfl,.inl ⟨_,.inl hd3⟩,_,rfl,kk,.inr e.1,u,hd3,rfl,hu,fin (by unfold gP;rw [h2])⟩
   |some u=>
    obtain ⟨a,rfl⟩:=r5 e (Ar he) u h2;rw [h2] at fin;refine ⟨_,rfl,rfl,_,rfl,iteF ?_⟩;exact ⟨_,rfl,_,rfl,p,C,dx,_,_,rfl,hp3,L.cl,L.nT,aZ,_,rfl,dt,_,rfl,DPut.k (k:=.inr e.1) hd3 (aW (by omega)),fin (by unfold gP;rw [h2];exact rfl)⟩
  ·rintro σ H3 hh
   obtain ⟨v2,v3,kk,rfl,kp,hd3,kl,ek⟩:=hh;rw [Ab,cl,Bq,r6] at ek;subst ek;have hp3:=kp _ _ n2 p2;have ht3:=kp _ _ (λq=>by rw [q,d2] at t2;cases t2) t2;refine ⟨t,_,_,rfl,SqT.of ht3,rfl,_,rfl,p,C,dx,_,rfl,hp3,L.cl,L.nD,(by show 4<1000;decide),?_⟩;have p4:(upd H3 p (.ins C dx (putF "day" (.int day0) (flds dl dt db day)))) p=some (.ins C dx (flds dl dt db day0)):=Eq.trans aB (congrArg (λl=>some (HO.ins C dx l)) qW);have o4:∀ b o,b≠p->H3 b=some o->(upd H3 p (.ins C dx (putF "day" (.int day0) (flds dl dt db day)))) b=some o:=λb o nb e=>by rw [aD nb];exact e
   generalize upd H3 p (.ins C dx (putF "day" (.int day0) (flds dl dt db day)))=H4 at p4 o4 ⊢;have l4:=o4 _ _ (Au n1) (kp _ _ n4 l2);refine ⟨_,rfl,p,C,dx,_,_,rfl,p4,L.cl,L.nE,dI,.inl ⟨rfl,_,SqL.of l4⟩,dl,_,_,rfl,rfl,l4,gX _ _,?_⟩;rw [eD];refine k _ ⟨⟨dx,by rw [aD n1];exact p4⟩,aB,by rw [aD (Au n4)];exact o4 _ _ (Au n2) hd3,by rw [aD (Au n6)];exact o4 _ _ (Au n3) (kp _ _ (Au n5) b2),n6⟩ λb o u e=>?_;rw [aD u.2.1];exact o4 _ _ u.1 (kp _ _ u.2.2.1 (k2 b o u e))
end
structure ErL (K:Aa)(mg:Str->Option Value)(cP cA cT cL:Addr):Prop where
 ex:PySem.W.excIn K cL bmV "ValueError.__new__" = true
 k:ExK K cL
 ct:CtK K cP
 s:PySem.W.subIn K (.ref cL) (.ref cP)=some true
 iA:BK K (.ref cL) (.ref cA)=some false
 iT:BK K (.ref cL) (.ref cT)=some false
 iL:BK K (.ref cL) (.ref cL)=some true
 iV:BK K (.ref cL) (.type "ValueError")=some true
 mP:mg "PhialError" = some (.ref cP)
 mA:mg "Lacks" = some (.ref cA)
 mT:mg "NoThing" = some (.ref cT)
 mL:mg "NoneLeft" = some (.ref cL)
def oW (C cL:Addr):Sp:=λvs H _ E=>∃ p dl dt db kvs day bf,vs=[.ref p]/\Bk C H p dl dt db [] kvs day bf/\∀ H',Same H H'->E (.ref cL) none H'
abbrev sNoneLeft:Stmt:=top 55
def fY (C:Addr):Sp:=λvs H Q _=>∃ p dl dt db kvs day bf,vs=[.ref p]/\Bk C H p dl dt db [] kvs day bf/\∀ H',Same H H'->Q (.bl true) H'
section
variable {P:AE}{w:World}{K:Aa}{mg:Str->Option Value}{base:Heap}
def yL (F:Fun K "back" "Books.back" tQ f fd)(L:Cl K mg C)(R:ErL K mg cP cA cT cL):FnOk P w K mg base (CXg P w) 1 f fd ["self"] (oW C cL):=by
 refine F.okF nM (λvs H Q E h=>?_) (λcdv A outer s H vs Q E hr h=>?_)
 ·obtain ⟨_,_,_,_,_,_,_,rfl,_⟩:=h
  rfl
 ·obtain ⟨p,dl,dt,db,kvs,day,bf,rfl,B,k⟩:=h
  refine ⟨_,(aC (bC (aP (jP hr.units) (bU (pv 0) rfl) (dH aE) (aU _)) (aF (xO rfl xe_f rfl rfl R.mL R.ex (aA aJ aE))) aQ) tT),?_⟩;obtain ⟨⟨dx,h0⟩,hl,ht,hb,n6⟩:=id B;refine ⟨_,rfl,p,C,dx,_,_,rfl,h0,L.cl,L.nE,dI,zLn0,λz hz=>?_⟩;have t1:=Same.upd (o:=.lst []) hz;exact ⟨dl,z,[],rfl,rfl,SqL.of (t1 _ _ hl),SqL.of aB,_,rfl,iteT ⟨zLn1,k _ t1⟩⟩
def hW:FnScope ["_law_books","_law_refused","e"] ["_law_books"] (aG sNoneLeft):=fnScOk (by decide +kernel)
def pC (F:Fun K "_law_none_left" "_law_none_left" sNoneLeft f fd)(T:Txt mg)(L:Cl K mg C)(R:ErL K mg cP cA cT cL)(mB:MCal P w K mg base (CXg P w) 1 C "back" ["self"] (oW C cL)):FnOk P w K mg base CX0 2 f fd ["_law_books"] (fY C):=by
 refine F.ok hW (λvs H Q E h=>?_) (λcdv A outer s H vs Q E hr h=>?_)
 ·obtain ⟨_,_,_,_,_,_,_,rfl,_⟩:=h
  rfl
 ·obtain ⟨p,dl,dt,db,kvs,day,bf,rfl,B,k⟩:=h
  refine ⟨_,(aC (aT (i:=1) hW.nd rfl (Or.inl rfl) qO)
   (aC (aEg (i:=2) (j:=1) ⟨rfl,rfl,rfl⟩ rfl R.mP R.ct hW.nd rfl rfl rfl rfl (by decide) (λpins E' Ec hp=>aF (bD (fS L.cl mB hr hp (pv 0)))))
   (aC (bC (PW.pt (jJ (cU (aS hJ rfl T.isi CL (aA (pv 1) (aA (dY (v:=.ref cA) rfl R.mA rfl) aE)))) (gG (cU (aS hJ rfl T.isi CL (aA (pv 1) (aA (dY (v:=.ref cT) rfl R.mT rfl) aE)))))))
    (aF (aK gF))
    aQ)
   (aF (aK (iO (aS hJ rfl T.isi CL (aA (pv 1) (aA (dY (v:=.ref cL) rfl R.mL rfl) aE))) (iN (aS hJ rfl T.isi CL (aA (pv 1) (aA (jM (v:=.ty "ValueError") rfl T.val aFr rfl) aE)))))))))),?_⟩
  refine cut4 ?_
  intros
  obtain ⟨⟨dx,h0⟩,hl,ht,hb,n6⟩:=id B;refine ⟨_,rfl,p,dx,_,rfl,h0,(by kernel_rfl),p,dl,dt,db,kvs,day,bf,rfl,B,λH3 s3=>⟨cL,rfl,R.k,R.s,λea hea=>?_⟩⟩;have t4:=Same.upd (o:=excD ea cL none) hea;refine ⟨_,rfl,ea,cL,none,.ref cA,.ref cA,false,rfl,aB,R.k,rfl,R.iA,_,rfl,iteF ⟨_,rfl,ea,cL,none,.ref cT,.ref cT,false,rfl,aB,R.k,rfl,R.iT,_,rfl,iteF ?_⟩⟩;exact ⟨_,rfl,ea,cL,none,.ref cL,.ref cL,true,rfl,aB,R.k,rfl,R.iL,_,rfl,iteT ⟨_,rfl,ea,cL,none,.type "ValueError",.ty "ValueError",true,rfl,aB,R.k,rfl,R.iV,k _ (s3.trans t4)⟩⟩
end
section
variable {big:Bool}{F F' today t':Int}{hd kd ls dd x:Addr}
theorem yV:putK (hkv big F hd kd ls today dd) (.inr "kinds") (.ref x)=hkv big F hd x ls today dd:=by kernel_rfl
theorem yU:putK (hkv big F hd kd ls today dd) (.inr "lasts") (.ref x)=hkv big F hd kd x today dd:=by kernel_rfl
theorem yX:putK (hkv big F hd kd ls today dd) (.inr "deeds") (.ref x)=hkv big F hd kd ls today x:=by kernel_rfl
theorem yW:putK (hkv big F hd kd ls today dd) (.inr "held") (.ref x)=hkv big F x kd ls today dd:=by kernel_rfl
end
abbrev sCopy:Stmt:=top 52
def tH:Sp:=λvs H Q _=>∃ a hd kd ls dd big F today n ds zi,vs=[.ref a]/\LG H a hd kd ls dd big F today n ds zi/\∀ a' hd' kd' ls' dd' zi' H',Same H H'->(zi'.map λe:Th×Addr=>e.1)=zi.map (·.1)->(∀ b∈La a' hd' kd' ls' dd' zi',H b=none)->LG H' a' hd' kd' ls' dd' big F today n ds zi'->Q (.ref a') H'
section
variable {P:AE}{w:World}{K:Aa}{mg:Str->Option Value}{base:Heap}
def tP:FnScope ["_law_here","_law_found","_law_name"] ["_law_here"] (aG sCopy):=fnScOk (by decide +kernel)
def hsz {big:Bool}{F today:Int}:(hkv big F hd kd ls today dd).length<AB:=by show 7<AB;decide
def aCi {f:Addr}{fd:Bj}(Fu:Fun K "_law_copy" "_law_copy" sCopy f fd)(T:Txt mg):FnOk P w K mg base CX0 1 f fd ["_law_here"] tH:=by
 refine Fu.ok tP (λvs H Q E h=>?_) (λcdv A outer s H vs Q E hr h=>?_)
 ·obtain ⟨_,_,_,_,_,_,_,_,_,_,_,rfl,_⟩:=h
  rfl
 ·obtain ⟨a,hd,kd,ls,dd,big,Fn,today,n,ds,zi,rfl,B,k⟩:=h
  refine ⟨_,(aC (aT (i:=1) tP.nd rfl (Or.inl rfl) (bP eF rfl T.dict' iJ (aA (pv 0) aE)))
   (aC (bR (aO hr) (pv 1) aJ (bP eF rfl T.dict' iJ (aA (aI (aO hr) (pv 0) aJ (λ_ _=>rfl)) aE)) rfl)
   (aC (bR (aO hr) (pv 1) aJ (bP eF rfl T.dict' iJ (aA (aI (aO hr) (pv 0) aJ (λ_ _=>rfl)) aE)) rfl)
   (aC (bR (aO hr) (pv 1) aJ (bP iQ rfl T.list' gO (aA (aI (aO hr) (pv 0) aJ (λ_ _=>rfl)) aE)) rfl)
   (aC (bR (aO hr) (pv 1) aJ bW rfl)
   (aC (fQ (dW Bc rfl (eI (aI (aO hr) (pv 0) aJ (λ_ _=>rfl))) (aY (i:=2) tP.nd rfl (Or.inl rfl))
     (aF (bR (aO hr) (aI (aO hr) (pv 1) aJ (λ_ _=>rfl)) (pv 2) (bP eF rfl T.dict' iJ (aA (aI (aO hr) (aI (aO hr) (pv 0) aJ (λ_ _=>rfl)) (pv 2) (λ_ _=>rfl)) aE)) rfl))))
   (aF (aK (pv 1))))))))),?_⟩
  refine cut7 ?_
  intros
  have nd:=B.g.nd;have zln:=B.g.ln;have n60:=B.g.n60;rw [Ab] at zln;obtain ⟨lk,lks,hls,ldk,lll,lval⟩:=B.s.hl;refine ⟨_,rfl,a,_,rfl,.inl B.s.ha,λa' ha'=>?_⟩;have t1:=Same.upd (o:=.dK (hkv big Fn hd kd ls today dd)) ha';have m1:(upd H a' (.dK (hkv big Fn hd kd ls today dd))) a'=some (.dK (hkv big Fn hd kd ls today dd)):=aB;generalize upd H a' (.dK (hkv big Fn hd kd ls today dd))=H1 at t1 m1 ⊢;refine ⟨_,rfl,a,_,rfl,dg (t1 _ _ B.s.ha) cJ,kd,_,rfl,.inl (t1 _ _ B.s.hk),λkd' hkd'=>?_⟩;have u2:=Same.upd (o:=.dK (zi.map keyK)) hkd';refine ⟨_,rfl,a',_,rfl,DPut.k (k:=.inr "kinds") (u2 _ _ m1) hsz,?_⟩;rw [yV];have s2:Same H (upd (upd H1 kd' (.dK (zi.map keyK))) a' (.dK (hkv big Fn hd kd' ls today dd))):=dD (t1.trans u2) ha';have m2:(upd (upd H1 kd' (.dK (zi.map keyK))) a' (.dK (hkv big Fn hd kd' ls today dd))) a'=some (.dK (hkv big Fn hd kd' ls today dd)):=aB;have ka:kd'≠a':=λz=>by rw [z,m1] at hkd';cases hkd'
  have k2:(upd (upd H1 kd' (.dK (zi.map keyK))) a' (.dK (hkv big Fn hd kd' ls today dd))) kd'=some (.dK (zi.map keyK)):=by rw [aD ka];exact aB
  have fkd:H kd'=none:=same_none t1 hkd';generalize upd (upd H1 kd' (.dK (zi.map keyK))) a' (.dK (hkv big Fn hd kd' ls today dd))=H2 at s2 m2 k2 ⊢;refine ⟨_,rfl,a,_,rfl,dg (s2 _ _ B.s.ha) jC,ls,_,rfl,.inl (s2 _ _ hls),λls' hls'=>?_⟩;have u3:=Same.upd (o:=.dK lk) hls';refine ⟨_,rfl,a',_,rfl,DPut.k (k:=.inr "lasts") (u3 _ _ m2) hsz,?_⟩;rw [yU];have s3:Same H (upd (upd H2 ls' (.dK lk)) a' (.dK (hkv big Fn hd kd' ls' today dd))):=dD (s2.trans u3) ha';have m3:(upd (upd H2 ls' (.dK lk)) a' (.dK (hkv big Fn hd kd' ls' today dd))) a'=some (.dK (hkv big Fn hd kd' ls' today dd)):=aB;have la:ls'≠a':=λz=>by rw [z,m2] at hls';cases hls'
  have lkd:ls'≠kd':=λz=>by rw [z,k2] at hls';cases hls'
  have k3:(upd (upd H2 ls' (.dK lk)) a' (.dK (hkv big Fn hd kd' ls' today dd))) kd'=some (.dK (zi.map keyK)):=by rw [aD ka];exact u3 _ _ k2
  have l3:(upd (upd H2 ls' (.dK lk)) a' (.dK (hkv big Fn hd kd' ls' today dd))) ls'=some (.dK lk):=by rw [aD la];exact aB
  have fls:H ls'=none:=same_none s2 hls';generalize upd (upd H2 ls' (.dK lk)) a' (.dK (hkv big Fn hd kd' ls' today dd))=H3 at s3 m3 k3 l3 ⊢;refine ⟨_,rfl,a,_,rfl,dg (s3 _ _ B.s.ha) mK,dd,_,rfl,.inl (SqL.of (s3 _ _ B.s.hdd)),λdd' hdd'=>?_⟩;have u4:=Same.upd (o:=.lst ds) hdd';refine ⟨_,rfl,a',_,rfl,DPut.k (k:=.inr "deeds") (u4 _ _ m3) hsz,?_⟩;rw [yX];have s4:Same H (upd (upd H3 dd' (.lst ds)) a' (.dK (hkv big Fn hd kd' ls' today dd'))):=dD (s3.trans u4) ha';have m4:(upd (upd H3 dd' (.lst ds)) a' (.dK (hkv big Fn hd kd' ls' today dd'))) a'=some (.dK (hkv big Fn hd kd' ls' today dd')):=aB;have da:dd'≠a':=λz=>by rw [z,m3] at hdd';cases hdd'
  have dkd:dd'≠kd':=λz=>by rw [z,k3] at hdd';cases hdd'
  have dls:dd'≠ls':=λz=>by rw [z,l3] at hdd';cases hdd'
  have k4:(upd (upd H3 dd' (.lst ds)) a' (.dK (hkv big Fn hd kd' ls' today dd'))) kd'=some (.dK (zi.map keyK)):=by rw [aD ka];exact u4 _ _ k3
  have l4:(upd (upd H3 dd' (.lst ds)) a' (.dK (hkv big Fn hd kd' ls' today dd'))) ls'=some (.dK lk):=by rw [aD la];exact u4 _ _ l3
  have d4:(upd (upd H3 dd' (.lst ds)) a' (.dK (hkv big Fn hd kd' ls' today dd'))) dd'=some (.lst ds):=by rw [aD da];exact aB
  have fdd:H dd'=none:=same_none s3 hdd';generalize upd (upd H3 dd' (.lst ds)) a' (.dK (hkv big Fn hd kd' ls' today dd'))=H4 at s4 m4 k4 l4 d4 ⊢;intro hd' hhd';have u5:=Same.upd (o:=.dK []) hhd';refine ⟨_,rfl,a',_,rfl,DPut.k (k:=.inr "held") (u5 _ _ m4) hsz,?_⟩;rw [yW];have s5:Same H (upd (upd H4 hd' (.dK [])) a' (.dK (hkv big Fn hd' kd' ls' today dd'))):=dD (s4.trans u5) ha';have m5:(upd (upd H4 hd' (.dK [])) a' (.dK (hkv big Fn hd' kd' ls' today dd'))) a'=some (.dK (hkv big Fn hd' kd' ls' today dd')):=aB;have ha0:hd'≠a':=λz=>by rw [z,m4] at hhd';cases hhd'
  have hkd:hd'≠kd':=λz=>by rw [z,k4] at hhd';cases hhd'
  have hls0:hd'≠ls':=λz=>by rw [z,l4] at hhd';cases hhd'
  have hdd0:hd'≠dd':=λz=>by rw [z,d4] at hhd';cases hhd'
  have k5:(upd (upd H4 hd' (.dK [])) a' (.dK (hkv big Fn hd' kd' ls' today dd'))) kd'=some (.dK (zi.map keyK)):=by rw [aD ka];exact u5 _ _ k4
  have l5:(upd (upd H4 hd' (.dK [])) a' (.dK (hkv big Fn hd' kd' ls' today dd'))) ls'=some (.dK lk):=by rw [aD la];exact u5 _ _ l4
  have d5:(upd (upd H4 hd' (.dK [])) a' (.dK (hkv big Fn hd' kd' ls' today dd'))) dd'=some (.lst ds):=by rw [aD da];exact u5 _ _ d4
  have h5:(upd (upd H4 hd' (.dK [])) a' (.dK (hkv big Fn hd' kd' ls' today dd'))) hd'=some (.dK []):=by rw [aD ha0];exact aB
  have fhd:H hd'=none:=same_none s4 hhd';generalize upd (upd H4 hd' (.dK [])) a' (.dK (hkv big Fn hd' kd' ls' today dd'))=H5 at s5 m5 k5 l5 d5 h5 ⊢;have B5:=B.same s5;refine ⟨_,rfl,a,_,rfl,dg B5.s.ha bQ,hd,_,rfl,B5.s.hh,λob=>?_⟩;have LR0:=B5.held ob;have hdN:∀ {b:Addr},H b=none->b≠hd:=λ{b} q z=>by rw [z,B.s.hh] at q;cases q
  have hfz:(upd H5 hd (.frz ob (.dK (zi.map keyX)))) hd=some (.frz ob (.dK (zi.map keyX))):=aB;have oldF:∀ b o,b≠hd->H5 b=some o->(upd H5 hd (.frz ob (.dK (zi.map keyX)))) b=some o:=λb o nb e=>by rw [aD nb];exact e
  have bk:∀ {b:Addr},(upd H5 hd (.frz ob (.dK (zi.map keyX)))) b=none->H b=none:=λ{b} q=>by
   by_cases z:b=hd
   ·rw [z,aB] at q;cases q
   ·rw [aD z] at q
    exact same_none s5 q
  have nfz:=jQ B.s.hh;generalize upd H5 hd (.frz ob (.dK (zi.map keyX)))=Hf at LR0 hfz oldF bk ⊢;have mf:=oldF _ _ (hdN ha') m5;have hf:=oldF _ _ (hdN fhd) h5;refine gD (λj σ H'=>∃ (v2:Option V) (zi':List (Th×Addr)),σ=[some (.ref a),some (.ref a'),v2]/\(∀ b o,b≠hd'->Hf b=some o->H' b=some o)/\H' hd'=some (.dK (zi'.map keyX))/\(zi'.map λe:Th×Addr=>e.1)=(zi.take j).map (·.1)/\(∀ e∈zi',Inn H' e/\Hf e.2=none)/\(zi'.map (·.2)).Nodup)
   ⟨_,[],rfl,λ_ _ _ e=>e,hf,by simp,λe h=>(nomatch h),DF⟩ (λj σ H' _ hh=>by obtain ⟨_,_,_,kp,_⟩:=hh;exact kp _ _ (Au (hdN fhd)) hfz) ?_ ?_
  ·rintro j x σ H6 hx hh
   obtain ⟨v2,zi',rfl,kp,hh6,ez,al,nd2⟩:=hh;rw [Ah] at hx;obtain ⟨e,hze,rfl⟩:=AA.mp hx;have he:=Ar hze;have jl:=(Ad.mp hze).1;obtain ⟨kvs,ks,e1,hi,mem⟩:=LR0.inn e he;have rLa:hd'∉La a hd kd ls dd zi:=λz=>B.s.allo hd' z fhd;have nL:∀ {b:Addr},b∈La a hd kd ls dd zi->b≠hd':=λ{b} hb z=>rLa (z▸hb);have a6:=kp _ _ (nL (by simp [La])) LR0.ha;have e6:=kp _ _ (nL (Ac _ (Ai he))) e1;have hd6:=kp _ _ (nL (by simp [La])) hfz;refine ⟨_,rfl,a,_,rfl,dg a6 bQ,_,rfl,hd,_,rfl,dgr (.inr ⟨ob,hd6⟩) (LS.getX nd he),e.2,kvs,rfl,.inl e6,λq hq=>?_⟩;have uq:=Same.upd (o:=.dK kvs) hq;have m6:=kp _ _ (Au ha0) mf;have hh6':=uq _ _ hh6;refine ⟨_,rfl,a',_,rfl,dg (uq _ _ m6) bQ,_,rfl,hd',_,rfl,DPut.k (k:=.inr e.1.x) hh6' (aW (by have:=congrArg List.length ez;rw [Ab,Ab,Bn] at this;rw [Ab];omega)),?_⟩;have zx:(zi'.map (·.1)).map Th.x=((zi.take j).map (·.1)).map Th.x:=congrArg (List.map Th.x) ez;have nk:valV (zi'.map keyX) (.inr e.1.x)=none:=eN (φ:=λe=>.ref e.2) λz=>by
    rw [zx] at z;obtain ⟨t,ht,et⟩:=An.mp z;obtain ⟨u,hu,rfl⟩:=An.mp ht;obtain ⟨m,hm⟩:=Bf.mp hu;rw [List.getElem?_take] at hm;split at hm
    ·rename_i mlt
     have eu:=yO nd (Ar hm) he et;subst eu;have nds:=(AN.mp B.s.nda).2.1;exact uQ nds hm hze (by omega) rfl
    ·cases hm
   rw [cH _ nk];have qh:q≠hd':=λz=>by rw [z,hh6] at hq;cases hq
   have qf:Hf q=none:=by
    cases z:Hf q with
    |none=>rfl
    |some o=>rw [kp q o qh z] at hq;cases hq
   refine ⟨_,zi'++[(e.1,q)],rfl,λb o nb w=>by rw [aD nb];exact uq _ _ (kp b o nb w),by rw [AC];exact aB,by rw [AC,ez,Ci,hze];simp,λu hu=>?_,?_⟩
   ·rcases Aj.mp hu with hu|hu
    ·obtain ⟨i1,i2⟩:=al u hu
     have nu:u.2≠hd':=λz=>by rw [z,hf] at i2;cases i2
     exact ⟨i1.keep λo w=>by rw [aD nu];exact uq _ _ w,i2⟩
    ·rw [Am.mp hu]
     exact ⟨⟨kvs,ks,by rw [aD qh];exact aB,hi,mem⟩,qf⟩
   ·rw [AC]
    refine AN.mpr ⟨nd2,Bz (λ_ h=>absurd h Ag) .nil,λb hb c hc z=>?_⟩;obtain ⟨u,hu,rfl⟩:=An.mp hb;obtain ⟨kk,_,w,_⟩:=(al u hu).1;rw [Am.mp hc] at z;rw [z,hq] at w;cases w
  ·rintro σ H6 hh
   obtain ⟨v2,zi',rfl,kp,hh6,ez,al,nd2⟩:=hh;rw [Ab,Bq] at ez;have hd6:=kp _ _ (Au (hdN fhd)) hfz;refine ⟨hd,ob,_,hd6,nfz,?_⟩;have up:∀ b o,b≠hd->b≠hd'->H5 b=some o->(upd H6 hd (.dK (zi.map keyX))) b=some o:=λb o n1 n2 e=>by rw [aD n1];exact kp b o n2 (oldF b o n1 e)
   have sF:Same H (upd H6 hd (.dK (zi.map keyX))):=λb o e=>by
    by_cases z:b=hd
    ·rw [z,B.s.hh] at e
     cases e;rw [z];exact aB
    ·exact up b o z (λq=>by rw [q,fhd] at e;cases e) (s5 _ _ e)
   have eK:zi'.map keyK=zi.map keyK:=by
    have:=congrArg (List.map λz:Th=>((As z.x:Key),V.str z.k)) ez;rw [Bh,Bh] at this;exact this
   refine ⟨_,rfl,k a' hd' kd' ls' dd' zi' _ sF ez (λb hb=>?_) ⟨⟨up _ _ (hdN ha') (Au ha0) m5,by rw [aD (hdN fhd)];exact hh6,λe he=>(al e he).1.keep λo w=>by rw [aD (λz=>by have:=(al e he).2;rw [z,hfz] at this;cases this)];exact w,by rw [eK];exact up _ _ (hdN fkd) (Au hkd) k5,⟨lk,lks,up _ _ (hdN fls) (Au hls0) l5,ldk,lll,by rw [ez];exact lval⟩,up _ _ (hdN fdd) (Au hdd0) d5,B.s.dl,?_⟩,by rw [ez];exact B.g⟩⟩
   ·rcases Aj.mp hb with hb|hb
    ·simp only [Ae,Ag,or_false] at hb
     rcases hb with rfl|rfl|rfl|rfl|rfl
     ·exact ha'
     ·exact fhd
     ·exact fkd
     ·exact fls
     ·exact fdd
    ·obtain ⟨e,he,rfl⟩:=An.mp hb
     exact bk (al e he).2
   ·refine AN.mpr ⟨?_,nd2,λb hb c hc z=>?_⟩
    ·simp only [AU,Ae,Ag,or_false,not_or,not_false_eq_true,DF,and_true]
     exact ⟨⟨Au ha0,Au ka,Au la,Au da⟩,⟨hkd,hls0,hdd0⟩,⟨Au lkd,Au dkd⟩,Au dls⟩
    ·obtain ⟨e,he,rfl⟩:=An.mp hc
     have fe:=(al e he).2;have kk:=oldF _ _ (hdN fkd) k5;have ll:=oldF _ _ (hdN fls) l5;have d':=oldF _ _ (hdN fdd) d5;simp only [Ae,Ag,or_false] at hb
     rcases hb with rfl|rfl|rfl|rfl|rfl
     ·rw [<- z,mf] at fe;cases fe
     ·rw [<- z,hf] at fe;cases fe
     ·rw [<- z,kk] at fe;cases fe
     ·rw [<- z,ll] at fe;cases fe
     ·rw [<- z,d'] at fe;cases fe
end
structure Sn where
 kvs:List (Key×V)
 day:Int
 M:Int
 zs:List Th
structure En where
 b:V
 q:V
 q2:V
 d:Dd
 s:Sn
 a:Addr
 hd:Addr
 kd:Addr
 ls:Addr
 dd:Addr
 zi:List (Th×Addr)
def En.la (e:En):List Addr:=La e.a e.hd e.kd e.ls e.dd e.zi
def DAt (H:Hp)(v:V)(d:Dd):Prop:=∃ q,v=.ref q/\H q=some (.tup d.row)
def DAt.keep (h:DAt H v d)(t:Tk H H'):DAt H' v d:=by
 obtain ⟨q,h1,h2⟩:=h;exact ⟨q,h1,t _ _ h2⟩
def dsOf (es:List En):List V:=(es.map (·.q2)).reverse
def bsOf (es:List En):List V:=(es.map (·.q)).reverse
def bfOf (es:List En):List V:=(es.map (·.b)).reverse
structure SnOk (H:Hp)(X:List Addr)(b1:Bool)(n:Nat)(s:Sn):Prop where
 th:Ths H X s.M n s.kvs s.zs
 g:ZOk s.M n s.zs
 d0:0<=s.day
 d1:s.day<=1000000
 db:b1=false->s.day<=2*(n:Int)
def PHs (H:Hp)(big b1:Bool):List Addr->Sn->List En->Prop
 |X,cur,[]=>cur.kvs=[]/\cur.day=0/\cur.M=1/\cur.zs=[]
 |X,cur,e::es=>BfK H X e.b e.s.kvs e.s.day cur.kvs/\Stp es.length e.s.M e.s.zs e.s.day e.d cur.M cur.zs cur.day/\SnOk H (X++e.la) b1 es.length e.s/\(DAt H e.q e.d/\DAt H e.q2 e.d)/\LG H e.a e.hd e.kd e.ls e.dd big e.s.M e.s.day es.length (dsOf es) e.zi/\e.zi.map (·.1)=e.s.zs/\(∀ x∈e.la,x∉X)/\PHs H big b1 (X++e.la) e.s es
def Fm (X X':List Addr)(H H':Hp):Prop:=∀ b o,b∉X->H b=some o->H' b=some o/\b∉X'
def Fm.more (k:Fm X X' H H'):Fm (X++Y) (X'++Y) H H':=λb o nb e=>by
 rw [Aj,not_or] at nb;obtain ⟨h1,h2⟩:=k b o nb.1 e;exact ⟨h1,λz=>(Aj.mp z).elim h2 nb.2⟩
def aDf {M:Int}{n:Nat}(h:Ths H X M n kvs zs)(k:Fm X X' H H')(t:Tk H H'):Ths H' X' M n kvs zs:=bG (λkv z ⟨e,q,d1,d2,r1,⟨h1,⟨kvs,ks,e1,e2,e3⟩,⟨ws,w1,w2⟩⟩,r3,r4⟩=>by
 obtain ⟨a1,a2⟩:=k d1 _ r3 e1;obtain ⟨b1,b2⟩:=k d2 _ r4 w1;exact ⟨e,q,d1,d2,r1,⟨t _ _ h1,⟨kvs,ks,a1,e2.keep t,e3⟩,⟨ws,b1,w2.keep t (Ak _)⟩⟩,a2,b2⟩) h
def SnOk.keep {b1:Bool}{n:Nat}(h:SnOk H X b1 n s)(k:Fm X X' H H')(t:Tk H H'):SnOk H' X' b1 n s:=⟨aDf h.th k t,h.g,h.d0,h.d1,h.db⟩
theorem PHs.keep {big b1:Bool}(t:Tk H H'):∀ {es:List En} {X X':List Addr} {cur:Sn},PHs H big b1 X cur es->Fm X X' H H'->PHs H' big b1 X' cur es
 |[],_,_,_,h,_=>h
 |e::es,X,X',cur,⟨h1,h2,h3,h4,h5,h6,h7,h8⟩,k=>by
  have al:=h5.s.allo;have lk:∀ b∈e.la,∀ o,H b=some o->H' b=some o:=λb hb o w=>(k b o (h7 b hb) w).1;refine ⟨h1.keep k t,h2,h3.keep k.more t,⟨h4.1.keep t,h4.2.keep t⟩,⟨h5.s.keep lk,h5.g⟩,h6,λx hx=>?_,PHs.keep t h8 k.more⟩;cases w:H x with
  |none=>exact absurd w (al x hx)
  |some o=>exact (k x o (h7 x hx) w).2
def PHs.weak {big b1:Bool}(h:PHs H big b1 X cur es)(s:∀ b∈X',b∈X):PHs H big b1 X' cur es:=h.keep (λ_ _ e=>e) λb o nb e=>⟨e,λz=>nb (s b z)⟩
theorem PHs.pop {big b1:Bool}:∀ {es:List En} {X:List Addr} {cur:Sn},PHs H big b1 X cur es->∀ {j:Nat} {e:En},es[j]?=some e->PHs H big b1 (X++e.la) e.s (es.drop (j+1))/\SnOk H (X++e.la) b1 (es.drop (j+1)).length e.s/\LG H e.a e.hd e.kd e.ls e.dd big e.s.M e.s.day (es.drop (j+1)).length (dsOf (es.drop (j+1))) e.zi/\e.zi.map (·.1)=e.s.zs/\∀ x∈e.la,x∉X
 |[],_,_,_,j,e,h=>by simp at h
 |e0::es,X,cur,⟨h1,h2,h3,h4,h5,h6,h7,h8⟩,0,e,h=>by
  have e1:e0=e:=AF h;subst e1;exact ⟨h8,h3,h5,h6,h7⟩
 |e0::es,X,cur,⟨h1,h2,h3,h4,h5,h6,h7,h8⟩,j+1,e,h=>by
  obtain ⟨g1,g2,g3,g4,g5⟩:=PHs.pop h8 (j:=j) (e:=e) (by simpa using h);have sub:∀ b∈X++e.la,b∈X++e0.la++e.la:=λb hb=>(Aj.mp hb).elim (λz=>Af _ (Af _ z)) (λz=>Ac _ z);exact ⟨g1.weak sub,g2.keep (λb o nb w=>⟨w,λz=>nb (sub b z)⟩) (λ_ _ w=>w),g3,g4,λx hx z=>g5 x hx (Af _ z)⟩
theorem PHs.step {big b1:Bool}:∀ {es:List En} {X:List Addr} {cur:Sn},PHs H big b1 X cur es->∀ {i:Nat} {e:En},es.reverse[i]?=some e->∃ s',(es.reverse.map (·.s)++[cur])[i+1]?=some s'/\Stp i e.s.M e.s.zs e.s.day e.d s'.M s'.zs s'.day/\DAt H e.q2 e.d/\DAt H e.q e.d
 |[],_,_,_,i,e,h=>by simp at h
 |e0::es,X,cur,⟨h1,h2,h3,h4,h5,h6,h7,h8⟩,i,e,h=>by
  rw [BJ] at h ⊢
  by_cases c:i<es.length
  ·rw [Bs (by rw [AI];exact c)] at h
   obtain ⟨s',g1,g2,g3⟩:=PHs.step h8 h;refine ⟨s',?_,g2,g3⟩;rw [AC,Bs (by rw [Az,Ab,AI];show i+1<es.length+1;omega)];exact g1
  ·have il:=(Ad.mp h).1
   rw [Az,AI] at il;have ei:i=es.length:=by have:i<es.length+1:=il;omega
   subst ei;have:e=e0:=by
    rw [BE (by rw [AI];exact Ak _),AI,Nat.sub_self] at h;exact (AF h).symm
   subst this;refine ⟨cur,?_,h2,h4.2,h4.1⟩;rw [BE (by rw [Ab,Az,AI];exact Ak _),Ab,Az,AI];show [cur][es.length+1-(es.length+1)]?=some cur;rw [Nat.sub_self];rfl
theorem PHs.first {big b1:Bool}:∀ {es:List En} {X:List Addr} {cur:Sn},PHs H big b1 X cur es->∃ s,(es.reverse.map (·.s)++[cur])[0]?=some s/\s.day=0/\s.M=1/\s.zs=[]
 |[],_,cur,⟨_,h2,h3,h4⟩=>⟨cur,rfl,h2,h3,h4⟩
 |e0::es,X,cur,⟨_,_,_,_,_,_,_,h8⟩=>by
  obtain ⟨s,g1,g2⟩:=PHs.first h8;refine ⟨s,?_,g2⟩;rw [BJ,AC,Bs (by rw [Az,Ab,AI];show 0<es.length+1;omega)];exact g1
abbrev sAgain:Stmt:=top 51
def lQ (C:Addr)(K:Aa):Sp:=λvs H Q _=>∃ (dl2:Addr) (big b1:Bool) (X:List Addr) (cur:Sn) (es:List En),vs=[.ref dl2]/\H dl2=some (.lst (dsOf es))/\PHs H big b1 X cur es/\es.length<=50 /\
 ∀ p dl dt db bs kvs bf H',Same H H'->(∀ b∈[p,dl,dt,db],H b=none)->PS C H' [p,dl,dt,db] p dl dt db bs kvs cur.day bf cur.M es.length cur.zs->Paired (DAt H') bs (es.reverse.map (·.d))->Q (.ref p) H'
section
variable {P:AE}{w:World}{K:Aa}{mg:Str->Option Value}{base:Heap}
def oZ:FnScope ["_law_deeds","_law_books","_law_deed"] ["_law_deeds"] (aG sAgain):=fnScOk (by decide +kernel)
def yN (F:Fun K "_law_again" "_law_again" sAgain f fd)(L:Cl K mg C)(mgC:mg "Books" = some (.ref C))(M:Mk K C fI)(GI:FnOk P w K mg base CX0 7 fI fdI ["self"] (qA C))(bI:Binds K fdI ["self"] [])(cD:Cal P w K mg base CX0 8 "_law_do" ["_law_books","_law_deed"] (spDo C K)):FnOk P w K mg base CX0 9 f fd ["_law_deeds"] (lQ C K):=by
 refine F.ok oZ (λvs H Q E h=>?_) (λcdv A outer s0 H vs Q E hr h=>?_)
 ·obtain ⟨_,_,_,_,_,_,rfl,_⟩:=h
  rfl
 ·obtain ⟨dl2,big,b1,X,cur,es,rfl,hd,PH,el,k⟩:=h
  refine ⟨_,(aC (aT (i:=1) oZ.nd rfl (Or.inl rfl) (qP M GI hr rfl mgC bI .nil aR))
   (aC (dW Bc rfl (cK (pv 0)) (aY (i:=2) oZ.nd rfl (Or.inl rfl))
    (aF (bD (aV cD hr rfl aR (aA (pv 1) (aA (pv 2) aE))))))
   (aF (aK (pv 1))))),?_⟩
  refine cut3 ?_
  intros
  intro p dx np ndx nex;refine ⟨p,dx,rfl,aB,λdl dt db H2 f1 f2 f3 B2 kp=>⟨rfl,?_⟩⟩;have s12:Same H H2:=λb o e=>kp b o (by rw [aD (aX e np),aD (aX e ndx)];exact e) (aX e np);have fr:∀ {b:Addr},upd (upd H dx (.own p)) p (.ins C dx []) b=none->H b=none:=λ{b} h=>by
   by_cases z:b=p
   ·rw [z,aB] at h;cases h
   ·rw [aD z] at h
    by_cases z':b=dx
    ·rw [z',aB] at h;cases h
    ·rw [aD z'] at h;exact h
  have frs:∀ b∈[p,dl,dt,db],H b=none:=λb hb=>by
   simp only [Ae,Ag,or_false] at hb
   rcases hb with rfl|rfl|rfl|rfl
   ·exact np
   ·exact fr f1
   ·exact fr f2
   ·exact fr f3
  have out:∀ {b:Addr} {o:HO},H b=some o->Out p dl dt db b:=λ{b o} e=>⟨aX e np,aX e (fr f1),aX e (fr f2),aX e (fr f3)⟩;have g0:ZOk 1 0 []:=⟨DF,(λz h=>nomatch h),(λz h=>nomatch h),(λz h=>nomatch h),by decide,eE 1 (c:=2) (by decide) (by decide),Ak _,by decide⟩;have P0:PS C H2 [p,dl,dt,db] p dl dt db [] [] 0 [] 1 0 []:=⟨B2,.nil,rfl,rfl,⟨by simp,by simp,by simp,by simp⟩,λb hb=>(by
   obtain ⟨⟨dx,h0⟩,h1,h2,h3,_⟩:=id B2;simp only [Ae,Ag,or_false] at hb
   rcases hb with rfl|rfl|rfl|rfl
   ·rw [h0];simp
   ·rw [h1];simp
   ·rw [h2];simp
   ·rw [h3];simp),g0⟩
  obtain ⟨s1,e1,e2,e3,e4⟩:=PH.first;refine ⟨_,rfl,dl2,rfl,⟨_,SqL.of (s12 _ _ hd)⟩,?_⟩;have dl':(dsOf es).length=es.length:=by unfold dsOf;rw [AI,Ab]
  refine jD (xs:=dsOf es) (λi σ H'=>∃ (v2:Option V) (bs:List V) (kvs:List (Key×V)) (bf:List V) (s:Sn),σ=[some (.ref dl2),some (.ref p),v2]/\Same H H'/\(es.reverse.map (·.s)++[cur])[i]?=some s/\PS C H' [p,dl,dt,db] p dl dt db bs kvs s.day bf s.M i s.zs/\Paired (DAt H') bs ((es.reverse.take i).map (·.d)))
   ⟨none,[],[],[],s1,rfl,s12,e1,by rw [e2,e3,e4];exact P0,.nil⟩ (λi σ H' _ hh=>by obtain ⟨_,_,_,_,_,_,sm,_⟩:=hh;exact SqL.of (sm _ _ hd)) ?_ ?_
  ·rintro i v σ H3 hv hh
   obtain ⟨v2,bs,kvs,bf,s,rfl,sm,hs,PS3,pd⟩:=hh;have il:=(Ad.mp hv).1;rw [dl'] at il;obtain ⟨e,he⟩:∃ e,es.reverse[i]?=some e:=⟨_,Al (by rw [AI];exact il)⟩;have ev:v=e.q2:=by
    unfold dsOf at hv;rw [<- List.map_reverse,Ah,he] at hv;exact (AF hv).symm
   have es':s=e.s:=by
    rw [Bs (by rw [Ab,AI];exact il),Ah,he] at hs;exact (AF hs).symm
   subst es';obtain ⟨s',g1,g2,⟨q,eq,hq⟩,_⟩:=PH.step he;rw [ev,eq];refine ⟨_,rfl,_,rfl,[p,dl,dt,db],p,dl,dt,db,bs,kvs,_,bf,_,i,_,e.d,_,_,_,q,rfl,PS3,SqT.of (sm _ _ hq),g2,by omega,λq' kvs' bf' H4 P4 b4 hq4 k4=>?_⟩;have tk4:=PS3.bk.tk k4;refine ⟨_,_,_,_,s',rfl,λb o w=>k4 b o (out w) (sm b o w),g1,P4,?_⟩;rw [Ci,he,AC];exact fD (bG (λ_ _ r=>r.keep tk4) pd) ⟨q',rfl,hq4⟩
  ·rintro σ H3 hh
   obtain ⟨v2,bs,kvs,bf,s,rfl,sm,hs,PS3,pd⟩:=hh;rw [dl'] at hs PS3 pd;have es':s=cur:=by
    rw [BE (by rw [Ab,AI];exact Ak _),Ab,AI,Nat.sub_self] at hs;exact (AF hs).symm
   subst es';rw [DB (by rw [AI];exact Ak _)] at pd;exact ⟨_,rfl,k p dl dt db bs kvs bf _ sm frs PS3 pd⟩
end
theorem gZ (e:En)(es:List En):dsOf (e::es)=dsOf es++[e.q2]:=by unfold dsOf;rw [Ao,BJ]
theorem kL (e:En)(es:List En):bsOf (e::es)=bsOf es++[e.q]:=by unfold bsOf;rw [Ao,BJ]
theorem oN (e:En)(es:List En):bfOf (e::es)=bfOf es++[e.b]:=by unfold bfOf;rw [Ao,BJ]
def Dd.dl':Dd->List Dt
 |.take x w m l=>[.s "take",.s x,.s w,.i m,.i l]
 |.go d=>[.s "go",.i d]
 |.pour x y m=>[.s "pour",.s x,.s y,.i m]
 |.give x y m=>[.s "give",.s x,.s y,.i m]
def Dd.rowDL {K:Aa}{H:Hp}(d:Dd):DL K H 40 d.row d.dl':=by
 cases d with
 |take x w m l=>exact .cons .s (.cons .s (.cons .s (.cons .i (.cons .i .nil))))
 |go d=>exact .cons .s (.cons .i .nil)
 |pour x y m=>exact .cons .s (.cons .s (.cons .s (.cons .i .nil)))
 |give x y m=>exact .cons .s (.cons .s (.cons .s (.cons .i .nil)))
theorem PHs.at {big b1:Bool}:∀ {es:List En} {X:List Addr} {cur:Sn},PHs H big b1 X cur es->cur.kvs.length<=100->∀ {k:Nat} {e:En} {s:Sn},es[k]?=some e->(cur::es.map (·.s))[k]?=some s->BfK H X e.b e.s.kvs e.s.day s.kvs/\DAt H e.q e.d/\DAt H e.q2 e.d/\s.kvs.length<=100
 |[],_,_,_,_,k,e,s,h,_=>by simp at h
 |e0::es,X,cur,⟨h1,h2,h3,h4,h5,h6,h7,h8⟩,kl,0,e,s,h,hs=>by
  have e1:e0=e:=AF h;have e2:cur=s:=AF hs;subst e1;subst e2;exact ⟨h1,h4.1,h4.2,kl⟩
 |e0::es,X,cur,⟨h1,h2,h3,h4,h5,h6,h7,h8⟩,kl,k+1,e,s,h,hs=>by
  have l0:e0.s.kvs.length<=100:=by
   have:=bY h3.th;have:=h3.g.ln;have:=h3.g.n60;omega
  obtain ⟨g1,g2⟩:=PHs.at h8 l0 (k:=k) (e:=e) (s:=s) (by simpa using h) (by simpa using hs);exact ⟨g1.keep (λb o nb w=>⟨w,λz=>nb (Af _ z)⟩) (λ_ _ w=>w),g2⟩
abbrev sBacks:Stmt:=top 56
def oV (C:Addr):Sp:=λvs H Q _=>∃ (p dl dt db dl2:Addr) (many:Int) (big b1:Bool) (X:List Addr) (cur:Sn) (es:List En),vs=[.ref p,.ref dl2,.int many]/\Bk C H p dl dt db (bsOf es) cur.kvs cur.day (bfOf es)/\PHs H big b1 X cur es/\(∀ b∈[p,dl,dt,db,dl2],b∈X)/\Out p dl dt db dl2/\H dl2=some (.lst (dsOf es))/\cur.kvs.length<=100/\0<=many/\many<=100/\es.length<=50 /\
 ∀ s H',(cur::es.map (·.s))[min many.toNat es.length]?=some s->Bk C H' p dl dt db (bsOf (es.drop (min many.toNat es.length))) s.kvs s.day (bfOf (es.drop (min many.toNat es.length)))->H' dl2=some (.lst (dsOf (es.drop (min many.toNat es.length))))->(∀ b o,b∉[p,dl,dt,db,dl2]->H b=some o->H' b=some o)->Q (.bl true) H'
section
variable {P:AE}{w:World}{K:Aa}{mg:Str->Option Value}{base:Heap}
def lW:FnScope ["_law_books","_law_deeds","_law_many","_law_k","_law_found","_law_due"] ["_law_books","_law_deeds","_law_many"] (aG sBacks):=fnScOk (by decide +kernel)
def yK (F:Fun K "_law_backs" "_law_backs" sBacks f fd)(T:Txt mg)(L:Cl K mg C)(cN:Cal P w K mg base CX0 2 "_law_none_left" ["_law_books"] (fY C))(mB:MCal P w K mg base CX0 2 C "back" ["self"] (tJ C))(mD:MCal P w K mg base CX0 2 C "done" ["self"] (qB C)):FnOk P w K mg base CX0 3 f fd ["_law_books","_law_deeds","_law_many"] (oV C):=by
 refine F.ok lW (λvs H Q E h=>?_) (λcdv A outer s0 H vs Q E hr h=>?_)
 ·obtain ⟨_,_,_,_,_,_,_,_,_,_,_,rfl,_⟩:=h
  rfl
 ·obtain ⟨p,dl,dt,db,dl2,many,big,b1,X,cur,es,rfl,B,PH,inX,od,hd,ckl,m0,m1,el,k⟩:=h
  refine ⟨_,(aC (dW Bc rfl (fR rfl T.range (aA (pv 2) aE)) (aY (i:=3) lW.nd rfl (Or.inl rfl))
    (aC (bC (aP (jP hr.units) (pv 1) (dH aE) (aU _))
     (aF (aK (iO (aV cN hr rfl aR (aA (pv 0) aE)) (iN (dM (jP hr.units) (fS L.cl mD hr aR (pv 0)) (dH aE) (aU _))))))
     aQ)
    (aC (aT (i:=4) lW.nd rfl (Or.inl rfl) (fS L.cl mB hr aR (pv 0)))
    (aC (aT (i:=5) lW.nd rfl (Or.inl rfl) (qQ Bb DA Dz qT (pv 1)))
    (aF (bC (PW.pt (jJ (eC (cU (aS jF rfl T.isi CL (aA (pv 4) (aA (jM (v:=.ty "tuple") rfl T.tup' zI rfl) aE))))) (gG (aP (aBs hr.units) (pv 4) (pv 5) (aU _)))))
     (aF (aK gF))
     aQ))))))
   (aF (aK gF))),?_⟩
  refine ⟨_,rfl,many,rfl,by omega,by omega,?_⟩;refine eY (λi σ H'=>∃ (v3 v4 v5:Option V) (s:Sn),σ=[some (.ref p),some (.ref dl2),some (.int many),v3,v4,v5]/\i<=es.length/\(cur::es.map (·.s))[i]?=some s/\Bk C H' p dl dt db (bsOf (es.drop i)) s.kvs s.day (bfOf (es.drop i))/\H' dl2=some (.lst (dsOf (es.drop i)))/\∀ b o,b∉[p,dl,dt,db,dl2]->H b=some o->H' b=some o)
   ⟨none,none,none,cur,rfl,Bv _,rfl,B,hd,λ_ _ _ e=>e⟩ ?_ ?_
  ·rintro i σ H1 hi hh
   obtain ⟨v3,v4,v5,s,rfl,ie,hs,B1,hd1,kp⟩:=hh;refine ⟨_,rfl,zLn0,λz hz=>?_⟩;have t1:=Same.upd (o:=.lst []) hz;have hd2:=t1 _ _ hd1;have B2:=B1.keep t1;have kp2:∀ b o,b∉[p,dl,dt,db,dl2]->H b=some o->(upd H1 z (.lst [])) b=some o:=λb o nb e=>t1 _ _ (kp b o nb e);have hz2:(upd H1 z (.lst [])) z=some (.lst []):=aB;generalize upd H1 z (.lst [])=H2 at t1 hd2 B2 kp2 hz2 ⊢
   by_cases c:i<es.length
   ·obtain ⟨e,he⟩:∃ e,es[i]?=some e:=⟨_,Al c⟩
    have ed:es.drop i=e::es.drop (i+1):=by rw [List.drop_eq_getElem_cons c,(Ad.mp he).2]
    rw [ed] at B2 hd2;rw [gZ] at hd2;rw [kL,oN] at B2;refine ⟨dl2,z,_,rfl,rfl,SqL.of hd2,SqL.of hz2,_,rfl,ite2 (λh=>by revert h;cases dsOf (es.drop (i+1))<;>intro h<;>cases h) (λ_=>?_)⟩;obtain ⟨bk,⟨q,eq,hq⟩,⟨q2,eq2,hq2⟩,skl⟩:=PH.at ckl he hs;have tk2:Tk H H2:=λb xs w=>kp2 b _ (λz'=>by
     have hb:=inX b z';simp only [Ae,Ag,or_false] at z';obtain ⟨⟨dx0,b0⟩,b1',b2',b3',_⟩:=id B
     rcases z' with rfl|rfl|rfl|rfl|rfl
     ·rw [b0] at w;cases w
     ·rw [b1'] at w;cases w
     ·rw [b2'] at w;cases w
     ·rw [b3'] at w;cases w
     ·rw [hd] at w;cases w) w
    have bk2:BfK H2 [p,dl,dt,db] e.b e.s.kvs e.s.day s.kvs:=bk.keep (λb o nb w=>⟨kp2 b o (λz'=>nb (inX b z')) w,λz'=>nb (inX b (by simp only [Ae,Ag,or_false] at z' ⊢;rcases z' with h|h|h|h<;>simp [h]))⟩) tk2;obtain ⟨⟨dx2,h02⟩,_⟩:=id B2;refine ⟨_,rfl,p,dx2,_,rfl,h02,(by kernel_rfl),p,dl,dt,db,_,s.kvs,s.day,_,e.q,e.s.kvs,e.s.day,e.b,rfl,B2,bk2,skl,λH3 B3 k3=>?_⟩;have hd3:=k3 _ _ od hd2;refine ⟨_,rfl,.inl ⟨rfl,_,SqL.of hd3⟩,dl2,_,_,rfl,rfl,hd3,gX _ _,?_⟩;rw [eD];have tk3:=B2.tk k3;have q4:(upd H3 dl2 (.lst (dsOf (es.drop (i+1))))) q=some (.tup e.d.row):=by
     have w:=tk3 _ _ (tk2 _ _ hq);rw [aD (λz'=>by rw [z',hd3] at w;cases w)];exact w
    have q24:(upd H3 dl2 (.lst (dsOf (es.drop (i+1))))) q2=some (.tup e.d.row):=by
     have w:=tk3 _ _ (tk2 _ _ hq2);rw [aD (λz'=>by rw [z',hd3] at w;cases w)];exact w
    rw [eq,eq2];refine ⟨_,rfl,_,"tuple",true,rfl,.tup_tuple (SqT.of q4),_,rfl,iteF ⟨_,rfl,_,rfl,q,q2,_,_,e.d.dl',rfl,rfl,SqT.of q4,SqT.of q24,e.d.rowDL,e.d.rowDL,_,rfl,iteF ?_⟩⟩;refine ⟨_,_,_,e.s,rfl,c,by rw [Cg,Ah,he];rfl,?_,aB,λb o nb w=>?_⟩
    ·obtain ⟨⟨dx3,b0⟩,b1',b2',b3',b4'⟩:=B3
     exact ⟨⟨dx3,by rw [aD (Au od.1)];exact b0⟩,by rw [aD (Au od.2.1)];exact b1',by rw [aD (Au od.2.2.1)];exact b2',by rw [aD (Au od.2.2.2)];exact b3',b4'⟩
    ·have w2:=kp2 b o nb w
     simp only [Ae,Ag,or_false,not_or] at nb;rw [aD nb.2.2.2.2];exact k3 b o ⟨nb.1,nb.2.1,nb.2.2.1,nb.2.2.2.1⟩ w2
   ·have ei:i=es.length:=by omega
    have mi:min many.toNat es.length=i:=by
     have:i<many.toNat:=hi;omega
    have ed:es.drop i=[]:=List.drop_eq_nil_of_le (by omega);rw [mi] at k;have B2':=B2;have hd2':=hd2;rw [ed] at B2 hd2;refine ⟨dl2,z,[],rfl,rfl,SqL.of hd2,SqL.of hz2,_,rfl,iteT ?_⟩;refine ⟨_,rfl,p,dl,dt,db,s.kvs,s.day,_,rfl,B2,λH3 s3=>⟨_,rfl,iteT ?_⟩⟩;have B3:=B2.keep s3;obtain ⟨⟨dx3,h03⟩,_⟩:=id B3;refine ⟨_,rfl,p,dx3,_,rfl,h03,(by kernel_rfl),p,dl,dt,db,_,_,_,_,rfl,B3,λz3 hz3=>?_⟩;have t4:=Same.upd (o:=.lst (bsOf [])) hz3;refine ⟨zLn0,λz5 hz5=>?_⟩;have t5:=Same.upd (o:=.lst []) hz5;have s35:=s3.trans (t4.trans t5);exact ⟨z3,z5,[],rfl,rfl,SqL.of (t5 _ _ aB),SqL.of aB,k s _ hs (B2'.keep s35) (s35 _ _ hd2') λb o nb w=>s35 _ _ (kp2 b o nb w)⟩
  ·rintro σ H1 hh
   obtain ⟨v3,v4,v5,s,rfl,ie,hs,B1,hd1,kp⟩:=hh;have mi:min many.toNat es.length=many.toNat:=Nat.min_eq_left ie;rw [mi] at k;exact k s _ hs B1 hd1 kp
end
end K77
namespace L2
open PySem PySem.Spec PyProof.Rows
def rW {β:Type}{J:It}{xs:List V}{D:Addr}{g:TG}{tt:TT}{te:TE}{σ0:St}{QD:Hp->Prop}{H1:Hp}(Y:Ys J xs H1)(rs:List β)(el:xs.length=rs.length)(p:β->Bool)(Pr:β->V->Hp->Prop)(hP:∀ r y H H',Pr r y H->(∀ b o,b≠D->H b=some o->H' b=some o)->Pr r y H')(hD:H1 D=none)(hl:xs.length<=3000)
  (hs:∀ (i:Nat) x r H' (R1:VK) (R2:Hp->Prop),xs[i]?=some x->rs[i]?=some r->Same H1 H'->(∃ ys,H' D=some (.lst ys))->(p r=true->∀ y H4,Same H' H4->Pr r y H4->R1 y H4)->(p r=false->∀ H4,Same H' H4->R2 H4)->g x σ0 H' λσ2 H2=>Keep σ0 σ2/\tt σ2 H2 λb H3=>if b=true then te σ2 H3 R1 else R2 H3)
  (hd:∀ ys H',Same H1 H'->H' D=some (.lst ys)->Paired (λy r=>Pr r y H') ys (rs.filter p)->QD H') :
  ∃ W:Nat->Nat->List V->Hp->Prop,(∃ m,W 0 m [] (upd H1 D (.lst [])))/\∀ i m ys H,W i m ys H->H D=some (.lst ys)/\ys.length<AB /\
   ((J.stop i H/\QD H)\/(J.go i H/\∀ x H',J.yld i H x H'->g x σ0 H' λσ2 H2=>Keep σ0 σ2/\tt σ2 H2 λb H3=>
    if b=true then te σ2 H3 λy H4=>H4 D=some (.lst ys)/\∃ m',m'<m/\W (i+1) m' (ys++[y]) (upd H4 D (.lst (ys++[y]))) else ∃ m',m'<m/\W (i+1) m' ys H3)):=by
 refine ⟨λi m ys H=>m=xs.length-i/\i<=xs.length/\Same H1 H/\H D=some (.lst ys)/\Paired (λy r=>Pr r y H) ys ((rs.take i).filter p),⟨_,rfl,Bv _,Same.upd hD,aB,.nil⟩,?_⟩
 rintro i m ys H ⟨rfl,hi,sm,hDH,pr⟩
 have yl:ys.length<=i:=by
  rw [Paired.length pr];refine AX (BY _ _) ?_;rw [Bn];exact Nat.min_le_left ..
 refine ⟨hDH,qD (by omega),?_⟩
 by_cases hlt:i<xs.length
 ·refine .inr ⟨Y.go i H sm hlt,λx H' y=>?_⟩
  obtain ⟨rfl,hx⟩:=Y.yld i H x H' sm hlt y;obtain ⟨r,hr⟩:∃ r,rs[i]?=some r:=⟨_,Al (by omega)⟩;have et:(rs.take (i+1)).filter p=(rs.take i).filter p++if p r=true then [r] else []:=by
   rw [Ci,hr,Ct]
   congr 1
   show List.filter p [r]=_
   by_cases e:p r=true
   ·rw [if_pos e,CH e];rfl
   ·rw [if_neg e,CI e];rfl
  refine hs i x r H' _ _ hx hr sm ⟨_,hDH⟩ (λhp y H4 s4 py=>?_) λhp H4 s4=>?_
  ·have hD4:=s4 _ _ hDH
   have kp:∀ b o,b≠D->H4 b=some o->(upd H4 D (.lst (ys++[y]))) b=some o:=λb o nb e=>by rw [aD nb];exact e
   refine ⟨hD4,xs.length-(i+1),by omega,rfl,hlt,λb o hb=>?_,aB,?_⟩
   ·rw [aD (aX hb hD)]
    exact s4 _ _ (sm _ _ hb)
   ·rw [et,if_pos hp]
    exact Paired.snoc (Paired.mapP pr λ_ _ z=>hP _ _ _ _ (hP _ _ _ _ z λb o _ e=>s4 b o e) kp) (hP _ _ _ _ py kp)
  ·refine ⟨xs.length-(i+1),by omega,rfl,hlt,sm.trans s4,s4 _ _ hDH,?_⟩
   rw [et,if_neg (by rw [hp];decide),Ck];exact Paired.mapP pr λ_ _ z=>hP _ _ _ _ z λb o _ e=>s4 b o e
 ·have e:i=xs.length:=by omega
  subst e;rw [el,Bq] at pr;exact .inl ⟨Y.stop _ H sm (Ak _),hd ys H sm hDH pr⟩
theorem sO:∀ {ys:List V} {ss:List Str},Paired (λy (r:Str)=>y=V.str r) ys ss->ys=ss.map V.str
 |_,_,.nil=>rfl
 |_,_,.cons e t=>by rw [Ao,e,sO t]
end L2
namespace K77
open PySem PySem.Spec PyProof.Rows L2 GM TM
abbrev RwPr (H0 H:Hp)(w:Str->List Int)(c:Addr)(s:Str):Prop:=∃ l,H c=some (.tup [.str s,.ref l])/\H l=some (.lst ((w s).map V.int))/\H0 l=none/\(w s).length<=60
def sU (C:Addr):Sp:=λvs H Q _=>∃ L p dl dt db bs kvs day bf M n zs z,vs=[.ref p,.str z.x]/\PS C H L p dl dt db bs kvs day bf M n zs/\z∈zs /\
 ∀ D cs ss H',Same H H'->H D=none->H' D=some (.lst (cs.map V.ref))->Paired (RwPr H H' z.w) cs ss->ss.Perm z.ks->sortedS ss=true->Q (.ref D) H'
section
variable {P:AE}{w:World}{K:Aa}{mg:Str->Option Value}{base:Heap}
def ndRw:(["lot","ways"]:List Str).Nodup:=by decide +kernel
def zU:FnScope ["self","name","ways"] ["self","name"] (aG rJ):=fnScOk (by decide +kernel)
def aB1 {f C:Addr}{fd:Bj}(F:Fun K "rows_to" "Books.rows_to" rJ f fd)(T:Txt mg)(L:Cl K mg C)(mT:MCal P w K mg base CX0 3 C "thing_of" ["self","name"] (hU C)):FnOk P w K mg base CX0 4 f fd ["self","name"] (sU C):=by
 refine F.ok zU (λvs H Q E h=>?_) (λcdv A outer s H vs Q E hr h=>?_)
 ·obtain ⟨_,_,_,_,_,_,_,_,_,_,_,_,_,rfl,_⟩:=h
  rfl
 ·obtain ⟨l,p,dl,dt,db,bs,kvs,day,bf,M,n,zs,z,rfl,B,hz,k⟩:=h
  refine ⟨_,(aC (aT (i:=2) zU.nd rfl (Or.inr rfl) (cR gY (cQ L.cl mT hr aR (pv 0) (aA (pv 1) aE)) aH (λ_ _=>rfl)))
   (aF (aK (eQ (N':=["lot","ways"]) (λσ=>[none,some 2].map λt=>t.bind λj=>(σ[j]?).join) rfl rfl (by decide +kernel) (by decide +kernel)
     (iF (sc:=aG rJ) rfl (by decide +kernel)) (λ_ _ _=>dR (sc:=aG rJ) (N:=["self","name","ways"]) [none,some 2] rfl rfl rfl rfl (by decide +kernel))
     (cK (aS (dG rfl) rfl T.sorted' DQ (aA (pv 2) aE))) (λ_ _ _ _ _ _=>aY (i:=0) ndRw rfl (Or.inl rfl)) (λ_ _ _ _ _ _=>dE)
     (λ_ _ _ _ _ _=>bF (aA (pv 0) (aA (bP (fH (K:=K) rfl) rfl T.list' gO (aA (aI (aO hr) (pv 1) (pv 0) (λ_ _=>rfl)) aE)) aE))))))),?_⟩
  obtain ⟨⟨dx,h0⟩,hl,ht,hb,n6⟩:=id B.bk;refine ⟨_,rfl,p,dx,_,rfl,h0,(by kernel_rfl),_,rfl,l,p,dl,dt,db,bs,kvs,day,bf,M,n,zs,z,rfl,B,hz,λq d1 d2 H1 s1 tq o1 o2=>?_⟩;obtain ⟨wv,e1,⟨wk,dk,mem⟩,wat⟩:=tq.hw;have to:=B.g.ok z hz;have pmw:wk.Perm z.ks:=(AR dk.nd to.nd).mpr mem;have kl:=pmw.length_eq;have n60:=B.g.n60;have tl:=to.ln;refine ⟨q,_,_,_,rfl,rfl,SqT.of tq.hq,rfl,_,rfl,d2,wv,wk,rfl,e1,dk.keys,by rw [dk.len];omega,λa ss pm so hz'=>?_⟩;have t2:=Same.upd (o:=.lst (ss.map V.str)) hz';have sl:=pm.length_eq;refine ⟨a,rfl,⟨_,SqL.of aB⟩,λD hD=>?_⟩;refine vX (Ys.list (xs:=ss.map V.str) (SqL.of aB)) (λj _ y H'=>∃ c s,y=.ref c/\ss[j]?=some s/\c≠D/\∃ l,H' c=some (.tup [.str s,.ref l])/\H' l=some (.lst ((z.w s).map V.int))/\H l=none/\l≠D/\(z.w s).length<=60) (λ_ _ _ _ _ ⟨c,s,r1,r2,r3,l,r4,r5,r6,r7,r8⟩ kp=>⟨c,s,r1,r2,r3,l,kp _ _ r3 r4,kp _ _ r7 r5,r6,r7,r8⟩) hD (by rw [Ab];omega) (λi y H' R hy sm hDl hR=>?_) (λys H5 sm hD5 yl hy=>?_)
  ·rw [Ah] at hy
   obtain ⟨x,hx,rfl⟩:=AA.mp hy;have s3:=t2.trans sm;obtain ⟨e,v1,v2,v3⟩:=wat x ((mem x).mp (pm.mem_iff.mp (Ar hx)));have g:DGet H' d2 (.str x) (some (.ref e)):=by rw [<- v1];exact DGet.k (k:=.inr x) (s3 _ _ e1)
   obtain ⟨ys0,hDl⟩:=hDl;refine ⟨(Keep.refl _).set rfl,_,rfl,_,rfl,_,rfl,d2,_,rfl,g,e,_,rfl,.inr (SqT.of (s3 _ _ v2)),λl2 hl2=>?_⟩;have t3:=Same.upd (o:=.lst ((z.w x).map V.int)) hl2;refine ⟨zLn2,λc hc=>hR _ _ (t3.trans (Same.upd hc)) ⟨c,x,rfl,hx,?_,l2,aB,Same.upd hc _ _ aB,same_none (s1.trans s3) hl2,?_,by omega⟩⟩
   ·intro q;rw [q,t3 _ _ hDl] at hc;cases hc
   ·intro q;rw [q,hDl] at hl2;cases hl2
  ·rw [Ab] at yl
   obtain ⟨cs,rfl,np⟩:=fO (Pr:=RwPr H H5 z.w) (ys:=ys) (ss:=ss) yl λj y hj=>by
    obtain ⟨x,hx⟩:∃ x,(ss.map V.str)[j]?=some x:=⟨_,Al (by have:=(Ad.mp hj).1;rw [Ab];omega)⟩;obtain ⟨c,s,r1,r2,_,l,r4,r5,r6,_,r8⟩:=hy j x y hx hj;exact ⟨c,s,r1,r2,l,r4,r5,r6,r8⟩
   exact k D cs ss _ ((s1.trans t2).trans sm) (same_none (s1.trans t2) hD) hD5 np (pm.trans pmw) so
end
def isDs (zs:List Th)(x:Str):Bool:=match zs.find? (λz=>decide (z.x=x)) with
 |some z=>decide (z.k = "dose")
 |none=>false
def hasY (zs:List Th)(y x:Str):Bool:=match zs.find? (λz=>decide (z.x=x)) with
 |some z=>decide (y∈z.ks)
 |none=>false
theorem vP {zs:List Th}(nd:(zs.map Th.x).Nodup){u:Th}(hu:u∈zs):zs.find? (λz=>decide (z.x=u.x))=some u:=by
 cases h:zs.find? (λz=>decide (z.x=u.x)) with
 |none=>exact absurd (List.find?_eq_none.mp h u hu) (by simp)
 |some z=>
  have e:z.x=u.x:=by simpa using List.find?_some h
  rw [kN nd (List.mem_of_find?_eq_some h) hu e]
theorem vF {zs:List Th}(nd:(zs.map Th.x).Nodup){u:Th}(hu:u∈zs):isDs zs u.x=decide (u.k = "dose"):=by unfold isDs;rw [vP nd hu]
theorem vK {zs:List Th}(nd:(zs.map Th.x).Nodup){u:Th}(hu:u∈zs)(y:Str):hasY zs y u.x=decide (y∈u.ks):=by unfold hasY;rw [vP nd hu]
abbrev CaPr (H0 H:Hp)(zs:List Th)(y:Str)(c:Addr)(s:Str):Prop:=∃ l z,z∈zs/\z.x=s/\y∈z.ks/\z.k = "dose" /\ H c=some (.tup [.str s,.ref l])/\H l=some (.lst ((z.w y).map V.int))/\H0 l=none/\(z.w y).length<=60
def lP (C:Addr):Sp:=λvs H Q _=>∃ L p dl dt db bs kvs day bf M n zs u,vs=[.ref p,.str u.x]/\PS C H L p dl dt db bs kvs day bf M n zs/\u∈zs/\u.k = "lot" /\
 ∀ D cs sn H',Same H H'->H D=none->H' D=some (.lst (cs.map V.ref))->sn.Perm (zs.map Th.x)->sortedS sn=true->Paired (CaPr H H' zs u.x) cs ((sn.filter (isDs zs)).filter (hasY zs u.x))->Q (.ref D) H'
section
variable {P:AE}{w:World}{K:Aa}{mg:Str->Option Value}{base:Heap}
def ndC1:(["name","self"]:List Str).Nodup:=by decide +kernel
def ndC2:(["name","self","lot"]:List Str).Nodup:=by decide +kernel
def qE:FnScope ["self","lot","doses"] ["self","lot"] (aG fN):=fnScOk (by decide +kernel)
theorem aFo (h:DK kvs ks)(hy:y∉ks):valV kvs (.inr y)=none:=by
 cases hv:valV kvs (As y) with
 |none=>rfl
 |some v=>exact absurd ((h.get y).mp (by rw [hv];rfl)) hy
theorem qJ :∀ {ys:List V} {ss:List Str},Paired (λy s=>∃ c,y=V.ref c/\Pr c s) ys ss->∃ cs:List Addr,ys=cs.map V.ref/\Paired Pr cs ss
 |_,_,.nil=>⟨[],rfl,.nil⟩
 |_,_,.cons ⟨c,e,h⟩ t=>by
  obtain ⟨cs,e2,p⟩:=qJ t;exact ⟨c::cs,by rw [e,e2];rfl,.cons h p⟩
def uM (F:Fun K "called" "Books.called" fN f fd)(T:Txt mg)(L:Cl K mg C)(mO:MCal P w K mg base CX0 3 C "is_one_of" ["self","name","words"] (hV C K)):FnOk P w K mg base CX0 4 f fd ["self","lot"] (lP C):=by
 refine F.ok qE (λvs H Q E h=>?_) (λcdv A outer s H vs Q E hr h=>?_)
 ·obtain ⟨_,_,_,_,_,_,_,_,_,_,_,_,_,rfl,_⟩:=h
  rfl
 ·obtain ⟨l,p,dl,dt,db,bs,kvs,day,bf,M,n,zs,u,rfl,B,hu,uk,k⟩:=h
  refine ⟨_,(aC (bC (eC (cU (cQ L.cl mO hr aR (pv 0) (aA (pv 1) (aA (bF (aA aJ aE)) aE))))) (aF iR) aQ)
   (aC (gU (iy:=2) (N':=["name","self"]) (λσ=>[none,some 0].map λt=>t.bind λj=>(σ[j]?).join) rfl rfl (by decide +kernel) (by decide +kernel)
     (iF (sc:=aG fN) rfl (by decide +kernel)) (λ_ _ _=>dR (sc:=aG fN) (N:=["self","lot","doses"]) [none,some 0] rfl rfl rfl rfl (by decide +kernel))
     (cK (aS (dG rfl) rfl T.sorted' DQ (aA (bU (pv 0) rfl) aE))) (λ_ _ _ _ _ _=>aY (i:=0) ndC1 rfl (Or.inl rfl))
     (λ_ _ _ _ _ _=>gB (cU (cQ L.cl mO hr aR (pv 1) (aA (pv 0) (aA (bF (aA aJ aE)) aE)))))
     (λ_ _ _ _ _ _=>pv 0) qE.nd rfl (Or.inl rfl) (Or.inr rfl) rfl)
   (aF (aK (eQ (N':=["name","self","lot"]) (λσ=>[none,some 0,some 1].map λt=>t.bind λj=>(σ[j]?).join) rfl rfl (by decide +kernel) (by decide +kernel)
     (iF (sc:=aG fN) rfl (by decide +kernel)) (λ_ _ _=>dR (sc:=aG fN) (N:=["self","lot","doses"]) [none,some 0,some 1] rfl rfl rfl rfl (by decide +kernel))
     (cK (pv 2)) (λ_ _ _ _ _ _=>aY (i:=0) ndC2 rfl (Or.inl rfl))
     (λ_ _ _ _ _ _=>gB (nP (tY (aO hr) (pv 2) (cR (fF (K:=K) rfl) (aI (aO hr) (gK (K:=K) rfl (pv 1) rfl) (pv 0) (λ_ _=>rfl)) aH (λ_ _=>rfl)))))
     (λ_ _ _ _ _ _=>bF (aA (pv 0) (aA (bP (fH (K:=K) rfl) rfl T.list' gO (aA (aI (aO hr) (cR (fF (K:=K) rfl) (aI (aO hr) (gK (K:=K) rfl (pv 1) rfl) (pv 0) (λ_ _=>rfl)) aH (λ_ _=>rfl)) (pv 2) (λ_ _=>rfl)) aE)) aE)))))))),?_⟩
  refine cut3 ?_
  intros
  obtain ⟨⟨dx,h0⟩,hl,ht,hb,n6⟩:=id B.bk;have nd:=B.g.nd;have n60:=B.g.n60;have zln:=B.g.ln;have kl:=B.kl;refine ⟨_,rfl,p,dx,_,rfl,h0,(by kernel_rfl),_,rfl,zLn1,λw1 hw1=>?_⟩;have t1:=Same.upd (o:=.tup [.str "lot"]) hw1;refine ⟨l,p,dl,dt,db,bs,kvs,day,bf,M,n,zs,u.x,w1,["lot"],rfl,B.keep t1,(B.g.ok u hu).wr,SqT.of aB,.inl ⟨u,hu,rfl,λH2 s2=>?_⟩⟩;rw [show decide (u.k∈(["lot"]:List Str))=true from decide_eq_true (by rw [uk];exact Am.mpr rfl)];refine ⟨_,rfl,iteF ?_⟩;have s12:=t1.trans s2;have B2:=B.keep s12;generalize upd H w1 (.tup [.str "lot"])=H1 at t1 s2;refine ⟨_,rfl,p,C,dx,_,_,rfl,s12 _ _ h0,L.cl,L.nT,aZ,dt,kvs,zs.map Th.x,rfl,s12 _ _ ht,B.th.keys,by omega,λpn sn pm so hpn=>?_⟩;have t3:=Same.upd (o:=.lst (sn.map V.str)) hpn;have sl:=pm.length_eq;rw [Ab] at sl;refine ⟨pn,rfl,⟨_,SqL.of aB⟩,λD1 hD1=>?_⟩;have B3:=B2.keep t3;have hp3:(upd H2 pn (.lst (sn.map V.str))) pn=some (.lst (sn.map V.str)):=aB;generalize upd H2 pn (.lst (sn.map V.str))=H3 at t3 hD1 B3 hp3 ⊢;refine vY (Ys.list (xs:=sn.map V.str) (SqL.of hp3)) sn (by rw [Ab]) (isDs zs) (λr y _=>y=V.str r) (λ_ _ _ _ h _=>h) hD1 (by rw [Ab];omega) (λi x r H' R1 R2 hx hr' sm h1 h2=>?_) (λys H5 sm hD5 pr=>?_)
  ·rw [Ah,hr'] at hx
   cases hx;obtain ⟨z,hz,rfl⟩:=An.mp (pm.mem_iff.mp (Ar hr'));have B4:=B3.keep sm;obtain ⟨⟨dx4,h4⟩,_⟩:=id B4.bk;refine ⟨(Keep.refl _).set rfl,_,rfl,p,dx4,_,rfl,h4,(by kernel_rfl),_,rfl,zLn1,λw2 hw2=>?_⟩;have t5:=Same.upd (o:=.tup [.str "dose"]) hw2;refine ⟨l,p,dl,dt,db,bs,kvs,day,bf,M,n,zs,z.x,w2,["dose"],rfl,B4.keep t5,(B.g.ok z hz).wr,SqT.of aB,.inl ⟨z,hz,rfl,λH6 s6=>?_⟩⟩;have ed:decide (z.k∈(["dose"]:List Str))=isDs zs z.x:=by
    rw [vF nd hz]
    by_cases q:z.k = "dose"
    ·rw [decide_eq_true q,decide_eq_true (by rw [q];exact Am.mpr rfl)]
    ·rw [decide_eq_false q,decide_eq_false (λy=>q (Am.mp y))]
   rw [ed];cases hd:isDs zs z.x with
   |true=>exact ⟨_,rfl,iteT ⟨_,rfl,h1 hd _ _ (t5.trans s6) rfl⟩⟩
   |false=>exact ⟨_,rfl,iteF (h2 hd _ (t5.trans s6))⟩
  ·have ey:=sO pr
   subst ey;have s05:=(s12.trans t3).trans sm;have B5:=B.keep s05;have fl:(sn.filter (isDs zs)).length<=sn.length:=BY _ _;refine ⟨_,rfl,D1,rfl,⟨_,SqL.of hD5⟩,λD hD=>?_⟩;refine rW (Ys.list (xs:=(sn.filter (isDs zs)).map V.str) (SqL.of hD5)) (sn.filter (isDs zs)) (by rw [Ab]) (hasY zs u.x) (λr y H'=>∃ c,y=V.ref c/\c≠D/\∃ l z,l≠D/\z∈zs/\z.x=r/\u.x∈z.ks/\z.k = "dose" /\ H' c=some (.tup [.str r,.ref l])/\H' l=some (.lst ((z.w u.x).map V.int))/\H l=none/\(z.w u.x).length<=60) (λr y H H' ⟨c,e1,e2,l,z,e3,e4,e5,e6,e7,e8,e9,e10⟩ kp=>⟨c,e1,e2,l,z,e3,e4,e5,e6,e7,kp _ _ e2 e8,kp _ _ e3 e9,e10⟩) hD (by rw [Ab];omega) (λi x r H' R1 R2 hx hr' sm2 hDl h1 h2=>?_) (λys H6 sm2 hD6 pr2=>?_)
   ·rw [Ah,hr'] at hx
    cases hx;have mr:=Ar hr';obtain ⟨z,hz,rfl⟩:=An.mp (pm.mem_iff.mp (CD.mp mr).1);have zk:z.k = "dose":=by
     have:=(CD.mp mr).2;rw [vF nd hz] at this;exact of_decide_eq_true this
    have B6:=B5.keep sm2;obtain ⟨⟨dx6,h6⟩,_,ht6,_⟩:=id B6.bk;obtain ⟨q,d1,d2,ev,tq,_⟩:=B6.at hz;have gv:DGet H' dt (.str z.x) (some (.ref q)):=by rw [<- ev];exact DGet.k (k:=.inr z.x) ht6
    obtain ⟨kv,ks,e1,ha,mem⟩:=tq.hd;have hm:(valV kv (.inr u.x)).isSome=hasY zs u.x z.x:=by
     rw [vK nd hz]
     by_cases q:u.x∈z.ks
     ·rw [decide_eq_true q]
      obtain ⟨t,a',b,v1,_⟩:=ha.am u.x ((mem _).mpr q);rw [v1];rfl
     ·rw [decide_eq_false q]
      have nk:u.x∉ks:=λy=>q ((mem _).mp y);rw [aFo ha.dk nk];rfl
    refine ⟨(Keep.refl _).set rfl,_,rfl,_,rfl,p,C,dx6,_,_,rfl,h6,L.cl,L.nT,aZ,_,rfl,dt,_,rfl,gv,q,_,_,_,rfl,rfl,SqT.of tq.hq,rfl,d1,_,rfl,DGet.k (k:=.inr u.x) e1,?_⟩;rw [hm];cases hy:hasY zs u.x z.x with
    |false=>exact ⟨_,rfl,iteF (h2 hy _ (Same.refl _))⟩
    |true=>
     have my:u.x∈z.ks:=by rw [vK nd hz] at hy;exact of_decide_eq_true hy
     obtain ⟨wv,f1,_,wat⟩:=tq.hw;obtain ⟨e,v1,v2,v3⟩:=wat u.x my;have g2:DGet H' d2 (.str u.x) (some (.ref e)):=by rw [<- v1];exact DGet.k (k:=.inr u.x) f1
     obtain ⟨ys0,hDl⟩:=hDl;refine ⟨_,rfl,iteT ⟨_,rfl,_,rfl,p,C,dx6,_,_,rfl,h6,L.cl,L.nT,aZ,_,rfl,dt,_,rfl,gv,q,_,_,_,rfl,rfl,SqT.of tq.hq,rfl,_,rfl,d2,_,rfl,g2,e,_,rfl,.inr (SqT.of v2),λl2 hl2=>?_⟩⟩;have t7:=Same.upd (o:=.lst ((z.w u.x).map V.int)) hl2;refine ⟨zLn2,λc hc=>h1 hy _ _ (t7.trans (Same.upd hc)) ⟨c,rfl,?_,l2,z,?_,hz,rfl,my,zk,aB,Same.upd hc _ _ aB,same_none (s05.trans sm2) hl2,by omega⟩⟩
     ·intro q;rw [q,t7 _ _ hDl] at hc;cases hc
     ·intro q;rw [q,hDl] at hl2;cases hl2
   ·obtain ⟨cs,rfl,np⟩:=qJ (Pr:=CaPr H H6 zs u.x) (bG (λy r ⟨c,e1,_,l,z,_,e4,e5,e6,e7,e8⟩=>⟨c,e1,l,z,e4,e5,e6,e7,e8⟩) pr2)
    exact k D cs sn _ (s05.trans sm2) (same_none s05 hD) hD6 pm so np
end
theorem aFl {K:Aa}{H:Hp}{M:Int}{f:Str->Int}(M0:0<M):∀ {cs cs':List Addr} {ss:List Str},Paired (HePr H M f) cs ss->Paired (HePr H M f) cs' ss->∃ ds,DL K H 40 (cs.map V.ref) ds/\DL K H 40 (cs'.map V.ref) ds
 |_,_,_,.nil,.nil=>⟨[],.nil,.nil⟩
 |_,_,_,.cons ⟨t,x,b,h1,h2,h3⟩ p,.cons ⟨t',x',b',g1,g2,g3⟩ p'=>by
  obtain ⟨ds,d1,d2⟩:=aFl (K:=K) M0 p p';obtain ⟨rfl,rfl⟩:=h3.uniq M0 g3;refine ⟨Dt.t [.s _,.t [.i x,.i b]]::ds,.cons (.tup (n:=39) (SqZ.of h1) (.cons .s (.cons (.tup (n:=38) (SqZ.of h2) (.cons .i (.cons .i .nil))) .nil))) d1,.cons (.tup (n:=39) (SqZ.of g1) (.cons .s (.cons (.tup (n:=38) (SqZ.of g2) (.cons .i (.cons .i .nil))) .nil))) d2⟩
abbrev sSameOf:Stmt:=top 53
def lH (C:Addr):Sp:=λvs H Q _=>∃ L p dl dt db bs kvs bf L2 p2 dl2 dt2 db2 bs2 kvs2 bf2 day M n a hd kd ls dd big ds zi,∃ e:Th×Addr,vs=[.ref p,.ref p2,.ref a,.str e.1.x]/\PS C H L p dl dt db bs kvs day bf M n (zi.map (·.1))/\PS C H L2 p2 dl2 dt2 db2 bs2 kvs2 day bf2 M n (zi.map (·.1))/\LG H a hd kd ls dd big M day n ds zi/\e∈zi/\∀ H',Same H H'->Q (.bl true) H'
section
variable {P:AE}{w:World}{K:Aa}{mg:Str->Option Value}{base:Heap}
def ndSo:(["_law_pair"]:List Str).Nodup:=by decide +kernel
def tL {ss:List Str}:∀ v∈ss.map V.str,Sf v:=λv hv=>by
 obtain ⟨s,_,rfl⟩:=An.mp hv;exact .inl rfl
def kG (yl:ys.length=cs.length)(p:Paired Pr cs ss)(hy:∀ (j:Nat) (c:Addr) y,cs[j]?=some c->ys[j]?=some y->∃ s,ss[j]?=some s/\y=.str s):ys=ss.map V.str:=List.ext_getElem? λj=>by
 have cl:=bY p;rw [Ah];cases hj:ys[j]? with
 |none=>
  have:ss[j]?=none:=Cs (by have:=List.getElem?_eq_none_iff.mp hj;omega);rw [this];rfl
 |some y=>
  have jl:=(Ad.mp hj).1;obtain ⟨s,hs,rfl⟩:=hy j cs[j] y (Al (by omega)) hj;rw [hs];rfl
def wZ:FnScope ["_law_books","_law_other","_law_here","_law_name"] ["_law_books","_law_other","_law_here","_law_name"] (aG sSameOf):=fnScOk (by decide +kernel)
def uF {f C:Addr}{fd:Bj}(F:Fun K "_law_same_of" "_law_same_of" sSameOf f fd)(T:Txt mg)(L:Cl K mg C)(mH:MCal P w K mg base CX0 5 C "held" ["self","name"] (tE C))(mA:MCal P w K mg base CX0 5 C "last" ["self","name"] (tD C))(mR:MCal P w K mg base CX0 5 C "rows_to" ["self","name"] (sU C))(mC:MCal P w K mg base CX0 5 C "called" ["self","lot"] (lP C))(mT:MCal P w K mg base CX0 5 C "total" ["self","name"] (wV C)):FnOk P w K mg base CX0 6 f fd ["_law_books","_law_other","_law_here","_law_name"] (lH C):=by
 refine F.ok wZ (λvs H Q E h=>?_) (λcdv A outer s0 H vs Q E hr h=>?_)
 ·obtain ⟨_,_,_,_,_,_,_,_,_,_,_,_,_,_,_,_,_,_,_,_,_,_,_,_,_,_,_,_,rfl,_⟩:=h
  rfl
 ·obtain ⟨L1,p,dl,dt,db,bs,kvs,bf,L2',p2,dl2,dt2,db2,bs2,kvs2,bf2,day,M,n,a,hd,kd,ls,dd,big,ds,zi,e,rfl,B,B',G,he,k⟩:=h
  refine ⟨_,(aC (bC (PW.pt (jJ (aP (pB hr.units) (cQ L.cl mH hr aR (pv 0) (aA (pv 3) aE)) (cQ L.cl mH hr aR (pv 1) (aA (pv 3) aE)) (aU _)) (gG (aP rN (cQ L.cl mA hr aR (pv 0) (aA (pv 3) aE)) (cQ L.cl mA hr aR (pv 1) (aA (pv 3) aE)) (aU _)))))
    (aF (aK gF))
    aQ)
   (aC (bC (aP (tZ hr.units) (iD (N':=["_law_pair"]) (cl:=[]) (λ_=>[none]) rfl rfl (by decide +kernel) (by decide +kernel) (eZ (by decide +kernel)) (λ_ _=>fW) (cK (cQ L.cl mR hr aR (pv 0) (aA (pv 3) aE))) (λ_ _ _ _ _=>aY (i:=0) ndSo rfl (Or.inl rfl)) (λ_ _ _ _ _=>dE) (λ_ _ _ _ _=>cR (fF (K:=K) rfl) (pv 0) aH (λ_ _=>rfl)))
     (iD (N':=["_law_pair"]) (cl:=[]) (λ_=>[none]) rfl rfl (by decide +kernel) (by decide +kernel) (eZ (by decide +kernel)) (λ_ _=>fW) (cK (cQ L.cl mR hr aR (pv 1) (aA (pv 3) aE))) (λ_ _ _ _ _=>aY (i:=0) ndSo rfl (Or.inl rfl)) (λ_ _ _ _ _=>dE) (λ_ _ _ _ _=>cR (fF (K:=K) rfl) (pv 0) aH (λ_ _=>rfl))) (aU _))
    (aF (aK gF))
    aQ)
   (aC (bC (aP dN (aI (aO hr) (aI (aO hr) (pv 2) aJ (λ_ _=>rfl)) (pv 3) (λ_ _=>rfl)) aJ (aU _))
    (aF (bC (aP (tZ hr.units) (iD (N':=["_law_pair"]) (cl:=[]) (λ_=>[none]) rfl rfl (by decide +kernel) (by decide +kernel) (eZ (by decide +kernel)) (λ_ _=>fW) (cK (cQ L.cl mC hr aR (pv 0) (aA (pv 3) aE))) (λ_ _ _ _ _=>aY (i:=0) ndSo rfl (Or.inl rfl)) (λ_ _ _ _ _=>dE) (λ_ _ _ _ _=>cR (fF (K:=K) rfl) (pv 0) aH (λ_ _=>rfl)))
      (iD (N':=["_law_pair"]) (cl:=[]) (λ_=>[none]) rfl rfl (by decide +kernel) (by decide +kernel) (eZ (by decide +kernel)) (λ_ _=>fW) (cK (cQ L.cl mC hr aR (pv 1) (aA (pv 3) aE))) (λ_ _ _ _ _=>aY (i:=0) ndSo rfl (Or.inl rfl)) (λ_ _ _ _ _=>dE) (λ_ _ _ _ _=>cR (fF (K:=K) rfl) (pv 0) aH (λ_ _=>rfl))) (aU _))
     (aF (aK gF))
     aQ))
    aQ)
   (aF (aK (dM dN (cQ L.cl mT hr aR (pv 0) (aA (pv 3) aE)) (cQ L.cl mT hr aR (pv 1) (aA (pv 3) aE)) (aU _))))))),?_⟩
  refine cut4 ?_
  intros
  have mz:=Ai (f:=(·.1)) he;have to:=G.g.ok e.1 mz;have nd:=G.g.nd;have n60:=G.g.n60;have tln:=to.ln;have zln:=G.g.ln;rw [Ab] at zln;have pO:∀ {H1:Hp},Same H H1->∃ dx,H1 p=some (.ins C dx (flds dl dt db day)):=λ{H1} s=>(B.keep s).bk.ob;have pO2:∀ {H1:Hp},Same H H1->∃ dx,H1 p2=some (.ins C dx (flds dl2 dt2 db2 day)):=λ{H1} s=>(B'.keep s).bk.ob;refine ifN (λb H'=>b=false/\Same H H') (λb H5 ⟨hb,s5⟩=>?_) (λC' hC=>?_)
  rotate_left
  ·obtain ⟨dx,h0⟩:=pO (Same.refl H)
   refine ⟨_,rfl,p,dx,_,rfl,h0,(by kernel_rfl),_,rfl,L1,p,dl,dt,db,bs,kvs,day,bf,M,n,_,e.1,rfl,B,mz,λD cs ss H1 s1 _ hD1 pr1 pm1 so1=>?_⟩;obtain ⟨dx2,h02⟩:=pO2 s1;refine ⟨_,rfl,p2,dx2,_,rfl,h02,(by kernel_rfl),_,rfl,L2',p2,dl2,dt2,db2,bs2,kvs2,day,bf2,M,n,_,e.1,rfl,B'.keep s1,mz,λD2 cs2 ss2 H2 s2 _ hD2 pr2 pm2 so2=>?_⟩;have es:ss2=ss:=fA (pm2.trans pm1.symm) so2 so1;subst es;have s12:=s1.trans s2;obtain ⟨dds,q1,q2⟩:=aFl (K:=K) G.g.M0 (bG (λc s ⟨t,x,b,r1,r2,r3⟩=>(⟨t,x,b,s2 _ _ r1,s2 _ _ r2,r3⟩:HePr H2 M e.1.f c s)) pr1) pr2;refine ⟨D,D2,_,_,dds,rfl,rfl,SqL.of (s2 _ _ hD1),SqL.of hD2,q1,q2,_,rfl,iteF ?_⟩;obtain ⟨dx3,h03⟩:=pO s12;have lastEq:∀ {v v':V},((e.1.ks=[]/\v=.non)\/∃ m,v=.int m/\(∃ y∈e.1.ks,LstOf (zi.map λe:Th×Addr=>e.1) y m)/\∀ y∈e.1.ks,∀ l,LstOf (zi.map λe:Th×Addr=>e.1) y l->m<=l)->((e.1.ks=[]/\v'=.non)\/∃ m,v'=.int m/\(∃ y∈e.1.ks,LstOf (zi.map λe:Th×Addr=>e.1) y m)/\∀ y∈e.1.ks,∀ l,LstOf (zi.map λe:Th×Addr=>e.1) y l->m<=l)->v=v':=λ{v v'} h1 h2=>by
    rcases h1 with ⟨k1,rfl⟩|⟨m,rfl,⟨y,my,ly⟩,lo⟩
    ·rcases h2 with ⟨_,rfl⟩|⟨m',rfl,⟨y',my',_⟩,_⟩
     ·rfl
     ·rw [k1] at my';cases my'
    ·rcases h2 with ⟨k2,rfl⟩|⟨m',rfl,⟨y',my',ly'⟩,lo'⟩
     ·rw [k2] at my;cases my
     ·have:=lo y' my' m' ly'
      have:=lo' y my m ly;rw [show m=m' by omega]
   have fin:∀ {H3:Hp} {v:V},Same H H3->((e.1.ks=[]/\v=.non)\/∃ m,v=.int m/\(∃ y∈e.1.ks,LstOf (zi.map λe:Th×Addr=>e.1) y m)/\∀ y∈e.1.ks,∀ l,LstOf (zi.map λe:Th×Addr=>e.1) y l->m<=l)->∀ (v':V) H4,Same H3 H4->((e.1.ks=[]/\v'=.non)\/∃ m,v'=.int m/\(∃ y∈e.1.ks,LstOf (zi.map λe:Th×Addr=>e.1) y m)/\∀ y∈e.1.ks,∀ l,LstOf (zi.map λe:Th×Addr=>e.1) y l->m<=l)->C' (!decide (v=v')) H4:=λ{H3 v} s3 h1 v' H4 s4 h2=>by
    rw [lastEq h1 h2,decide_eq_true rfl];exact hC _ _ ⟨rfl,s3.trans s4⟩
   refine ⟨_,rfl,p,dx3,_,rfl,h03,(by kernel_rfl),_,rfl,L1,p,dl,dt,db,bs,kvs,day,bf,M,n,_,e.1,rfl,B.keep s12,mz,λk1 H3 s3=>?_,λm H3 s3 h1 h2=>?_⟩
   ·have s13:=s12.trans s3
    obtain ⟨dx4,h04⟩:=pO2 s13;refine ⟨_,rfl,p2,dx4,_,rfl,h04,(by kernel_rfl),_,rfl,L2',p2,dl2,dt2,db2,bs2,kvs2,day,bf2,M,n,_,e.1,rfl,B'.keep s13,mz,λk2 H4 s4=>⟨rfl,_,rfl,fin s13 (.inl ⟨k1,rfl⟩) _ _ s4 (.inl ⟨k2,rfl⟩)⟩,λm' H4 s4 h1 h2=>⟨rfl,_,rfl,fin s13 (.inl ⟨k1,rfl⟩) _ _ s4 (.inr ⟨m',rfl,h1,h2⟩)⟩⟩
   ·have s13:=s12.trans s3
    obtain ⟨dx4,h04⟩:=pO2 s13;refine ⟨_,rfl,p2,dx4,_,rfl,h04,(by kernel_rfl),_,rfl,L2',p2,dl2,dt2,db2,bs2,kvs2,day,bf2,M,n,_,e.1,rfl,B'.keep s13,mz,λk2 H4 s4=>⟨rfl,_,rfl,fin s13 (.inr ⟨m,rfl,h1,h2⟩) _ _ s4 (.inl ⟨k2,rfl⟩)⟩,λm' H4 s4 h1' h2'=>⟨rfl,_,rfl,fin s13 (.inr ⟨m,rfl,h1,h2⟩) _ _ s4 (.inr ⟨m',rfl,h1',h2'⟩)⟩⟩
  subst hb;refine iteF ?_;dsimp only [aAx];refine ifN (λb H'=>b=false/\Same H H') (λb H6 ⟨hb,s6⟩=>?_) (λC' hC=>?_)
  rotate_left
  ·obtain ⟨dx,h0⟩:=pO s5
   refine ⟨_,rfl,p,dx,_,rfl,h0,(by kernel_rfl),_,rfl,L1,p,dl,dt,db,bs,kvs,day,bf,M,n,_,e.1,rfl,B.keep s5,mz,λD cs ss H1 s1 _ hD pr pm so=>?_⟩;have sl:=pm.length_eq;have cl:=bY pr;refine ⟨D,rfl,⟨_,SqL.of hD⟩,λD4 hD4=>?_⟩;refine dU (Ys.list (xs:=cs.map V.ref) (SqL.of hD)) (λj _ y _=>∃ s,ss[j]?=some s/\y=.str s) (λ_ _ _ _ _ h _=>h) hD4 (by rw [Ab];omega) (λi y H' R' hy sm hR=>?_) (λys H2 sm hD2 yl hy=>?_)
   ·rw [Ah] at hy
    obtain ⟨c,hc,rfl⟩:=AA.mp hy;obtain ⟨s,hs,l,r1,_⟩:=dP pr hc;exact ⟨(Keep.refl _).set rfl,_,rfl,c,_,_,_,rfl,rfl,SqT.of (sm _ _ r1),rfl,hR _ _ (Same.refl _) ⟨s,hs,rfl⟩⟩
   ·have ey:=kG (by rw [Ab] at yl;exact yl) pr λj c y hc hj=>hy j (.ref c) y (by rw [Ah,hc];rfl) hj
    subst ey;have s02:=s5.trans (s1.trans sm);obtain ⟨dx2,h02⟩:=pO2 s02;refine ⟨_,rfl,p2,dx2,_,rfl,h02,(by kernel_rfl),_,rfl,L2',p2,dl2,dt2,db2,bs2,kvs2,day,bf2,M,n,_,e.1,rfl,B'.keep s02,mz,λE cs2 ss2 H3 s3 _ hE pr2 pm2 so2=>?_⟩;have es:ss2=ss:=fA (pm2.trans pm.symm) so2 so;subst es;have cl2:=bY pr2;refine ⟨E,rfl,⟨_,SqL.of hE⟩,λD5 hD5=>?_⟩;refine dU (Ys.list (xs:=cs2.map V.ref) (SqL.of hE)) (λj _ y _=>∃ s,ss2[j]?=some s/\y=.str s) (λ_ _ _ _ _ h _=>h) hD5 (by rw [Ab];omega) (λi y H' R' hy sm hR=>?_) (λys H4 sm4 hD4' yl hy=>?_)
    ·rw [Ah] at hy
     obtain ⟨c,hc,rfl⟩:=AA.mp hy;obtain ⟨s,hs,l,r1,_⟩:=dP pr2 hc;exact ⟨(Keep.refl _).set rfl,_,rfl,c,_,_,_,rfl,rfl,SqT.of (sm _ _ r1),rfl,hR _ _ (Same.refl _) ⟨s,hs,rfl⟩⟩
    ·have ey:=kG (by rw [Ab] at yl;exact yl) pr2 λj c y hc hj=>hy j (.ref c) y (by rw [Ah,hc];rfl) hj
     subst ey;exact ⟨D4,D5,_,rfl,rfl,SqL.of (sm4 _ _ (s3 _ _ hD2)),SqL.of hD4',tL,_,rfl,hC _ _ ⟨rfl,s02.trans (s3.trans sm4)⟩⟩
  subst hb;refine iteF ?_;dsimp only [aAx];refine seqN (λσ' H'=>σ'=[some (.ref p),some (.ref p2),some (.ref a),some (.str e.1.x)]/\Same H H') ?_ (λN hN=>?_)
  rotate_left
  ·have G6:=G.same s6
   refine ⟨_,rfl,a,_,rfl,dg G6.s.ha cJ,_,rfl,kd,_,rfl,dg G6.s.hk (LS.getK nd he),rfl,_,rfl,ite2 (λhc=>?_) (λ_=>hN _ _ ⟨rfl,s6⟩)⟩;have uk:e.1.k = "lot":=V.str.inj (of_decide_eq_true hc);obtain ⟨dx,h0⟩:=pO s6;refine ⟨_,rfl,p,dx,_,rfl,h0,(by kernel_rfl),_,rfl,L1,p,dl,dt,db,bs,kvs,day,bf,M,n,_,e.1,rfl,B.keep s6,mz,uk,λD cs sn H1 s1 _ hD pm so pr=>?_⟩;have sl:=pm.length_eq;rw [Ab,Ab] at sl;have cl:=bY pr;have cl':cs.length<=sn.length:=by rw [cl];exact AX (BY _ _) (BY _ _)
   refine ⟨D,rfl,⟨_,SqL.of hD⟩,λD4 hD4=>?_⟩;refine dU (Ys.list (xs:=cs.map V.ref) (SqL.of hD)) (λj _ y _=>∃ s,((sn.filter (isDs (zi.map λe:Th×Addr=>e.1))).filter (hasY (zi.map λe:Th×Addr=>e.1) e.1.x))[j]?=some s/\y=.str s) (λ_ _ _ _ _ h _=>h) hD4 (by rw [Ab];omega) (λi y H' R' hy sm hR=>?_) (λys H2 sm hD2 yl hy=>?_)
   ·rw [Ah] at hy
    obtain ⟨c,hc',rfl⟩:=AA.mp hy;obtain ⟨s,hs,l,z,_,_,_,_,r5,_⟩:=dP pr hc';exact ⟨(Keep.refl _).set rfl,_,rfl,c,_,_,_,rfl,rfl,SqT.of (sm _ _ r5),rfl,hR _ _ (Same.refl _) ⟨s,hs,rfl⟩⟩
   ·have ey:=kG (by rw [Ab] at yl;exact yl) pr λj c y hc hj=>hy j (.ref c) y (by rw [Ah,hc];rfl) hj
    subst ey;have s02:=s6.trans (s1.trans sm);obtain ⟨dx2,h02⟩:=pO2 s02;refine ⟨_,rfl,p2,dx2,_,rfl,h02,(by kernel_rfl),_,rfl,L2',p2,dl2,dt2,db2,bs2,kvs2,day,bf2,M,n,_,e.1,rfl,B'.keep s02,mz,uk,λE cs2 sn2 H3 s3 _ hE pm2 so2 pr2=>?_⟩;have es:sn2=sn:=fA (pm2.trans pm.symm) so2 so;subst es;have cl2:=bY pr2;refine ⟨E,rfl,⟨_,SqL.of hE⟩,λD5 hD5=>?_⟩;refine dU (Ys.list (xs:=cs2.map V.ref) (SqL.of hE)) (λj _ y _=>∃ s,((sn2.filter (isDs (zi.map λe:Th×Addr=>e.1))).filter (hasY (zi.map λe:Th×Addr=>e.1) e.1.x))[j]?=some s/\y=.str s) (λ_ _ _ _ _ h _=>h) hD5 (by rw [Ab];omega) (λi y H' R' hy sm hR=>?_) (λys H4 sm4 hD4' yl hy=>?_)
    ·rw [Ah] at hy
     obtain ⟨c,hc',rfl⟩:=AA.mp hy;obtain ⟨s,hs,l,z,_,_,_,_,r5,_⟩:=dP pr2 hc';exact ⟨(Keep.refl _).set rfl,_,rfl,c,_,_,_,rfl,rfl,SqT.of (sm _ _ r5),rfl,hR _ _ (Same.refl _) ⟨s,hs,rfl⟩⟩
    ·have ey:=kG (by rw [Ab] at yl;exact yl) pr2 λj c y hc hj=>hy j (.ref c) y (by rw [Ah,hc];rfl) hj
     subst ey;exact ⟨D4,D5,_,rfl,rfl,SqL.of (sm4 _ _ (s3 _ _ hD2)),SqL.of hD4',tL,_,rfl,iteF (hN _ _ ⟨rfl,s02.trans (s3.trans sm4)⟩)⟩
  rintro _ H7 ⟨rfl,s7⟩
  obtain ⟨dx,h0⟩:=pO s7;refine ⟨_,rfl,p,dx,_,rfl,h0,(by kernel_rfl),_,rfl,L1,p,dl,dt,db,bs,kvs,day,bf,M,n,_,e.1,rfl,B.keep s7,mz,λH8 s8=>?_⟩;obtain ⟨dx2,h02⟩:=pO2 (s7.trans s8);refine ⟨_,rfl,p2,dx2,_,rfl,h02,(by kernel_rfl),_,rfl,L2',p2,dl2,dt2,db2,bs2,kvs2,day,bf2,M,n,_,e.1,rfl,B'.keep (s7.trans s8),mz,λH9 s9=>⟨rfl,?_⟩⟩;rw [decide_eq_true rfl];exact k _ ((s7.trans s8).trans s9)
end
def kn (zs:List Th)(s:Str):Str:=match zs.find? (λz=>decide (z.x=s)) with
 |some z=>z.k
 |none=>s
theorem aGn (nd:(zs.map Th.x).Nodup)(hu:u∈zs):kn zs u.x=u.k:=by
 unfold kn;cases h:zs.find? (λz=>decide (z.x=u.x)) with
 |none=>exact absurd (List.find?_eq_none.mp h u hu) (by simp)
 |some z=>
  have e:z.x=u.x:=by simpa using List.find?_some h
  rw [kN nd (List.mem_of_find?_eq_some h) hu e]
theorem uO {K:Aa}{H:Hp}{zs:List Th}(nd:(zs.map Th.x).Nodup):∀ {cs:List Addr} {ss:List Str},Paired (NmPr H zs) cs ss->DL K H 40 (cs.map V.ref) (ss.map λs=>Dt.t [.s s,.s (kn zs s)])
 |_,_,.nil=>.nil
 |c::_,s::_,.cons ⟨u,hu,e,h⟩ t=>by
  subst e;rw [Ao,Ao,aGn nd hu];exact .cons ((Dv.two (n:=0) (SqZ.of h) .s .s).mono (by decide)) (uO nd t)
abbrev sSame:Stmt:=top 54
def pX (C:Addr)(K:Aa):Sp:=λvs H Q _=>∃ L p dl dt db bs kvs bf L2 p2 dl2 dt2 db2 bs2 kvs2 bf2 day M n a hd kd ls dd big ds zi dts,∃ c:Int,vs=[.ref p,.ref p2,.ref a,.int c]/\PS C H L p dl dt db bs kvs day bf M n (zi.map (·.1))/\PS C H L2 p2 dl2 dt2 db2 bs2 kvs2 day bf2 M n (zi.map (·.1))/\LG H a hd kd ls dd big M day n ds zi/\(DL K H 40 bs dts/\DL K H 40 bs2 dts/\DL K H 40 ds dts)/\∀ H',Same H H'->Q (.bl true) H'
theorem aAe :∀ {cs:List Addr} {ss:List Str},Paired (NmPr H zs) cs ss->cs.map (nmH H)=ss
 |_,_,.nil=>rfl
 |_,_,.cons ⟨u,_,_,e⟩ t=>by rw [Ao,uP e,aAe t]
theorem jN {α β:Type}{R:α->β->Prop}{φ:α->β}:∀ {xs:List α},(∀ x∈xs,R x (φ x))->Paired R xs (xs.map φ)
 |[],_=>.nil
 |x::xs,h=>.cons (h x AO) (jN λy hy=>h y (AL _ hy))
section
variable {P:AE}{w:World}{K:Aa}{mg:Str->Option Value}{base:Heap}
def ndSm:(["_law_one","_law_here"]:List Str).Nodup:=by decide +kernel
abbrev aFu:List Str:=["_law_books","_law_other","_law_here","_law_cell","_law_names_here","_law_name","_law_due"]
def nK:FnScope aFu ["_law_books","_law_other","_law_here","_law_cell"] (aG sSame):=fnScOk (by decide +kernel)
def aB0 {f C:Addr}{fd:Bj}(F:Fun K "_law_same" "_law_same" sSame f fd)(T:Txt mg)(L:Cl K mg C)(cS:Cal P w K mg base CX0 6 "_law_same_of" ["_law_books","_law_other","_law_here","_law_name"] (lH C))(mN:MCal P w K mg base CX0 6 C "names" ["self"] (aA2 C))(mD:MCal P w K mg base CX0 6 C "done" ["self"] (qB C))(mY:MCal P w K mg base CX0 6 C "today" ["self"] (oQ C)):FnOk P w K mg base CX0 7 f fd ["_law_books","_law_other","_law_here","_law_cell"] (pX C K):=by
 refine F.ok nK (λvs H Q E h=>?_) (λcdv A outer s0 H vs Q E hr h=>?_)
 ·obtain ⟨_,_,_,_,_,_,_,_,_,_,_,_,_,_,_,_,_,_,_,_,_,_,_,_,_,_,_,_,_,rfl,_⟩:=h
  rfl
 ·obtain ⟨L1,p,dl,dt,db,bs,kvs,bf,L2',p2,dl2,dt2,db2,bs2,kvs2,bf2,day,M,n,a,hd,kd,ls,dd,big,ds,zi,dts,c,rfl,B,B',G,⟨D1,D2,D3⟩,k⟩:=h
  refine ⟨_,(aC (aT (i:=4) nK.nd rfl (Or.inl rfl) (aS (dG rfl) rfl T.sorted' DQ (aA (aI (aO hr) (pv 2) aJ (λ_ _=>rfl)) aE)))
   (aC (bC (aP dN (aM bK (pv 3) aH) aH (aU _))
    (aF (aT (i:=4) nK.nd rfl (Or.inl rfl) (aEj (pv 4) (gJ (aEi zP aH)))))
    aQ)
   (aC (dW Bc rfl (cK (pv 4)) (aY (i:=5) nK.nd rfl (Or.inl rfl))
    (aF (bC (eC (cU (aV cS hr rfl aR (aA (pv 0) (aA (pv 1) (aA (pv 2) (aA (pv 5) aE)))))))
     (aF (aK gF))
     aQ)))
   (aC (bC (PW.pt (jJ (aP (pB hr.units) (fS L.cl mN hr aR (pv 0)) (fS L.cl mN hr aR (pv 1)) (aU _)) (jJ (aP (pB hr.units) (fS L.cl mD hr aR (pv 0)) (fS L.cl mD hr aR (pv 1)) (aU _)) (gG (aP rN (fS L.cl mY hr aR (pv 0)) (fS L.cl mY hr aR (pv 1)) (aU _))))))
    (aF (aK gF))
    aQ)
   (aC (aT (i:=6) nK.nd rfl (Or.inl rfl) (aS rY rfl T.sorted' DQ (aA (eQ (N':=["_law_one","_law_here"]) (λσ=>[none,some 2].map λt=>t.bind λj=>(σ[j]?).join) rfl rfl (by decide +kernel) (by decide +kernel)
     (iF (sc:=aG sSame) rfl (by decide +kernel)) (λ_ _ _=>dR (sc:=aG sSame) (N:=aFu) [none,some 2] rfl rfl rfl rfl (by decide +kernel))
     (cK (pv 4)) (λ_ _ _ _ _ _=>aY (i:=0) ndSm rfl (Or.inl rfl)) (λ_ _ _ _ _ _=>dE)
     (λ_ _ _ _ _ _=>bF (aA (pv 0) (aA (aI (aO hr) (aI (aO hr) (pv 1) aJ (λ_ _=>rfl)) (pv 0) (λ_ _=>rfl)) aE)))) aE)))
   (aF (aK (iO (dM (uC hr.units) (fS L.cl mD hr aR (pv 0)) (aI (aO hr) (pv 2) aJ (λ_ _=>rfl)) (aU _)) (iN (dM (uC hr.units) (fS L.cl mN hr aR (pv 0)) (pv 6) (aU _))))))))))),?_⟩
  refine cut6 ?_
  intros
  have nd:=G.g.nd;have zl:=G.g.ln;have n60:=G.g.n60;rw [Ab] at zl;have dkk:=vA nd;have pO:∀ {H1:Hp},Same H H1->∃ dx,H1 p=some (.ins C dx (flds dl dt db day)):=λ{H1} s=>(B.keep s).bk.ob;have pO2:∀ {H1:Hp},Same H H1->∃ dx,H1 p2=some (.ins C dx (flds dl2 dt2 db2 day)):=λ{H1} s=>(B'.keep s).bk.ob;refine ⟨_,rfl,a,_,rfl,dg G.s.ha cJ,kd,_,_,rfl,G.s.hk,dkk.keys,by rw [Ab];omega,λpn ss pm so hpn=>?_⟩;have t1:=Same.upd (o:=.lst (ss.map V.str)) hpn;have hn1:(upd H pn (.lst (ss.map V.str))) pn=some (.lst (ss.map V.str)):=aB;generalize upd H pn (.lst (ss.map V.str))=H1 at t1 hn1 ⊢;dsimp only [kC];refine seqN (λσ' H'=>Same H H'/\∃ (q:Addr) (tt:List Str),tt.Perm ((zi.map λe:Th×Addr=>e.1).map Th.x)/\H' q=some (.lst (tt.map V.str))/\σ'=[some (.ref p),some (.ref p2),some (.ref a),some (.int c),some (.ref q),none,none]) ?_ (λN hN=>?_)
  rotate_left
  ·refine ⟨_,rfl,_,_,rfl,rfl,(by show (0:Int)<2;decide),rfl,_,rfl,ite2 (λ_=>?_) (λ_=>hN _ _ ⟨t1,pn,ss,pm,hn1,rfl⟩)⟩
   refine ⟨_,rfl,_,rfl,_,rfl,rfl,pn,_,rfl,SqL.of hn1,λq hq=>hN _ _ ⟨t1.trans (Same.upd hq),q,ss.reverse,(List.reverse_perm ss).trans pm,by rw [List.map_reverse];exact aB,rfl⟩⟩
  rintro _ H2 ⟨s2,q,tt,pmt,hq2,rfl⟩
  have tl:=pmt.length_eq;rw [Ab,Ab] at tl;refine ⟨_,rfl,q,rfl,⟨_,SqL.of hq2⟩,?_⟩;refine jD (xs:=tt.map V.str) (λi σ H'=>∃ v5:Option V,σ=[some (.ref p),some (.ref p2),some (.ref a),some (.int c),some (.ref q),v5,none]/\Same H2 H') ⟨none,rfl,Same.refl _⟩ (λi σ H' _ hh=>by obtain ⟨_,_,sm⟩:=hh;exact SqL.of (sm _ _ hq2)) ?_ ?_
  ·rintro i v σ H3 hv hh
   obtain ⟨v5,rfl,sm⟩:=hh;rw [Ah] at hv;obtain ⟨x,hx,rfl⟩:=AA.mp hv;obtain ⟨z,hz,rfl⟩:=An.mp (pmt.mem_iff.mp (Ar hx));obtain ⟨e,he,rfl⟩:=An.mp hz;have s3:=s2.trans sm;exact ⟨_,rfl,_,rfl,_,rfl,_,rfl,L1,p,dl,dt,db,bs,kvs,bf,L2',p2,dl2,dt2,db2,bs2,kvs2,bf2,day,M,n,a,hd,kd,ls,dd,big,ds,zi,e,rfl,B.keep s3,B'.keep s3,G.same s3,he,λH4 s4=>⟨_,rfl,iteF ⟨_,rfl,sm.trans s4⟩⟩⟩
  ·rintro σ H3 hh
   obtain ⟨v5,rfl,sm⟩:=hh;have s3:=s2.trans sm;obtain ⟨dx,h0⟩:=pO s3;refine ⟨_,rfl,p,dx,_,rfl,h0,(by kernel_rfl),L1,p,dl,dt,db,bs,kvs,day,bf,M,n,_,rfl,B.keep s3,λD4 cs4 ss4 H4 s4 _ hD4 pr4 pm4 so4=>?_⟩;have s04:=s3.trans s4;obtain ⟨dx2,h02⟩:=pO2 s04;refine ⟨_,rfl,p2,dx2,_,rfl,h02,(by kernel_rfl),L2',p2,dl2,dt2,db2,bs2,kvs2,day,bf2,M,n,_,rfl,B'.keep s04,λD5 cs5 ss5 H5 s5 _ hD5 pr5 pm5 so5=>?_⟩;have es:ss5=ss4:=fA (pm5.trans pm4.symm) so5 so4;subst es;have s05:=s04.trans s5;refine ⟨D4,D5,_,_,_,rfl,rfl,SqL.of (s5 _ _ hD4),SqL.of hD5,(uO nd pr4).keep s5.tk,uO nd pr5,_,rfl,iteF ?_⟩;obtain ⟨dx6,h06⟩:=pO s05;refine ⟨_,rfl,p,dx6,_,rfl,h06,(by kernel_rfl),p,dl,dt,db,bs,kvs,day,bf,rfl,(B.keep s05).bk,λz6 hz6=>?_⟩;have t6:=Same.upd (o:=.lst bs) hz6;obtain ⟨dx7,h07⟩:=pO2 (s05.trans t6);refine ⟨_,rfl,p2,dx7,_,rfl,h07,(by kernel_rfl),p2,dl2,dt2,db2,bs2,kvs2,day,bf2,rfl,(B'.keep (s05.trans t6)).bk,λz7 hz7=>?_⟩;have t7:=Same.upd (o:=.lst bs2) hz7;have s07:=(s05.trans t6).trans t7;refine ⟨z6,z7,bs,bs2,dts,rfl,rfl,SqL.of (t7 _ _ aB),SqL.of aB,D1.keep s07.tk,D2.keep s07.tk,_,rfl,iteF ?_⟩;have sq7:=sm.trans (s4.trans (s5.trans (t6.trans t7)));generalize upd (upd H5 z6 (.lst bs)) z7 (.lst bs2)=H7 at s07 sq7 ⊢;obtain ⟨dx8,h08⟩:=pO s07;obtain ⟨dx9,h09⟩:=pO2 s07;refine ⟨_,rfl,p,dx8,_,rfl,h08,(by kernel_rfl),p,dl,dt,db,bs,kvs,day,bf,rfl,(B.keep s07).bk,_,rfl,p2,dx9,_,rfl,h09,(by kernel_rfl),p2,dl2,dt2,db2,bs2,kvs2,day,bf2,rfl,(B'.keep s07).bk,rfl,_,rfl,ite2 (λz=>by simp at z) (λ_=>?_)⟩;have hq7:=sq7 _ _ hq2;have G7:=G.same s07;refine ⟨_,rfl,q,rfl,⟨_,SqL.of hq7⟩,λD hD=>?_⟩;refine dU (Ys.list (xs:=tt.map V.str) (SqL.of hq7)) (λj _ y H'=>∃ c s,y=.ref c/\tt[j]?=some s/\NmPr H' (zi.map λe:Th×Addr=>e.1) c s) (λ_ _ _ _ _ ⟨c,s,e1,e2,u,hu,e3,e4⟩ tk=>⟨c,s,e1,e2,u,hu,e3,tk _ _ e4⟩) hD (by rw [Ab];omega) (λi y H' R hy smc hR=>?_) (λys H8 sm8 hD8 yl hy=>?_)
   ·rw [Ah] at hy
    obtain ⟨x,hx,rfl⟩:=AA.mp hy;obtain ⟨z,hz,rfl⟩:=An.mp (pmt.mem_iff.mp (Ar hx));obtain ⟨e,he,rfl⟩:=An.mp hz;have Gc:=G7.same smc;exact ⟨(Keep.refl _).set rfl,_,rfl,_,rfl,a,_,rfl,dg Gc.s.ha cJ,_,rfl,kd,_,rfl,dg Gc.s.hk (LS.getK nd he),zLn2,λc' hc'=>hR _ _ (Same.upd hc') ⟨c',_,rfl,hx,e.1,hz,rfl,aB⟩⟩
   ·rw [Ab] at yl
    obtain ⟨cs,rfl,np⟩:=fO (Pr:=NmPr H8 (zi.map λe:Th×Addr=>e.1)) (ys:=ys) (ss:=tt) yl λj y hj=>by
     obtain ⟨x,hx⟩:∃ x,(tt.map V.str)[j]?=some x:=⟨_,Al (by have:=(Ad.mp hj).1;rw [Ab];omega)⟩;exact hy j x y hx hj
    have s08:=s07.trans sm8;have em:=aAe np;have ndt:tt.Nodup:=pmt.nodup_iff.mpr nd;have cl:=bY np;have nmOf:∀ c'∈cs,NmPr H8 (zi.map λe:Th×Addr=>e.1) c' (nmH H8 c'):=λc' hc'=>by
     obtain ⟨j,hj⟩:=Bf.mp hc';obtain ⟨s,_,u,hu,e1,e2⟩:=dP np hj;rw [uP e2];exact ⟨u,hu,e1,e2⟩
    refine ⟨D,cs,rfl,SqL.of hD8,by omega,λc' hc'=>?_,by rw [em];exact ndt,λpd as' pm' pw' hpd=>?_⟩
    ·obtain ⟨u,_,_,e2⟩:=nmOf c' hc'
     exact ⟨_,_,e2⟩
    have t9:=Same.upd (o:=.lst (as'.map V.ref)) hpd;have hpd9:(upd H8 pd (.lst (as'.map V.ref))) pd=some (.lst (as'.map V.ref)):=aB;have npd:Paired (NmPr (upd H8 pd (.lst (as'.map V.ref))) (zi.map λe:Th×Addr=>e.1)) as' (as'.map (nmH H8)):=jN λc' hc'=>by
     obtain ⟨u,hu,e1,e2⟩:=nmOf c' (pm'.mem_iff.mp hc');exact ⟨u,hu,e1,t9 _ _ e2⟩
    have s09:=s08.trans t9;generalize upd H8 pd (.lst (as'.map V.ref))=H9 at t9 hpd9 npd s09 ⊢;obtain ⟨dxa,h0a⟩:=pO s09;refine ⟨_,rfl,p,dxa,_,rfl,h0a,(by kernel_rfl),p,dl,dt,db,bs,kvs,day,bf,rfl,(B.keep s09).bk,λza hza=>?_⟩;have ta:=Same.upd (o:=.lst bs) hza;have s0a:=s09.trans ta;have Ga:=G.same s0a;refine ⟨_,rfl,a,_,rfl,dg Ga.s.ha mK,za,dd,bs,ds,dts,rfl,rfl,SqL.of aB,SqL.of Ga.s.hdd,D1.keep s0a.tk,D3.keep s0a.tk,_,rfl,iteT ?_⟩;obtain ⟨dxb,h0b⟩:=pO s0a;refine ⟨_,rfl,p,dxb,_,rfl,h0b,(by kernel_rfl),L1,p,dl,dt,db,bs,kvs,day,bf,M,n,_,rfl,B.keep s0a,λDb csb ssb Hb sb _ hDb prb pmb sob=>?_⟩;have ess:as'.map (nmH H8)=ssb:=aBn ((pm'.map _).trans (by rw [em];exact pmt.trans pmb.symm)) (CC.mpr (pw'.imp λh=>List.le_of_lt h)) (jH sob);rw [ess] at npd;have tb:=ta.trans sb;exact ⟨_,rfl,Db,pd,_,_,_,rfl,rfl,SqL.of hDb,SqL.of (tb _ _ hpd9),uO nd prb,(uO nd npd).keep tb.tk,k _ (s0a.trans sb)⟩
end
section
variable {C:Addr}{K:Aa}{H1 H H2 H3:Hp}{p dl dt db a hd kd ls dd:Addr}{big:Bool}{bs:List V}{kvs:List (Key×V)}{bf ds:List V}{M today:Int}{n:Nat}{dts:List Dt}{zi zi':List (Th×Addr)}
def But (x:Addr)(H H':Hp):Prop:=∀ b o,b≠x->H b=some o->H' b=some o
def But.tk (k:But x H H')(hx:H x=some (.lst us)):Tk H H':=λb xs e=>k b _ (λz=>by rw [z,hx] at e;cases e) e
theorem But.dk (k:But x H H')(hx:H x=some (.lst us))(e:H b=some o)(n:∀ l,o≠.lst l):H' b=some o:=k b o (λz=>by rw [z,hx] at e;exact n us (AF e).symm) e
def PS.kpx {day:Int}(h:PS C H L p dl dt db bs kvs day bf M n zs)(hx:H x=some (.lst us))(nx:x≠dl/\x≠db)(k:But x H H2)(hx':∃ o,H2 x=some o):PS C H2 L p dl dt db bs kvs day bf M n zs:=by
 have tk:=k.tk hx;obtain ⟨⟨⟨dx,b0⟩,b1,b2,b3,b4⟩,th,bl,fl,inL,al,g⟩:=h;have nod:∀ {b:Addr} {kk:List (Key×V)},H b=some (.dK kk)->H2 b=some (.dK kk):=λ{b kk} e=>k.dk hx e λ_ z=>by cases z
 refine ⟨⟨⟨dx,k.dk hx b0 λ_ z=>by cases z⟩,k _ _ (Au nx.1) b1,nod b2,k _ _ (Au nx.2) b3,b4⟩,bG (λkv z ⟨e,q,d1,d2,r1,⟨q1,⟨kk,ks,q2,q3⟩,⟨ws,q4,q5⟩⟩,r3,r4⟩=>⟨e,q,d1,d2,r1,⟨tk _ _ q1,⟨kk,ks,nod q2,q3.1.keep tk,q3.2⟩,⟨ws,nod q4,q5.keep tk (Ak _)⟩⟩,r3,r4⟩) th,bl,fl,inL,λb hb z=>?_,g⟩
 by_cases q:b=x
 ·obtain ⟨o,ho⟩:=hx'
  rw [q,ho] at z;cases z
 ·cases hb':H b with
  |none=>exact al b hb hb'
  |some o=>rw [k b o q hb'] at z;cases z
def LG.kpx {F:Int}(h:LG H a hd kd ls dd big F today n ds zi)(hx:H x=some (.lst us))(nx:x≠dd)(k:But x H H2):LG H2 a hd kd ls dd big F today n ds zi:=by
 obtain ⟨⟨ha,hh,inn,hk,⟨lk,lks,hl,hl'⟩,hdd,dl',nda⟩,g⟩:=h;have nod:∀ {b:Addr} {kk:List (Key×V)},H b=some (.dK kk)->H2 b=some (.dK kk):=λ{b kk} e=>k.dk hx e λ_ z=>by cases z
 exact ⟨⟨nod ha,nod hh,λe he=>(by obtain ⟨kk,ks,q1,q2⟩:=inn e he;exact ⟨kk,ks,nod q1,q2⟩),nod hk,⟨lk,lks,nod hl,hl'⟩,k _ _ (Au nx) hdd,dl',nda⟩,g⟩
def BS.kpx (S:BS C K H1 H p dl dt db a hd kd ls dd big bs kvs bf ds M today n dts zi)(hx:H x=some (.lst us))(nx:x∉[p,dl,dt,db]++La a hd kd ls dd zi)(f:H1 x=none)(k:But x H H2)(hx':∃ o,H2 x=some o):BS C K H1 H2 p dl dt db a hd kd ls dd big bs kvs bf ds M today n dts zi:=by
 have tk:=k.tk hx;have o1:x≠dl:=λz=>nx (by simp [z]);have o2:x≠db:=λz=>nx (by simp [z]);have o3:x≠dd:=λz=>nx (by simp [z,La]);exact ⟨S.P.kpx hx ⟨o1,o2⟩ k hx',S.L.kpx hx o3 k,S.D1.keep tk,S.D2.keep tk,λb o e=>k b o (λz=>by rw [z,f] at e;cases e) (S.sm b o e),S.fr,S.dj,S.d0,S.d1⟩
def BS.nextS (S:BS C K H1 H p dl dt db a hd kd ls dd big bs kvs bf ds M today n dts zi){M' today':Int}{n':Nat}(P2:PS C H2 ([p,dl,dt,db]++La a hd kd ls dd zi) p dl dt db bs' kvs' today' bf' M' n' (zi'.map (·.1)))(s2:Same H1 H2)(k3:KpL (La a hd kd ls dd zi) H2 H3)(t3:Tk H2 H3)(ad:Adr H2 zi zi')(l3:LS H3 a hd kd ls dd big M' today' n' ds' zi')(D1:DL K H3 40 bs' dts')(D2:DL K H3 40 ds' dts')(d0:0<=today')(d1:today'<=1000000):BS C K H1 H3 p dl dt db a hd kd ls dd big bs' kvs' bf' ds' M' today' n' dts' zi':=by
 have cases':∀ b∈La a hd kd ls dd zi',b∈La a hd kd ls dd zi\/H2 b=none:=λb hb=>by
  rcases Aj.mp hb with hb|hb
  ·exact .inl (Af _ hb)
  ·obtain ⟨e,he,rfl⟩:=An.mp hb
   exact (ad e he).elim (λz=>.inl (Ac _ z)) .inr
 have four:∀ b,b∈[p,dl,dt,db]->b∉La a hd kd ls dd zi:=λb hb z=>by
  obtain ⟨o1,o2,o3,o4⟩:=S.dj b z;simp only [Ae,Ag,or_false] at hb
  rcases hb with rfl|rfl|rfl|rfl
  ·exact o1 rfl
  ·exact o2 rfl
  ·exact o3 rfl
  ·exact o4 rfl
 refine ⟨P2.grow (A:=La a hd kd ls dd zi) (λb hb=>⟨Ac _ hb,S.dj b hb⟩) k3 t3 (λb hb=>?_) ⟨by simp,by simp,by simp,by simp⟩ (λb hb=>?_),⟨l3,P2.g⟩,D1,D2,λb o e=>k3 b o (S.out1 e).2 (s2 b o e),λb hb=>?_,λb hb=>?_,d0,d1⟩
 ·rcases Aj.mp hb with hb|hb
  ·exact .inl (Af _ hb)
  ·exact (cases' b hb).elim (λz=>.inl (Ac _ z)) .inr
 ·rcases Aj.mp hb with hb|hb
  ·intro z
   cases h2:H2 b with
   |none=>exact P2.al b (Af _ hb) h2
   |some o=>rw [k3 b o (four b hb) h2] at z;cases z
  ·exact l3.allo b hb
 ·rcases Aj.mp hb with hb|hb
  ·exact S.fr b (Af _ hb)
  ·exact (cases' b hb).elim (λz=>S.fr b (Ac _ z)) λz=>same_none s2 z
 ·exact (cases' b hb).elim (λz=>S.dj b z) λz=>P2.bk.outN z
end
structure KB (C:Addr)(K:Aa)(H1 H:Hp)(p dl dt db dl2 pl a hd kd ls dd:Addr)(big b1:Bool)(cur:Sn)(es:List En)(dts:List Dt)(zi:List (Th×Addr)):Prop where
 S:BS C K H1 H p dl dt db a hd kd ls dd big (bsOf es) cur.kvs (bfOf es) (dsOf es) cur.M cur.day es.length dts zi
 ez:zi.map (·.1)=cur.zs
 PH:PHs H big b1 ([dl2,pl]++([p,dl,dt,db]++La a hd kd ls dd zi)) cur es
 h2:H dl2=some (.lst (dsOf es))
 hp:H pl=some (.lst (es.map λe=>V.ref e.a).reverse)
 n2:dl2∉[p,dl,dt,db]++La a hd kd ls dd zi
 np:pl∉[p,dl,dt,db]++La a hd kd ls dd zi
 ne:dl2≠pl
 f2:H1 dl2=none
 fp:H1 pl=none
 db:b1=false->cur.day<=2*(es.length:Int)
 fe:∀ e∈es,∀ x∈e.la,H1 x=none
def Fm.of (s:Same H H'):Fm X X H H':=λb o n e=>⟨s b o e,n⟩
theorem Fm.trans (h:Fm X X' H H')(k:Fm X' X'' H' H''):Fm X X'' H H'':=λb o n e=>by
 obtain ⟨e1,n1⟩:=h b o n e;exact k b o n1 e1
def Fm.left (h:Fm X (X'++Y) H H'):Fm X X' H H':=λb o n e=>⟨(h b o n e).1,λz=>(h b o n e).2 (Af _ z)⟩
def bpos (h:H x=some (.lst us)):But x H (upd H x (.lst us')):=λb o nb e=>by rw [aD nb];exact e
section
variable {C:Addr}{K:Aa}{H1 H H8 H9 H10:Hp}{p dl dt db dl2 pl a hd kd ls dd:Addr}{big b1:Bool}{cur:Sn}{es:List En}{dts:List Dt}{zi:List (Th×Addr)}
def KB.keep (S:KB C K H1 H p dl dt db dl2 pl a hd kd ls dd big b1 cur es dts zi)(s:Same H H8):KB C K H1 H8 p dl dt db dl2 pl a hd kd ls dd big b1 cur es dts zi:=⟨S.S.keep s,S.ez,S.PH.keep s.tk (Fm.of s),s _ _ S.h2,s _ _ S.hp,S.n2,S.np,S.ne,S.f2,S.fp,S.db,S.fe⟩
def KB.alX (S:KB C K H1 H p dl dt db dl2 pl a hd kd ls dd big b1 cur es dts zi):∀ b∈[dl2,pl]++([p,dl,dt,db]++La a hd kd ls dd zi),H b≠none:=λb hb=>by
 rcases Aj.mp hb with h|h
 ·simp only [Ae,Ag,or_false] at h
  rcases h with rfl|rfl
  ·rw [S.h2];simp
  ·rw [S.hp];simp
 ·exact S.S.P.al b h
def KB.sn (S:KB C K H1 H p dl dt db dl2 pl a hd kd ls dd big b1 cur es dts zi):SnOk H ([dl2,pl]++([p,dl,dt,db]++La a hd kd ls dd zi)) b1 es.length cur:=by
 have th:=S.S.P.th;rw [S.ez] at th;have g:=S.S.P.g;rw [S.ez] at g;refine ⟨bG (λkv z ⟨e,q,d1,d2,r1,r2,r3,r4⟩=>⟨e,q,d1,d2,r1,r2,?_,?_⟩) th,g,S.S.d0,S.S.d1,S.db⟩
 ·obtain ⟨_,_,w,_⟩:=r2.hd
  intro m
  rcases Aj.mp m with m|m
  ·simp only [Ae,Ag,or_false] at m
   rcases m with rfl|rfl
   ·rw [S.h2] at w;cases w
   ·rw [S.hp] at w;cases w
  ·exact r3 m
 ·obtain ⟨_,w,_⟩:=r2.hw
  intro m
  rcases Aj.mp m with m|m
  ·simp only [Ae,Ag,or_false] at m
   rcases m with rfl|rfl
   ·rw [S.h2] at w;cases w
   ·rw [S.hp] at w;cases w
  ·exact r4 m
def KB.push (S:KB C K H1 H p dl dt db dl2 pl a hd kd ls dd big b1 cur es dts zi){M' day':Int}(st:Stp es.length cur.M (zi.map (·.1)) cur.day d M' (zi'.map (·.1)) day')(P8:PS C H8 ([p,dl,dt,db]++La a hd kd ls dd zi) p dl dt db (bsOf es++[.ref q']) kvs' day' bf' M' (es.length+1) (zi'.map (·.1)))(b8:BfN H H8 (bfOf es) bf' cur.kvs cur.day kvs')(hq':H8 q'=some (.tup d.row))(hq:H8 q=some (.tup d.row))(k8:Kp p dl dt db H H8)(s9:Same H8 H9)(ec:zc.map (·.1)=zi.map (·.1))(fc:∀ b∈La a' hd' kd' ls' dd' zc,H8 b=none)(lc:LG H9 a' hd' kd' ls' dd' big cur.M cur.day es.length (dsOf es) zc)(kA:KpL (La a hd kd ls dd zi) (upd H9 pl (.lst ((es.map λe=>V.ref e.a).reverse++[.ref a']))) H10)(tA:Tk (upd H9 pl (.lst ((es.map λe=>V.ref e.a).reverse++[.ref a']))) H10)(ad:Adr (upd H9 pl (.lst ((es.map λe=>V.ref e.a).reverse++[.ref a']))) zi zi')(lA:LS H10 a hd kd ls dd big M' day' (es.length+1) (dsOf es++[.ref q]) zi')(d0:0<=day')(d1:day'<=1000000)(db':b1=false->day'<=2*((es.length:Int)+1)) :
  ∃ e:En,e.a=a'/\KB C K H1 (upd H10 dl2 (.lst (dsOf es++[.ref q]))) p dl dt db dl2 pl a hd kd ls dd big b1 ⟨kvs',day',M',zi'.map (·.1)⟩ (e::es) (dts++[d.dt]) zi':=by
 obtain ⟨b,eb,bk8⟩:=b8.kept S.alX;subst eb;have o2:Out p dl dt db dl2:=⟨λz=>S.n2 (by simp [z]),λz=>S.n2 (by simp [z]),λz=>S.n2 (by simp [z]),λz=>S.n2 (by simp [z])⟩;have op:Out p dl dt db pl:=⟨λz=>S.np (by simp [z]),λz=>S.np (by simp [z]),λz=>S.np (by simp [z]),λz=>S.np (by simp [z])⟩;have h28:=k8 _ _ o2 S.h2;have hp8:=k8 _ _ op S.hp;have hp9:=s9 _ _ hp8;have tk8:=S.S.P.bk.tk k8;have P9:=(P8.keep s9).kpx hp9 ⟨op.2.1,op.2.2.2⟩ (bpos (us':=(es.map λe=>V.ref e.a).reverse++[.ref a']) hp9) ⟨_,aB⟩;have s1:Same H1 (upd H9 pl (.lst ((es.map λe=>V.ref e.a).reverse++[.ref a']))):=dD ((S.S.same2 k8).trans s9) S.fp;have tkp:Tk H9 (upd H9 pl (.lst ((es.map λe=>V.ref e.a).reverse++[.ref a']))):=Tk.lst hp9;have h29:(upd H9 pl (.lst ((es.map λe=>V.ref e.a).reverse++[.ref a']))) dl2=some (.lst (dsOf es)):=by rw [aD S.ne];exact s9 _ _ h28
 have hpp:(upd H9 pl (.lst ((es.map λe=>V.ref e.a).reverse++[.ref a']))) pl=some (.lst ((es.map λe=>V.ref e.a).reverse++[.ref a'])):=aB;have tkA:Tk H8 H10:=λb xs e=>tA _ _ (tkp _ _ (s9.tk _ _ e));have S10:=S.S.nextS P9 s1 kA tA ad lA (dts':=dts++[d.dt]) (((S.S.D1.keep tk8).keep tkA).snoc (d.dv (tkA _ _ hq'))) (((S.S.D2.keep tk8).keep tkA).snoc (d.dv (tkA _ _ hq))) d0 d1;have nLa:∀ {x:Addr},x∉[p,dl,dt,db]++La a hd kd ls dd zi->x∉La a hd kd ls dd zi:=λh z=>h (Ac _ z);have h210:=kA _ _ (nLa S.n2) h29;have hp10:=kA _ _ (nLa S.np) hpp;have nx:∀ {x:Addr} {o:HO},(upd H9 pl (.lst ((es.map λe=>V.ref e.a).reverse++[.ref a']))) x=some o->x∉[p,dl,dt,db]++La a hd kd ls dd zi->x∉[p,dl,dt,db]++La a hd kd ls dd zi':=λ{x o} e nb z=>by
  rcases Aj.mp z with z|z
  ·exact nb (Af _ z)
  ·rcases Aj.mp z with z|z
   ·exact nb (Ac _ (Af _ z))
   ·obtain ⟨u,hu,rfl⟩:=An.mp z
    rcases ad u hu with w|w
    ·exact nb (Ac _ (Ac _ w))
    ·rw [e] at w;cases w
 have F8:Fm ([dl2,pl]++([p,dl,dt,db]++La a hd kd ls dd zi)) ([dl2,pl]++([p,dl,dt,db]++La a hd kd ls dd zi)) H H8:=λb o nb e=>by
  refine ⟨k8 b o ⟨λz=>nb (by simp [z]),λz=>nb (by simp [z]),λz=>nb (by simp [z]),λz=>nb (by simp [z])⟩ e,nb⟩
 have F9:Fm ([dl2,pl]++([p,dl,dt,db]++La a hd kd ls dd zi)) (([dl2,pl]++([p,dl,dt,db]++La a hd kd ls dd zi))++La a' hd' kd' ls' dd' zc) H8 H9:=λb o nb e=>⟨s9 _ _ e,λz=>(Aj.mp z).elim nb λz=>by rw [fc b z] at e;cases e⟩;have FA:Fm ([dl2,pl]++([p,dl,dt,db]++La a hd kd ls dd zi)) ([dl2,pl]++([p,dl,dt,db]++La a hd kd ls dd zi')) H9 (upd H10 dl2 (.lst (dsOf es++[.ref q]))):=λb o nb e=>by
  have nb1:b≠pl:=λz=>nb (by simp [z]);have nb2:b≠dl2:=λz=>nb (by simp [z]);have e1:(upd H9 pl (.lst ((es.map λe=>V.ref e.a).reverse++[.ref a']))) b=some o:=by rw [aD nb1];exact e
  refine ⟨by rw [aD nb2];exact kA b o (λz=>nb (Ac _ (Ac _ z))) e1,λz=>?_⟩
  rcases Aj.mp z with z|z
  ·exact nb (Af _ z)
  ·rcases Aj.mp z with z|z
   ·exact nb (Ac _ (Af _ z))
   ·rcases Aj.mp z with z|z
    ·exact nb (Ac _ (Ac _ (Af _ z)))
    ·obtain ⟨u,hu,rfl⟩:=An.mp z
     rcases ad u hu with w|w
     ·exact nb (Ac _ (Ac _ (Ac _ w)))
     ·rw [e1] at w;cases w
 have tk11:Tk H8 (upd H10 dl2 (.lst (dsOf es++[.ref q]))):=λb xs e=>Tk.lst h210 _ _ (tkA _ _ e);have Fall:=(F8.trans F9).trans FA.more;have F811:=(F9.trans FA.more).left;have cX:∀ b∈La a' hd' kd' ls' dd' zc,b∉[dl2,pl]++([p,dl,dt,db]++La a hd kd ls dd zi):=λb hb z=>by
  have:=fc b hb
  rcases Aj.mp z with z|z
  ·simp only [Ae,Ag,or_false] at z
   rcases z with rfl|rfl
   ·rw [h28] at this;cases this
   ·rw [hp8] at this;cases this
  ·exact P8.al b z this
 refine ⟨⟨b,.ref q',.ref q,d,cur,a',hd',kd',ls',dd',zc⟩,rfl,⟨?_,rfl,⟨bk8.keep F811 tk11,by rw [<- S.ez];exact st,S.sn.keep Fall (λb xs e=>tk11 _ _ (tk8 _ _ e)),⟨⟨q',rfl,tk11 _ _ hq'⟩,⟨q,rfl,tk11 _ _ hq⟩⟩,⟨lc.s.keep λb hb o w=>(FA b o (cX b hb) w).1,lc.g⟩,by rw [ec,S.ez],λx hx=>?_,S.PH.keep (λb xs e=>tk11 _ _ (tk8 _ _ e)) Fall⟩,by rw [gZ];exact aB,?_,?_,?_,S.ne,S.f2,S.fp,?_,λe he x hx=>?_⟩⟩
 ·rw [kL,oN,gZ]
  exact S10.kpx h210 (nx h29 S.n2) S.f2 (bpos h210) ⟨_,aB⟩
 ·cases w:H9 x with
  |none=>exact absurd w (lc.s.allo x hx)
  |some o=>exact (FA x o (cX x hx) w).2
 ·rw [Ao,BJ,aD (Au S.ne)]
  exact hp10
 ·exact nx h29 S.n2
 ·exact nx hpp S.np
 ·intro h
  have:=db' h;show day'<=2*((es.length+1:Nat):Int);omega
 ·rcases Ae.mp he with rfl|he
  ·exact same_none (S.S.same2 k8) (fc x hx)
  ·exact S.fe e he x hx
theorem PHs.dls:∀ {es:List En} {X:List Addr} {cur:Sn},PHs H big b1 X cur es->DL K H 40 (bsOf es) (es.map (·.d.dt)).reverse/\DL K H 40 (dsOf es) (es.map (·.d.dt)).reverse
 |[],_,_,_=>⟨.nil,.nil⟩
 |e::es,X,cur,⟨h1,h2,h3,⟨⟨q,eq,hq⟩,⟨q2,eq2,hq2⟩⟩,h5,h6,h7,h8⟩=>by
  obtain ⟨g1,g2⟩:=PHs.dls h8;rw [kL,gZ,Ao,BJ,eq,eq2];exact ⟨g1.snoc (e.d.dv hq),g2.snoc (e.d.dv hq2)⟩
def KB.pop (S:KB C K H1 H p dl dt db dl2 pl a hd kd ls dd big b1 cur es dts zi){j:Nat}(hj:es[j]?=some e)(B':Bk C H8 p dl dt db (bsOf (es.drop (j+1))) e.s.kvs e.s.day (bfOf (es.drop (j+1))))(h2':H8 dl2=some (.lst (dsOf (es.drop (j+1)))))(hp':H8 pl=some (.lst ((es.drop (j+1)).map λe=>V.ref e.a).reverse))(fr:∀ b o,b∉[p,dl,dt,db,dl2,pl]->H b=some o->H8 b=some o) :
  KB C K H1 H8 p dl dt db dl2 pl e.a e.hd e.kd e.ls e.dd big b1 e.s (es.drop (j+1)) ((es.drop (j+1)).map (·.d.dt)).reverse e.zi:=by
 obtain ⟨ph,sn,lg,ez,nX⟩:=S.PH.pop hj;have six:∀ b∈[p,dl,dt,db,dl2,pl],b∈[dl2,pl]++([p,dl,dt,db]++La a hd kd ls dd zi):=λb hb=>by
  simp only [Ae,Ag,or_false] at hb
  rcases hb with rfl|rfl|rfl|rfl|rfl|rfl<;>simp
 have nla:∀ x∈La e.a e.hd e.kd e.ls e.dd e.zi,x∉[p,dl,dt,db,dl2,pl]:=λx hx z=>nX x hx (six x z);have tk:Tk H H8:=λb xs w=>fr b _ (λz=>by
  obtain ⟨⟨dx0,b0⟩,b1',b2',b3',_⟩:=id S.S.P.bk;simp only [Ae,Ag,or_false] at z
  rcases z with rfl|rfl|rfl|rfl|rfl|rfl
  ·rw [b0] at w;cases w
  ·rw [b1'] at w;cases w
  ·rw [b2'] at w;cases w
  ·rw [b3'] at w;cases w
  ·rw [S.h2] at w;cases w
  ·rw [S.hp] at w;cases w) w
 have sub:∀ b∈[dl2,pl]++([p,dl,dt,db]++La e.a e.hd e.kd e.ls e.dd e.zi),b∈([dl2,pl]++([p,dl,dt,db]++La a hd kd ls dd zi))++e.la:=λb hb=>by
  rcases Aj.mp hb with h|h
  ·exact Af _ (Af _ h)
  ·rcases Aj.mp h with h|h
   ·exact Af _ (Ac _ (Af _ h))
   ·exact Ac _ h
 have F:Fm (([dl2,pl]++([p,dl,dt,db]++La a hd kd ls dd zi))++e.la) ([dl2,pl]++([p,dl,dt,db]++La e.a e.hd e.kd e.ls e.dd e.zi)) H H8:=λb o nb w=>⟨fr b o (λz=>nb (Af _ (six b z))) w,λz=>nb (sub b z)⟩;have sn':=sn.keep F tk;have lg':LG H8 e.a e.hd e.kd e.ls e.dd big e.s.M e.s.day (es.drop (j+1)).length (dsOf (es.drop (j+1))) e.zi:=⟨lg.s.keep λb hb o w=>fr b o (nla b hb) w,lg.g⟩;have ph':=ph.keep tk F;obtain ⟨D1,D2⟩:=PHs.dls (K:=K) ph';have th':Ths H8 ([p,dl,dt,db]++La e.a e.hd e.kd e.ls e.dd e.zi) e.s.M (es.drop (j+1)).length e.s.kvs e.s.zs:=bG (λkv z ⟨e,q,d1,d2,r1,r2,r3,r4⟩=>⟨e,q,d1,d2,r1,r2,λw=>r3 (Ac _ w),λw=>r4 (Ac _ w)⟩) sn'.th;have em:=Ar hj;have H1n:∀ b∈[p,dl,dt,db,dl2,pl],H1 b=none:=λb hb=>by
  simp only [Ae,Ag,or_false] at hb
  rcases hb with rfl|rfl|rfl|rfl|rfl|rfl
  ·exact S.S.fr _ (by simp)
  ·exact S.S.fr _ (by simp)
  ·exact S.S.fr _ (by simp)
  ·exact S.S.fr _ (by simp)
  ·exact S.f2
  ·exact S.fp
 refine ⟨⟨⟨B',by rw [ez];exact th',by unfold bsOf;rw [AI,Ab],by unfold bfOf;rw [AI,Ab],⟨by simp,by simp,by simp,by simp⟩,λb hb=>?_,by rw [ez];exact sn'.g⟩,lg',D1,D2,λb o w=>fr b o (λz=>by rw [H1n b z] at w;cases w) (S.S.sm b o w),λb hb=>?_,λb hb=>?_,sn'.d0,sn'.d1⟩,ez,ph',h2',hp',λz=>?_,λz=>?_,S.ne,S.f2,S.fp,sn'.db,λe' he'=>S.fe e' (List.mem_of_mem_drop he')⟩
 ·rcases Aj.mp hb with h|h
  ·obtain ⟨⟨dx0,b0⟩,b1',b2',b3',_⟩:=id B'
   simp only [Ae,Ag,or_false] at h
   rcases h with rfl|rfl|rfl|rfl
   ·rw [b0];simp
   ·rw [b1'];simp
   ·rw [b2'];simp
   ·rw [b3'];simp
  ·exact lg'.s.allo b h
 ·rcases Aj.mp hb with h|h
  ·exact S.S.fr b (Af _ h)
  ·exact S.fe e em b h
 ·have:=nla b hb
  simp only [Ae,Ag,or_false,not_or] at this;exact ⟨this.1,this.2.1,this.2.2.1,this.2.2.2.1⟩
 ·rcases Aj.mp z with z|z
  ·exact S.n2 (Af _ z)
  ·exact nla dl2 z (by simp)
 ·rcases Aj.mp z with z|z
  ·exact S.np (Af _ z)
  ·exact nla pl z (by simp)
def KB.re (S:KB C K H1 H p dl dt db dl2 pl a hd kd ls dd big b1 cur es dts zi)(B':Bk C H8 p dl dt db (bsOf es) cur.kvs cur.day (bfOf es))(h2':H8 dl2=some (.lst (dsOf es)))(hp':H8 pl=some (.lst (es.map λe=>V.ref e.a).reverse))(fr:∀ b o,b∉[p,dl,dt,db,dl2,pl]->H b=some o->H8 b=some o):KB C K H1 H8 p dl dt db dl2 pl a hd kd ls dd big b1 cur es dts zi:=by
 have six:∀ b∈[p,dl,dt,db,dl2,pl],b∈[dl2,pl]++([p,dl,dt,db]++La a hd kd ls dd zi):=λb hb=>by
  simp only [Ae,Ag,or_false] at hb
  rcases hb with rfl|rfl|rfl|rfl|rfl|rfl<;>simp
 have nla:∀ x∈La a hd kd ls dd zi,x∉[p,dl,dt,db,dl2,pl]:=λx hx z=>by
  obtain ⟨o1,o2,o3,o4⟩:=S.S.dj x hx;simp only [Ae,Ag,or_false] at z
  rcases z with z|z|z|z|z|z
  ·exact o1 z
  ·exact o2 z
  ·exact o3 z
  ·exact o4 z
  ·exact S.n2 (z▸Ac _ hx)
  ·exact S.np (z▸Ac _ hx)
 have tk:Tk H H8:=λb xs w=>fr b _ (λz=>by
  obtain ⟨⟨dx0,b0⟩,b1',b2',b3',_⟩:=id S.S.P.bk;simp only [Ae,Ag,or_false] at z
  rcases z with rfl|rfl|rfl|rfl|rfl|rfl
  ·rw [b0] at w;cases w
  ·rw [b1'] at w;cases w
  ·rw [b2'] at w;cases w
  ·rw [b3'] at w;cases w
  ·rw [S.h2] at w;cases w
  ·rw [S.hp] at w;cases w) w
 have F:Fm ([dl2,pl]++([p,dl,dt,db]++La a hd kd ls dd zi)) ([dl2,pl]++([p,dl,dt,db]++La a hd kd ls dd zi)) H H8:=λb o nb w=>⟨fr b o (λz=>nb (six b z)) w,nb⟩;have sn':=S.sn.keep F tk;have lg':LG H8 a hd kd ls dd big cur.M cur.day es.length (dsOf es) zi:=⟨S.S.L.s.keep λb hb o w=>fr b o (nla b hb) w,S.S.L.g⟩;have H1n:∀ b∈[p,dl,dt,db,dl2,pl],H1 b=none:=λb hb=>by
  simp only [Ae,Ag,or_false] at hb
  rcases hb with rfl|rfl|rfl|rfl|rfl|rfl
  ·exact S.S.fr _ (by simp)
  ·exact S.S.fr _ (by simp)
  ·exact S.S.fr _ (by simp)
  ·exact S.S.fr _ (by simp)
  ·exact S.f2
  ·exact S.fp
 have th':Ths H8 ([p,dl,dt,db]++La a hd kd ls dd zi) cur.M es.length cur.kvs cur.zs:=bG (λkv z ⟨e,q,d1,d2,r1,r2,r3,r4⟩=>⟨e,q,d1,d2,r1,r2,λw=>r3 (Ac _ w),λw=>r4 (Ac _ w)⟩) sn'.th;refine ⟨⟨⟨B',by rw [S.ez];exact th',S.S.P.bl,S.S.P.fl,S.S.P.inL,λb hb=>?_,S.S.P.g⟩,lg',S.S.D1.keep tk,S.S.D2.keep tk,λb o w=>fr b o (λz=>by rw [H1n b z] at w;cases w) (S.S.sm b o w),S.S.fr,S.S.dj,S.S.d0,S.S.d1⟩,S.ez,S.PH.keep tk F,h2',hp',S.n2,S.np,S.ne,S.f2,S.fp,S.db,S.fe⟩
 rcases Aj.mp hb with h|h
 ·obtain ⟨⟨dx0,b0⟩,b1',b2',b3',_⟩:=id B'
  simp only [Ae,Ag,or_false] at h
  rcases h with rfl|rfl|rfl|rfl
  ·rw [b0];simp
  ·rw [b1'];simp
  ·rw [b2'];simp
  ·rw [b3'];simp
 ·exact lg'.s.allo b h
theorem KB.kl (S:KB C K H1 H p dl dt db dl2 pl a hd kd ls dd big b1 cur es dts zi):cur.kvs.length<=100:=by
 have:=S.S.P.kl;have:=S.S.P.g.ln;have:=S.S.P.g.n60;omega
end
def sZ (K:Aa):Sp:=λvs H Q _=>∃ (a:Addr) (ns:List Int),vs=[.ref a]/\SqL K H a (ns.map V.int)/\ns.length<=63/\∀ H',Q (.bl true) H'
def Bk.but {p dl dt db x:Addr}{bs:List V}{day:Int}(B:Bk C H p dl dt db bs kvs day bf)(hx:H x=some (.lst us))(n1:x≠dl)(n2:x≠db)(k:But x H H'):Bk C H' p dl dt db bs kvs day bf:=by
 obtain ⟨⟨dx,h0⟩,h1,h2,h3,h4⟩:=B;exact ⟨⟨dx,k.dk hx h0 λ_ z=>by cases z⟩,k _ _ (Au n1) h1,k.dk hx h2 (λ_ z=>by cases z),k _ _ (Au n2) h3,h4⟩
theorem aAo {K:Aa}{H:Hp}:∀ {bs:List V} {ds:List Dd},Paired (DAt H) bs ds->DL K H 40 bs (ds.map Dd.dt)
 |_,_,.nil=>.nil
 |_,_,.cons ⟨q,e,h⟩ t=>by rw [e];exact .cons (Dd.dv _ h) (aAo t)
theorem aD7 (es:List En):(es.map (·.d.dt)).reverse=(es.reverse.map (·.d)).map Dd.dt:=by rw [Bh,<- List.map_reverse];rfl
section
variable {P:AE}{w:World}{K:Aa}{mg:Str->Option Value}{base:Heap}
abbrev NLaw:List Str:=["_law_script","_law_by_digits","_law_names_here","_law_books","_law_deeds","_law_here","_law_past","_law_looks","_law_k","_law_cell","_law_many","_law_turn","_law_deed"]
def gE:FnScope NLaw ["_law_script"] (aG sLaw):=fnScOk (by decide +kernel)
def aEz {f C fI:Addr}{fd fdI:Bj}(F:Fun K "law" "law" sLaw f fd)(T:Txt mg)(L:Cl K mg C)(mgC:mg "Books" = some (.ref C))(M:Mk K C fI)(GI:FnOk P w K mg base CX0 8 fI fdI ["self"] (qA C))(bI:Binds K fdI ["self"] [])
  (cC:Cal P w K mg base CX0 9 "_law_cell_at" ["_law_script","_law_k"] (tI K)) (cM:Cal P w K mg base CX0 9 "_law_mixed" ["_law_cell","_law_k"] oT) (cN:Cal P w K mg base CX0 9 "_law_names" ["_law_seed"] oS) (cE:Cal P w K mg base CX0 9 "_law_new" ["_law_big"] aA3) (cL:Cal P w K mg base CX0 9 "_law_none_left" ["_law_books"] (fY C))
  (cX:Cal P w K mg base CX0 9 "_law_next" ["_law_here","_law_names_here","_law_own","_law_cell","_law_by_digits"] (sX K)) (cD:Cal P w K mg base CX0 9 "_law_do" ["_law_books","_law_deed"] (spDo C K)) (cA:Cal P w K mg base CX0 9 "_law_apply" ["_law_here","_law_deed"] oX) (cY:Cal P w K mg base CX0 9 "_law_copy" ["_law_here"] tH) (cB:Cal P w K mg base CX0 9 "_law_backs" ["_law_books","_law_deeds","_law_many"] (oV C)) (cG:Cal P w K mg base CX0 9 "_law_again" ["_law_deeds"] (lQ C K)) (cS:Cal P w K mg base CX0 9 "_law_same" ["_law_books","_law_other","_law_here","_law_cell"] (pX C K)):FnOk P w K mg base CX0 10 f fd ["_law_script"] (sZ K):=by
 refine F.ok gE (λvs H Q E h=>?_) (λcdv A outer s0 H vs Q E hr h=>?_)
 ·obtain ⟨_,_,rfl,_⟩:=h
  rfl
 ·obtain ⟨a,ns,rfl,hS,nl,k⟩:=h
  refine ⟨_,(aC (aT (i:=1) gE.nd rfl (Or.inl rfl) (dM dN (aM bK (aV cC hr rfl aR (aA (pv 0) (aA aH aE))) aH) aH (aU _)))
   (aC (aT (i:=2) gE.nd rfl (Or.inl rfl) (aV cN hr rfl aR (aA (aV cM hr rfl aR (aA (aV cC hr rfl aR (aA (pv 0) (aA aH aE))) (aA aH aE))) aE)))
   (aC (aT (i:=3) gE.nd rfl (Or.inl rfl) (qP M GI hr rfl mgC bI .nil aR))
   (aC (aT (i:=4) gE.nd rfl (Or.inl rfl) (dH aE))
   (aC (aT (i:=5) gE.nd rfl (Or.inl rfl) (aV cE hr rfl aR (aA (dM jO (aS bA rfl T.len Be (aA (pv 0) aE)) aH (aU _)) aE)))
   (aC (aT (i:=6) gE.nd rfl (Or.inl rfl) (dH aE))
   (aC (aT (i:=7) gE.nd rfl (Or.inl rfl) aH)
   (aC (bC (eC (cU (aV cL hr rfl aR (aA (pv 3) aE)))) (aF (aK gF)) aQ)
   (aC (dW Bc rfl (tV rfl T.range (aA aH (aA (aS (hG rfl) rfl T.min' boot_min (aA (aS bA rfl T.len Be (aA (pv 0) aE)) (aA (cR dO (dH (aA aH (aA aH aE))) (bP kK rfl T.int' rB (aA (pv 1) aE)) (λ_ _=>rfl)) aE))) aE))) (aY (i:=8) gE.nd rfl (Or.inl rfl))
    (aC (aT (i:=9) gE.nd rfl (Or.inl rfl) (cR dO (dH (aA (aV cM hr rfl aR (aA (cR dO (pv 0) (pv 8) (λ_ _=>rfl)) (aA (pv 8) aE))) (aA (aS mV rfl T.abs' wH (aA (cR dO (pv 0) (pv 8) (λ_ _=>rfl)) aE)) aE))) (bP kK rfl T.int' rB (aA (pv 1) aE)) (λ_ _=>rfl)))
    (aC (bC (aP jO (aM bK (pv 9) aH) aH (aU _))
     (aC (aT (i:=10) gE.nd rfl (Or.inl rfl) (cR dO (dH (aA aH (aA aH (aA (aS (wD rfl) rfl T.max' boot_max (aA aH (aA (aM qR (aS bA rfl T.len Be (aA (pv 4) aE)) (aM bK (aM bB (pv 9) aH) aH)) aE))) aE)))) (aM bK (aM bB (pv 9) aH) aH) (λ_ _=>rfl)))
     (aC (bC (aP dN (aM bK (aM bB (pv 9) aH) aH) aH (aU _))
      (aF (aT (i:=10) gE.nd rfl (Or.inl rfl) (aM cZ (aS bA rfl T.len Be (aA (pv 4) aE)) aH)))
      aQ)
     (aC (bC (eC (cU (aV cB hr rfl aR (aA (pv 3) (aA (pv 4) (aA (pv 10) aE)))))) (aF (aK gF)) aQ)
     (aF (dW Bc rfl (fR rfl T.range (aA (aS (hG rfl) rfl T.min' boot_min (aA (pv 10) (aA (aS bA rfl T.len Be (aA (pv 6) aE)) aE))) aE)) (aY (i:=11) gE.nd rfl (Or.inl rfl))
      (aF (aT (i:=5) gE.nd rfl (Or.inl rfl) (qQ Bb DA Dz qT (pv 6)))))))))
     (aC (aT (i:=12) gE.nd rfl (Or.inl rfl) (aV cX hr rfl aR (aA (pv 5) (aA (pv 2) (aA (aM bB (pv 9) aH) (aA (aM bB (pv 9) aH) (aA (pv 1) aE)))))))
     (aC (bC (aP rN (aV cD hr rfl aR (aA (pv 3) (aA (pv 12) aE))) (aS bA rfl T.len Be (aA (pv 4) aE)) (aU _)) (aF (aK gF)) aQ)
     (aC (bD (mE Bb Bx Bw dB (pv 6) (aA (aV cY hr rfl aR (aA (pv 5) aE)) aE)))
     (aC (bD (aV cA hr rfl aR (aA (pv 5) (aA (pv 12) aE))))
     (aF (bD (mE Bb Bx Bw dB (pv 4) (aA (pv 12) aE)))))))))
    (aF (bC (PW.pt (kR (aP dN (aM bK (aM bB (pv 9) aH) aH) aH (aU _)) (jK (aP jO (pv 7) aH (aU _)))))
     (aC (aT (i:=7) gE.nd rfl (Or.inl rfl) (aM cZ (pv 7) aH))
     (aF (bC (eC (cU (aV cS hr rfl aR (aA (pv 3) (aA (aV cG hr rfl aR (aA (pv 4) aE)) (aA (pv 5) (aA (aM bB (pv 9) aH) aE))))))) (aF (aK gF)) aQ)))
     aQ)))))
   (aF (aK (aV cS hr rfl aR (aA (pv 3) (aA (aV cG hr rfl aR (aA (pv 4) aE)) (aA (pv 5) (aA (aS bA rfl T.len Be (aA (pv 0) aE)) aE)))))))))))))))),?_⟩
  refine aG0 ?_
  intros
  refine ⟨_,rfl,a,ns,0,rfl,hS,by decide,λc0=>⟨_,_,rfl,rfl,(by show (0:Int)<2;decide),rfl,?_⟩⟩;generalize decide (V.int (c0%2)=V.int 0)=b1;refine ⟨_,rfl,a,ns,0,rfl,hS,by decide,λc1=>⟨c1,0,rfl,by decide,by decide,λn n0 nl'=>⟨n,rfl,n0,nl',λws nm H1 wl wn ww s1 hnm=>?_⟩⟩⟩;intro p dx np ndx nex;refine ⟨p,dx,rfl,aB,λdl dt db H2 f1 f2 f3 B2 kp=>⟨rfl,?_⟩⟩;have s12:Same H1 H2:=λb o e=>kp b o (by rw [aD (aX e np),aD (aX e ndx)];exact e) (aX e np);have fr:∀ {b:Addr},upd (upd H1 dx (.own p)) p (.ins C dx []) b=none->H1 b=none:=λ{b} h=>by
   by_cases z:b=p
   ·rw [z,aB] at h;cases h
   ·rw [aD z] at h
    by_cases z':b=dx
    ·rw [z',aB] at h;cases h
    ·rw [aD z'] at h;exact h
  have fl:=fr f1;have ft:=fr f2;have fb:=fr f3;refine ⟨zLn0,λdl2 hdl2=>?_⟩;have u3:=Same.upd (o:=.lst []) hdl2;have hd3:(upd H2 dl2 (.lst [])) dl2=some (.lst []):=aB;have B3:=B2.keep u3;have s13:=s12.trans u3;have o3:=B2.outN hdl2;have fd2:H1 dl2=none:=same_none s12 hdl2;generalize upd H2 dl2 (.lst [])=H3 at u3 hd3 B3 s13 ⊢;refine ⟨_,rfl,a,_,rfl,.inl ((s1.trans s13).seq hS),_,_,rfl,rfl,_,rfl,λaL hd kd ls dd H4 s4 f5 l4=>?_⟩;generalize decide (((ns.map V.int).length:Int)<20)=big at l4;have S4:BS C K H1 H4 p dl dt db aL hd kd ls dd big [] [] [] [] 1 0 0 [] []:=BS.start B3 s13 ⟨np,fl,ft,fb⟩ s4 f5 l4;have hd4:=s4 _ _ hd3;refine ⟨zLn0,λpl hpl=>?_⟩;have u5:=Same.upd (o:=.lst []) hpl;have n24:dl2∉[p,dl,dt,db]++La aL hd kd ls dd []:=λz=>by
   rcases Aj.mp z with z|z
   ·simp only [Ae,Ag,or_false] at z
    rcases z with z|z|z|z
    ·exact o3.1 z
    ·exact o3.2.1 z
    ·exact o3.2.2.1 z
    ·exact o3.2.2.2 z
   ·have:H3 dl2=none:=f5 dl2 (by simpa [La] using z)
    rw [hd3] at this;cases this
  have S5:KB C K H1 (upd H4 pl (.lst [])) p dl dt db dl2 pl aL hd kd ls dd big b1 ⟨[],0,1,[]⟩ [] [] []:=⟨S4.keep u5,rfl,⟨rfl,rfl,rfl,rfl⟩,u5 _ _ hd4,aB,n24,λz=>S4.P.al pl z hpl,(λz=>by rw [<- z,hd4] at hpl;cases hpl),fd2,same_none S4.sm hpl,(λ_=>by show (0:Int)<=2*((0:Nat):Int);decide),λe h=>(nomatch h)⟩;generalize upd H4 pl (.lst [])=H5 at S5 ⊢;refine ⟨_,rfl,p,dl,dt,db,_,_,_,rfl,S5.S.P.bk,λH6 s6=>⟨_,rfl,iteF ?_⟩⟩;have S6:=S5.keep s6;refine ⟨_,rfl,a,_,rfl,.inl ((s1.trans S6.S.sm).seq hS),zLn2,λz hz=>?_⟩;have t6:=Same.upd (o:=.lst [.int 41,.int 25]) hz;refine ⟨_,rfl,.inr ⟨b1,rfl,?_⟩⟩;obtain ⟨lim,hlim,hlim'⟩:∃ m:Int,atI [V.int 41,V.int 25] (if b1=true then (1:Int) else 0)=some (.int m)/\m=if b1=true then 25 else 41:=by
   cases b1
   ·exact ⟨41,rfl,rfl⟩
   ·exact ⟨25,rfl,rfl⟩
  refine ⟨z,_,_,_,rfl,rfl,SqL.of aB,hlim,_,_,rfl,1,_,rfl,?_,?_⟩
  ·rw [Ab,hlim']
   refine ⟨by decide,by decide,?_,?_⟩<;>split<;>split<;>omega
  have S7:=S6.keep t6;generalize upd H6 z (.lst [.int 41,.int 25])=H7 at S7 ⊢;have again:∀ {H':Hp} {Q':VK} {E':XK} {aL hd kd ls dd:Addr} {cur:Sn} {es:List En} {dts:List Dt} {zi:List (Th×Addr)},KB C K H1 H' p dl dt db dl2 pl aL hd kd ls dd big b1 cur es dts zi->es.length<=50->(∀ p2 Hg,Same H' Hg->(∀ (cc:Int) (Q2:VK) (E2:XK),(∀ H'',Same Hg H''->Q2 (.bl true) H'')->pX C K [.ref p,.ref p2,.ref aL,.int cc] Hg Q2 E2)->Q' (.ref p2) Hg)->lQ C K [.ref dl2] H' Q' E':=λ{H' Q' E' aL hd kd ls dd cur es dts zi} S el kq=>by
   refine ⟨dl2,big,b1,_,cur,es,rfl,S.h2,S.PH,el,λp2 dl' dt' db' bs2 kvs2 bf2 Hg sg frg PSg pdg=>kq _ _ sg λcc Q2 E2 k2=>?_⟩;have Sg:=S.keep sg;obtain ⟨e1,e2⟩:=PHs.dls (K:=K) Sg.PH;exact ⟨_,p,dl,dt,db,_,_,_,_,p2,dl',dt',db',bs2,kvs2,bf2,cur.day,cur.M,es.length,aL,hd,kd,ls,dd,big,_,zi,(es.map (·.d.dt)).reverse,cc,rfl,Sg.S.P,by rw [S.ez];exact PSg,Sg.S.L,⟨e1,by rw [aD7];exact aAo pdg,e2⟩,k2⟩
  refine rT (λi σ H'=>i<=40/\∃ (aL hd kd ls dd:Addr) (cur:Sn) (es:List En) (dts:List Dt) (zi:List (Th×Addr)) (lk:Int) (v8 v9 v10 v11 v12:Option V),σ=[some (.ref a),some (.bl b1),some (.ref nm),some (.ref p),some (.ref dl2),some (.ref aL),some (.ref pl),some (.int lk),v8,v9,v10,v11,v12]/\KB C K H1 H' p dl dt db dl2 pl aL hd kd ls dd big b1 cur es dts zi/\es.length<=i)
   ⟨by decide,aL,hd,kd,ls,dd,_,[],[],[],0,none,none,none,none,none,rfl,S7,Ak _⟩ ?_ ?_
  ·intro i σ H8 D9 hN9 hi hh
   obtain ⟨_,aL,hd,kd,ls,dd,cur,es,dts,zi,lk,v8,v9,v10,v11,v12,rfl,S,el⟩:=hh;have hi62:i+1<ns.length/\i+1<=40:=by
    rw [Ab,hlim'] at hi
    revert hi
    split<;>split<;>omega
   obtain ⟨c,hc⟩:∃ c,ns[1+i]?=some c:=⟨_,Al (by omega)⟩;have ac:atI (ns.map V.int) ((1:Int)+i)=some (.int c):=by rw [show ((1:Int)+i)=((1+i:Nat):Int) by omega];exact iK (by rw [Ah,hc];rfl)
   refine ⟨_,rfl,_,rfl,a,_,_,_,rfl,rfl,(s1.trans S.S.sm).seq hS,ac,_,rfl,c,_,rfl,by omega,by omega,λm1 m10 m1l=>?_⟩;refine ⟨_,rfl,_,rfl,a,_,_,_,rfl,rfl,(s1.trans S.S.sm).seq hS,ac,c,rfl,zLn2,λz hz=>?_⟩;have a0:=aAr c;have tz:=Same.upd (o:=.lst [.int m1,.int (if c<0 then -c else c)]) hz;obtain ⟨cell,hat,ce0,cel⟩:∃ cell:Int,atI [V.int m1,V.int (if c<0 then -c else c)] (if b1=true then (1:Int) else 0)=some (.int cell)/\0<=cell/\(b1=false->cell<2147483587):=by
    cases b1
    ·exact ⟨m1,rfl,m10,λ_=>m1l⟩
    ·exact ⟨_,rfl,a0,λh=>by cases h⟩
   refine ⟨_,rfl,.inr ⟨b1,rfl,z,_,_,_,rfl,rfl,SqL.of aB,hat,?_⟩⟩;have S':=S.keep tz;generalize upd H8 z (.lst [.int m1,.int (if c<0 then -c else c)])=H9 at S' ⊢;clear S hat a0 tz;have S:=S';clear S';dsimp only [kC];refine seqN (λσ' H'=>∃ (aL hd kd ls dd:Addr) (cur:Sn) (es:List En) (dts:List Dt) (zi:List (Th×Addr)) (v10 v11 v12:Option V),σ'=[some (.ref a),some (.bl b1),some (.ref nm),some (.ref p),some (.ref dl2),some (.ref aL),some (.ref pl),some (.int lk),some (.int ((1:Int)+i)),some (.int cell),v10,v11,v12]/\KB C K H1 H' p dl dt db dl2 pl aL hd kd ls dd big b1 cur es dts zi/\es.length<=i+1) ?_ (λN hN=>?_)
   rotate_left
   ·refine ⟨_,rfl,_,_,rfl,rfl,(by show (0:Int)<8;decide),_,_,rfl,rfl,_,rfl,ite2 (λ_=>?_) (λ_=>?_)⟩
    ·refine ⟨_,rfl,dl2,_,rfl,.inl (SqL.of S.h2),_,rfl,_,_,rfl,rfl,⟨by decide,b9⟩,_,_,rfl,rfl,(by show (0:Int)<4;decide),_,_,rfl,rfl,_,_,rfl,zLn3,λz hz=>?_⟩
     have dsl:(dsOf es).length=es.length:=by unfold dsOf;rw [AI,Ab]
     obtain ⟨mx,hmx,mx1,mx2⟩:∃ mx:Int,(if ((dsOf es).length:Int)-cell/64%4 > 1 then ((dsOf es).length:Int)-cell/64%4 else 1)=mx/\1<=mx/\mx<=50:=⟨_,rfl,by split<;>omega,by rw [dsl];split<;>omega⟩;rw [hmx];have em:=bN (cell/8) (m:=3) (by decide);obtain ⟨v,hv,mv⟩:=kM (xs:=[V.int 1,V.int 2,V.int mx]) (e:=cell/8%3) em.1 em.2;obtain ⟨many,rfl,ma1,ma2⟩:∃ many:Int,v=.int many/\1<=many/\many<=50:=by
      simp only [Ae,Ag,or_false] at mv
      rcases mv with rfl|rfl|rfl
      ·exact ⟨_,rfl,by decide,by decide⟩
      ·exact ⟨_,rfl,by decide,by decide⟩
      ·exact ⟨_,rfl,mx1,mx2⟩
     have tz:=Same.upd (o:=.lst [.int 1,.int 2,.int mx]) hz;refine ⟨_,rfl,_,_,rfl,rfl,⟨by decide,b9⟩,_,_,rfl,rfl,(by show (0:Int)<3;decide),z,_,_,_,rfl,rfl,SqL.of aB,hv,?_⟩;have S':=S.keep tz;generalize upd H9 z (.lst [.int 1,.int 2,.int mx])=HB at S' ⊢;clear S;have S:=S';clear S';dsimp only [kC];refine seqN (λσ' H'=>H'=HB/\∃ many:Int,σ'=[some (.ref a),some (.bl b1),some (.ref nm),some (.ref p),some (.ref dl2),some (.ref aL),some (.ref pl),some (.int lk),some (.int ((1:Int)+i)),some (.int cell),some (.int many),v11,v12]/\1<=many/\many<=51) ?_ (λN' hN'=>?_)
     rotate_left
     ·refine ⟨_,rfl,_,_,rfl,rfl,⟨by decide,b9⟩,_,_,rfl,rfl,(by show (0:Int)<9;decide),rfl,_,rfl,ite2 (λ_=>?_) (λ_=>hN' _ _ ⟨rfl,many,rfl,ma1,by omega⟩)⟩
      exact ⟨_,rfl,dl2,_,rfl,.inl (SqL.of S.h2),_,_,rfl,rfl,hN' _ _ ⟨rfl,_,rfl,by omega,by rw [dsl];omega⟩⟩
     rintro _ HB' ⟨rfl,many,rfl,ma1,ma2⟩
     have o2:Out p dl dt db dl2:=⟨λz=>S.n2 (by simp [z]),λz=>S.n2 (by simp [z]),λz=>S.n2 (by simp [z]),λz=>S.n2 (by simp [z])⟩;have op:Out p dl dt db pl:=⟨λz=>S.np (by simp [z]),λz=>S.np (by simp [z]),λz=>S.np (by simp [z]),λz=>S.np (by simp [z])⟩;refine ⟨_,rfl,_,rfl,_,rfl,p,dl,dt,db,dl2,many,big,b1,_,cur,es,rfl,S.S.P.bk,S.PH,(λb hb=>by simp only [Ae,Ag,or_false] at hb;rcases hb with rfl|rfl|rfl|rfl|rfl<;>simp),o2,S.h2,S.kl,by omega,by omega,by omega,λs HC hs BC h2C frC=>⟨_,rfl,iteF ?_⟩⟩;have hpC:HC pl=some (.lst (es.map λe=>V.ref e.a).reverse):=frC _ _ (by simp only [Ae,Ag,or_false,not_or];exact ⟨op.1,op.2.1,op.2.2.1,op.2.2.2,Au S.ne⟩) S.hp;generalize hm:min many.toNat es.length=m at hs BC h2C;have hlen:((es.map λe=>V.ref e.a).reverse.length:Int)=es.length:=by rw [AI,Ab]
     obtain ⟨lim2,hl2,hl3⟩:∃ l:Int,(if ((es.map λe=>V.ref e.a).reverse.length:Int)<many then ((es.map λe=>V.ref e.a).reverse.length:Int) else many)=l/\l=(m:Int):=⟨_,rfl,by rw [hlen,<- hm];split<;>omega⟩;refine ⟨_,rfl,_,rfl,pl,_,rfl,.inl (SqL.of hpC),_,_,rfl,_,rfl,?_⟩;rw [hl2];subst hl3;have mle:m<=es.length:=by omega
     refine ⟨by omega,by omega,?_⟩;refine eY (λt σ H'=>∃ (h:Addr) (v11:Option V),σ=[some (.ref a),some (.bl b1),some (.ref nm),some (.ref p),some (.ref dl2),some (.ref h),some (.ref pl),some (.int lk),some (.int ((1:Int)+i)),some (.int cell),some (.int many),v11,v12]/\But pl HC H'/\H' pl=some (.lst ((es.drop t).map λe=>V.ref e.a).reverse)/\(t=0->h=aL)/\∀ j e,t=j+1->es[j]?=some e->h=e.a) ⟨aL,_,rfl,λ_ _ _ e=>e,hpC,λ_=>rfl,λj e h=>by omega⟩ ?_ ?_
     ·rintro t σ HD ht ⟨h,v11',rfl,kD,hpD,_,_⟩
      have tl:t<es.length:=by omega
      obtain ⟨e,he⟩:∃ e,es[t]?=some e:=⟨_,Al tl⟩;have ed:es.drop t=e::es.drop (t+1):=by rw [List.drop_eq_getElem_cons tl,(Ad.mp he).2]
      rw [ed,Ao,BJ] at hpD;refine ⟨_,rfl,.inl ⟨rfl,_,SqL.of hpD⟩,pl,_,_,rfl,rfl,hpD,gX _ _,?_⟩;rw [eD];refine ⟨e.a,_,rfl,λb o nb w=>by rw [aD nb];exact kD b o nb w,aB,λh=>by omega,λj e' hj he'=>?_⟩;have:j=t:=by omega
      rw [this,he] at he';cases he';rfl
     ·rintro σ HD ⟨h,v11',rfl,kD,hpD,h0,h1⟩
      have BD:=BC.but hpC op.2.1 op.2.2.2 kD;have h2D:=kD _ _ S.ne h2C;have frD:∀ b o,b∉[p,dl,dt,db,dl2,pl]->HB' b=some o->HD b=some o:=λb o nb w=>by
       simp only [Ae,Ag,or_false,not_or] at nb;exact kD b o nb.2.2.2.2.2 (frC b o (by simp only [Ae,Ag,or_false,not_or];exact ⟨nb.1,nb.2.1,nb.2.2.1,nb.2.2.2.1,nb.2.2.2.2.1⟩) w)
      cases m with
      |zero=>
       have e0:=h0 rfl;subst e0;cases hs;exact hN _ _ ⟨_,_,_,_,_,_,_,_,_,_,_,_,rfl,S.re BD h2D hpD frD,by omega⟩
      |succ j=>
       obtain ⟨e,he⟩:∃ e,es[j]?=some e:=⟨_,Al (by omega)⟩;have ea:=h1 j e rfl he;subst ea;rw [Cg,Ah,he] at hs;cases hs;exact hN _ _ ⟨_,_,_,_,_,_,_,_,_,_,_,_,rfl,S.pop he BD h2D hpD frD,by rw [List.length_drop];omega⟩
    ·refine ⟨_,rfl,_,rfl,_,rfl,_,_,rfl,rfl,⟨by decide,b9⟩,_,rfl,_,_,rfl,rfl,⟨by decide,b9⟩,_,rfl,aL,hd,kd,ls,dd,big,cur.M,cur.day,es.length,dsOf es,zi,nm,ws,cell/8,cell/8,b1,rfl,S.S.L,SqL.of (S.S.sm _ _ hnm),wl,ww,by omega,λh=>by have:=cel h;omega,S.S.d0,S.S.d1,S.db,by omega,λd q H10 M' zs' today' s10 hq st tb'=>?_⟩
     have S7:=S.keep s10;have sd:=st.day S.S.d0 S.S.d1;refine ⟨_,rfl,_,rfl,_,p,dl,dt,db,bsOf es,cur.kvs,cur.day,bfOf es,cur.M,es.length,_,d,M',zs',today',q,rfl,S7.S.P,SqT.of hq,st,by omega,λq2 kvs' bf' H8 P8 b8 hq2 k8=>?_⟩;have L8:=S7.S.lg k8;have tk8:=S7.S.P.bk.tk k8;have hq8:=tk8 _ _ hq;have o2:Out p dl dt db dl2:=⟨λz=>S.n2 (by simp [z]),λz=>S.n2 (by simp [z]),λz=>S.n2 (by simp [z]),λz=>S.n2 (by simp [z])⟩;have op:Out p dl dt db pl:=⟨λz=>S.np (by simp [z]),λz=>S.np (by simp [z]),λz=>S.np (by simp [z]),λz=>S.np (by simp [z])⟩;have h28:=k8 _ _ o2 S7.h2;have hp8:=k8 _ _ op S7.hp;have dsl:(dsOf es).length=es.length:=by unfold dsOf;rw [AI,Ab]
     refine ⟨_,rfl,dl2,_,rfl,.inl (SqL.of h28),rfl,_,rfl,ite2 (λh=>by rw [dsl] at h;simp at h) (λ_=>?_)⟩;refine ⟨_,rfl,.inl ⟨rfl,_,SqL.of hp8⟩,_,rfl,aL,hd,kd,ls,dd,big,_,_,_,_,zi,rfl,L8,λa' hd' kd' ls' dd' zc H9 s9 ec fc lc=>?_⟩;have hp9:=s9 _ _ hp8;have h29:=s9 _ _ h28;refine ⟨pl,_,_,rfl,rfl,hp9,aW (by rw [AI,Ab];omega),?_⟩;have L9:LG (upd H9 pl (.lst ((es.map λe=>V.ref e.a).reverse++[.ref a']))) aL hd kd ls dd big cur.M cur.day es.length (dsOf es) zi:=⟨L8.s.keep λb hb o w=>by
      have nb:b≠pl:=λz=>S.np (Ac _ (by rw [<- z];exact hb));rw [aD nb];exact s9 _ _ w,L8.g⟩
     have hq9:(upd H9 pl (.lst ((es.map λe=>V.ref e.a).reverse++[.ref a']))) q=some (.tup d.row):=Tk.lst hp9 _ _ (s9.tk _ _ hq8);refine ⟨_,rfl,_,rfl,aL,hd,kd,ls,dd,big,_,_,_,_,zi,d,M',zs',today',q,rfl,L9,hq9,st,by omega,λzi' HA kA tA ez ad lA=>?_⟩;subst ez;have h2A:HA dl2=some (.lst (dsOf es)):=kA _ _ (λz=>S.n2 (Ac _ z)) (by rw [aD S.ne];exact h29);obtain ⟨e,ea,SN⟩:=S7.push st P8 b8 hq2 hq8 k8 s9 ec fc lc kA tA ad lA sd.1 sd.2 tb';refine ⟨_,rfl,.inl ⟨rfl,_,SqL.of h2A⟩,_,rfl,dl2,_,_,rfl,rfl,h2A,aW (by rw [dsl];omega),hN _ _ ?_⟩;exact ⟨_,_,_,_,_,_,_,_,_,_,_,_,rfl,SN,by show es.length+1<=i+1;omega⟩
   rintro _ H10 ⟨aL,hd,kd,ls,dd,cur,es,dts,zi,v10,v11,v12,rfl,S,el⟩
   refine ⟨_,rfl,_,_,rfl,rfl,⟨by decide,b9⟩,_,_,rfl,rfl,(by show (0:Int)<6;decide),rfl,_,rfl,ite2 (λ_=>?_) (λ_=>iteF (hN9 _ _ ⟨by omega,_,_,_,_,_,_,_,_,_,_,_,_,_,_,_,rfl,S,el⟩))⟩;refine ⟨_,rfl,_,_,rfl,rfl,_,rfl,ite2 (λ_=>?_) (λ_=>hN9 _ _ ⟨by omega,_,_,_,_,_,_,_,_,_,_,_,_,_,_,_,rfl,S,el⟩)⟩;refine ⟨_,rfl,_,_,rfl,rfl,?_⟩;refine ⟨_,rfl,_,rfl,?_⟩;dsimp only [tNil];refine again S (by omega) λp2 Hg sg ks=>?_;refine ⟨_,rfl,_,rfl,_,_,rfl,rfl,⟨by decide,b9⟩,?_⟩;dsimp only [tNil];refine ks _ _ _ λH'' s''=>?_;exact ⟨_,rfl,iteF (hN9 _ _ ⟨by omega,_,_,_,_,_,_,_,_,_,_,_,_,_,_,_,rfl,S.keep (sg.trans s''),el⟩)⟩
  ·rintro σ H8 hh
   obtain ⟨i40,aL,hd,kd,ls,dd,cur,es,dts,zi,lk,v8,v9,v10,v11,v12,rfl,S,el⟩:=hh;refine ⟨_,rfl,_,rfl,?_⟩;dsimp only [tNil];refine again S (by omega) λp2 Hg sg ks=>?_;refine ⟨_,rfl,_,rfl,a,_,rfl,.inl ((s1.trans (S.S.sm.trans sg)).seq hS),?_⟩;dsimp only [tNil];exact ks _ _ _ λH'' s''=>k _
end
def bA1 {p:List Value->Prop}(h:∀ a0,p [a0]):∀ us:List Value,us.length=1->p us:=λus e=>by
 obtain _|⟨a0,us⟩:=us
 ·cases e
 obtain _|⟨b,us⟩:=us
 ·exact h a0
 ·simp at e
def bA2 {p:List Value->Prop}(h:∀ a0 a1,p [a0,a1]):∀ us:List Value,us.length=2->p us:=λus e=>by
 obtain _|⟨a0,us⟩:=us
 ·cases e
 obtain _|⟨a1,us⟩:=us
 ·cases e
 obtain _|⟨b,us⟩:=us
 ·exact h a0 a1
 ·simp at e
def bA3 {p:List Value->Prop}(h:∀ a0 a1 a2,p [a0,a1,a2]):∀ us:List Value,us.length=3->p us:=λus e=>by
 obtain _|⟨a0,us⟩:=us
 ·cases e
 obtain _|⟨a1,us⟩:=us
 ·cases e
 obtain _|⟨a2,us⟩:=us
 ·cases e
 obtain _|⟨b,us⟩:=us
 ·exact h a0 a1 a2
 ·simp at e
def bA4 {p:List Value->Prop}(h:∀ a0 a1 a2 a3,p [a0,a1,a2,a3]):∀ us:List Value,us.length=4->p us:=λus e=>by
 obtain _|⟨a0,us⟩:=us
 ·cases e
 obtain _|⟨a1,us⟩:=us
 ·cases e
 obtain _|⟨a2,us⟩:=us
 ·cases e
 obtain _|⟨a3,us⟩:=us
 ·cases e
 obtain _|⟨b,us⟩:=us
 ·exact h a0 a1 a2 a3
 ·simp at e
def bA5 {p:List Value->Prop}(h:∀ a0 a1 a2 a3 a4,p [a0,a1,a2,a3,a4]):∀ us:List Value,us.length=5->p us:=λus e=>by
 obtain _|⟨a0,us⟩:=us
 ·cases e
 obtain _|⟨a1,us⟩:=us
 ·cases e
 obtain _|⟨a2,us⟩:=us
 ·cases e
 obtain _|⟨a3,us⟩:=us
 ·cases e
 obtain _|⟨a4,us⟩:=us
 ·cases e
 obtain _|⟨b,us⟩:=us
 ·exact h a0 a1 a2 a3 a4
 ·simp at e
structure Dn (K:Aa)(x:Str)(st:Stmt)(ps:List Str):Prop where
 ex:∃ (f:Addr) (fd:Bj),Ax K Aq x=some (some (.ref f))/\Fun K x x st f fd/\Binds K fd ps []
def Dn.mk' {K:Aa}{x:Str}{st:Stmt}{ps:List Str}{f:Addr}{oc:Value}{od an:Option Addr}{osl:Array (Option Value)}{kV doc pm cdv ct:Value}(a:Ax K Aq x=some (some (.ref f)))
  (l:K.lookup f=some ⟨oc,od,.func (Ce x x (eS st) (dZ st) (aG st) .none kV doc pm an cdv ct),osl⟩) (c:Dy K cdv x=true) (k:BR K (.ref f)=true)
  (hb:∀ (kV doc pm:Value) (an:Option Addr) (cdv ct:Value) (us:List Value),us.length=ps.length->bindArgs (Ce x x (eS st) (dZ st) (aG st) .none kV doc pm an cdv ct) ⟨us,[]⟩=pure (ps.zip us)):Dn K x st ps:=
 ⟨f,_,a,nY (st:=st) l c k,(nY (st:=st) l c k).binds hb⟩
def Dn.cal {P:AE}{w:World}{K:Aa}{mg:Str->Option Value}{base h:Heap}{CX:CXT}{k:Nat}{x:Str}{st:Stmt}{ps:List Str}{sp:Sp}(D:Dn K x st ps)(X:K.In h)(G:h.Ns Aq mg)
  (ok:∀ {f:Addr} {fd:Bj},Fun K x x st f fd->FnOk P w K mg base CX k f fd ps sp):Cal P w K mg base CX k x ps sp:=by
 obtain ⟨f,fd,a,F,b⟩:=D.ex;exact ⟨f,fd,BL X G a,F.kp,b,ok F⟩
structure NouK (K:Aa)(aN:Addr):Prop where
 m:Ax K Aq "NOUGHT" = some (some (.ref aN))
 s:∀ H:Hp,SqT K H aN [.int 0,.int 1]
def NouK.mk' {K:Aa}{aN:Addr}{od:Option Addr}{t0 t1:Tok}{n:Nat}{sl:Array (Option Value)}(a:Ax K Aq "NOUGHT" = some (some (.ref aN)))
  (l:K.lookup aN=some ⟨.type "tuple",od,.seq #[.int 0 t0,.int 1 t1] n,sl⟩):∃ aN:Addr,NouK K aN:=
 ⟨aN,a,λ_=>.inr ⟨_,_,_,l,rfl,rfl,zLn2,.cons ⟨_,rfl⟩ (.cons ⟨_,rfl⟩ .nil)⟩⟩
structure MDn (K:Aa)(C:Addr)(m qual:Str)(st:Stmt)(ps:List Str):Prop where
 ex:∃ (f:Addr) (fd:Bj),Meth K C m f/\Fun K m qual st f fd/\Binds K fd ps []
def MDn.mk' {K:Aa}{C:Addr}{m qual:Str}{st:Stmt}{ps:List Str}{f:Addr}{oc:Value}{od an:Option Addr}{osl:Array (Option Value)}{kV doc pm cdv ct:Value}(a:Bo K (.ref C) m=some (some (.ref f)))(i:PySem.W.isFn K (.ref f)=true)
  (l:K.lookup f=some ⟨oc,od,.func (Ce m qual (eS st) (dZ st) (aG st) .none kV doc pm an cdv ct),osl⟩) (c:Dy K cdv qual=true) (k:BR K (.ref f)=true)
  (hb:∀ (kV doc pm:Value) (an:Option Addr) (cdv ct:Value) (us:List Value),us.length=ps.length->bindArgs (Ce m qual (eS st) (dZ st) (aG st) .none kV doc pm an cdv ct) ⟨us,[]⟩=pure (ps.zip us)):MDn K C m qual st ps:=
 ⟨f,_,⟨a,i,k⟩,nY (st:=st) l c k,(nY (st:=st) l c k).binds hb⟩
def MDn.cal {P:AE}{w:World}{K:Aa}{mg:Str->Option Value}{base:Heap}{CX:CXT}{k:Nat}{C:Addr}{m qual:Str}{st:Stmt}{ps:List Str}{sp:Sp}(D:MDn K C m qual st ps)(ok:∀ {f:Addr} {fd:Bj},Fun K m qual st f fd->FnOk P w K mg base CX k f fd ps sp):MCal P w K mg base CX k C m ps sp:=by
 obtain ⟨f,fd,hm,F,b⟩:=D.ex;exact ⟨f,fd,hm,b,ok F⟩
structure ClsK (K:Aa)(C:Addr):Prop where
 mgC:Ax K Aq "Books" = some (some (.ref C))
 cl:Cls K C
 nE:NoAttr K C "deeds"
 nT:NoAttr K C "things"
 nD:NoAttr K C "day"
 nB:NoAttr K C "before"
 mks:PySem.W.makesIn K C=true
 kc:BR K (.ref C)=true
 m_sInit:MDn K C "__init__" "Books.__init__" xH ["self"]
 m_sBack:MDn K C "back" "Books.back" tQ ["self"]
 m_sHad:MDn K C "refuse_had" "Books.refuse_had" sHad ["self","name"]
 m_sNote:MDn K C "note" "Books.note" rK ["self","deed","changed"]
 m_sTake:MDn K C "take" "Books.take" xF ["self","name","ware","many","last"]
 m_sOneOf:MDn K C "is_one_of" "Books.is_one_of" qH ["self","name","words"]
 m_sNoSrc:MDn K C "refuse_no_source" "Books.refuse_no_source" qI ["self","source"]
 m_sNoGoal:MDn K C "refuse_no_goal" "Books.refuse_no_goal" lY ["self","source","goal"]
 m_sThing:MDn K C "thing_of" "Books.thing_of" qG ["self","name"]
 m_sTot:MDn K C "total" "Books.total" sTot ["self","name"]
 m_sToPour:MDn K C "refuse_to_pour" "Books.refuse_to_pour" iB ["self","source","many"]
 m_sPour:MDn K C "pour" "Books.pour" xG ["self","source","goal","many"]
 m_sGive:MDn K C "give" "Books.give" xI ["self","source","name","many"]
 m_sGo:MDn K C "go" "Books.go" sGo ["self","day"]
 m_sDone:MDn K C "done" "Books.done" xJ ["self"]
 m_sHeld:MDn K C "held" "Books.held" rM ["self","name"]
 m_sLast:MDn K C "last" "Books.last" rL ["self","name"]
 m_sRows:MDn K C "rows_to" "Books.rows_to" rJ ["self","name"]
 m_sCalled:MDn K C "called" "Books.called" fN ["self","lot"]
 m_sNms:MDn K C "names" "Books.names" sNms ["self"]
 m_sToday:MDn K C "today" "Books.today" qF ["self"]
def cls_mk {K:Aa}{C:Addr}(mgC:Ax K Aq "Books" = some (some (.ref C)))(cl:Cls K C)(nE:NoAttr K C "deeds")(nT:NoAttr K C "things")(nD:NoAttr K C "day")(nB:NoAttr K C "before")(mk:PySem.W.makesIn K C=true)(kc:BR K (.ref C)=true)
  (m_sInit:MDn K C "__init__" "Books.__init__" xH ["self"]) (m_sBack:MDn K C "back" "Books.back" tQ ["self"]) (m_sHad:MDn K C "refuse_had" "Books.refuse_had" sHad ["self","name"]) (m_sNote:MDn K C "note" "Books.note" rK ["self","deed","changed"]) (m_sTake:MDn K C "take" "Books.take" xF ["self","name","ware","many","last"]) (m_sOneOf:MDn K C "is_one_of" "Books.is_one_of" qH ["self","name","words"]) (m_sNoSrc:MDn K C "refuse_no_source" "Books.refuse_no_source" qI ["self","source"]) (m_sNoGoal:MDn K C "refuse_no_goal" "Books.refuse_no_goal" lY ["self","source","goal"]) (m_sThing:MDn K C "thing_of" "Books.thing_of" qG ["self","name"]) (m_sTot:MDn K C "total" "Books.total" sTot ["self","name"]) (m_sToPour:MDn K C "refuse_to_pour" "Books.refuse_to_pour" iB ["self","source","many"]) (m_sPour:MDn K C "pour" "Books.pour" xG ["self","source","goal","many"]) (m_sGive:MDn K C "give" "Books.give" xI ["self","source","name","many"]) (m_sGo:MDn K C "go" "Books.go" sGo ["self","day"]) (m_sDone:MDn K C "done" "Books.done" xJ ["self"]) (m_sHeld:MDn K C "held" "Books.held" rM ["self","name"]) (m_sLast:MDn K C "last" "Books.last" rL ["self","name"]) (m_sRows:MDn K C "rows_to" "Books.rows_to" rJ ["self","name"]) (m_sCalled:MDn K C "called" "Books.called" fN ["self","lot"]) (m_sNms:MDn K C "names" "Books.names" sNms ["self"]) (m_sToday:MDn K C "today" "Books.today" qF ["self"]):∃ C:Addr,ClsK K C:=
 ⟨C,mgC,cl,nE,nT,nD,nB,mk,kc,m_sInit,m_sBack,m_sHad,m_sNote,m_sTake,m_sOneOf,m_sNoSrc,m_sNoGoal,m_sThing,m_sTot,m_sToPour,m_sPour,m_sGive,m_sGo,m_sDone,m_sHeld,m_sLast,m_sRows,m_sCalled,m_sNms,m_sToday⟩
def mst_mk {K:Aa}{tk:Tok}{x:Str}{n:Int}(h:Ax K Aq x=some (some (.int n tk))):∃ tk:Tok,Ax K Aq x=some (some (.int n tk)):=⟨_,h⟩
def fgs_mk {K:Aa}{tk:Tok}{x y z:Str}(h:Ax K Aq z=some (some (.str x tk)))(e:x=y):∃ tk:Tok,Ax K Aq z=some (some (.str y tk)):=⟨_,e▸h⟩
structure ErLK (K:Aa)(cP cA cT cL:Addr):Prop where
 ex:PySem.W.excIn K cL bmV "ValueError.__new__" = true
 k:ExK K cL
 ct:CtK K cP
 s:PySem.W.subIn K (.ref cL) (.ref cP)=some true
 iA:BK K (.ref cL) (.ref cA)=some false
 iT:BK K (.ref cL) (.ref cT)=some false
 iL:BK K (.ref cL) (.ref cL)=some true
 iV:BK K (.ref cL) (.type "ValueError")=some true
 mP:Ax K Aq "PhialError" = some (some (.ref cP))
 mA:Ax K Aq "Lacks" = some (some (.ref cA))
 mT:Ax K Aq "NoThing" = some (some (.ref cT))
 mL:Ax K Aq "NoneLeft" = some (some (.ref cL))
def ErLK.er {K:Aa}{mg:Str->Option Value}{h:Heap}{cP cA cT cL:Addr}(E:ErLK K cP cA cT cL)(X:K.In h)(G:h.Ns Aq mg):ErL K mg cP cA cT cL:=⟨E.ex,E.k,E.ct,E.s,E.iA,E.iT,E.iL,E.iV,BL X G E.mP,BL X G E.mA,BL X G E.mT,BL X G E.mL⟩
def err_mk {K:Aa}{cP cA cT cL:Addr}(mP:Ax K Aq "PhialError" = some (some (.ref cP)))(mA:Ax K Aq "Lacks" = some (some (.ref cA)))(mT:Ax K Aq "NoThing" = some (some (.ref cT)))(mL:Ax K Aq "NoneLeft" = some (some (.ref cL)))(ex:PySem.W.excIn K cL bmV "ValueError.__new__" = true)(k:ExK K cL)(ct:CtK K cP)(s:PySem.W.subIn K (.ref cL) (.ref cP)=some true)(iA:BK K (.ref cL) (.ref cA)=some false)(iT:BK K (.ref cL) (.ref cT)=some false)(iL:BK K (.ref cL) (.ref cL)=some true)(iV:BK K (.ref cL) (.type "ValueError")=some true):∃ cP cA cT cL:Addr,ErLK K cP cA cT cL:=⟨_,_,_,_,ex,k,ct,s,iA,iT,iL,iV,mP,mA,mT,mL⟩
structure AllD (K:Aa):Prop where
 dCell:Dn K "_law_cell_at" sCell ["_law_script","_law_k"]
 dMixed:Dn K "_law_mixed" sMixed ["_law_cell","_law_k"]
 dNames:Dn K "_law_names" sNames ["_law_seed"]
 dNew:Dn K "_law_new" sNew ["_law_big"]
 dNoneLeft:Dn K "_law_none_left" sNoneLeft ["_law_books"]
 dFresh:Dn K "_law_fresh" sFresh ["_law_here","_law_name"]
 dLtot:Dn K "_law_total" sLtot ["_law_here","_law_name"]
 dGood:Dn K "_law_good" sGood ["_law_here","_law_names_here","_law_cell"]
 dWord:Dn K "_law_word_by" sWord ["_law_left"]
 dNameBy:Dn K "_law_name_by" sNameBy ["_law_known","_law_left"]
 dTold:Dn K "_law_told_deed" sTold ["_law_here","_law_cell"]
 dCan:Dn K "_law_can" sCan ["_law_here","_law_deed"]
 dNext:Dn K "_law_next" sNext ["_law_here","_law_names_here","_law_own","_law_cell","_law_by_digits"]
 dIsWare:Dn K "is_ware" sIsWare ["thing"]
 dRNoName:Dn K "refuse_no_name" sRNoName ["thing"]
 dIsWh:Dn K "is_whole_number" sIsWh ["thing"]
 dRNoSp:Dn K "refuse_no_spoons" sRNoSp ["many"]
 dRNoDay:Dn K "refuse_no_day" sRNoDay ["day"]
 dNewLot:Dn K "new_lot" sNewLot ["name","many","last_day"]
 dNewV:Dn K "new_vessel" sNewV ["word"]
 dGcd:Dn K "common_divisor" sGcd ["one","other"]
 dLow:Dn K "lowest_terms" sLow ["top","bottom"]
 dPlus:Dn K "plus" sPlus ["one","other"]
 dTotal:Dn K "total_of" sTotal ["holding"]
 dOver:Dn K "over" sOver ["one","other"]
 dTimes:Dn K "times" sTimes ["one","other"]
 dLess:Dn K "less" sLess ["one","other"]
 dMinus:Dn K "minus" sMinus ["one","other"]
 dShared:Dn K "shared" sShared ["holding","many"]
 dPut:Dn K "put_together" sPut ["one","other"]
 dWith:Dn K "with_holding" sWith ["thing","holding","ways"]
 dPoured:Dn K "poured" sPoured ["source","goal","many","number"]
 dDo:Dn K "_law_do" sDo ["_law_books","_law_deed"]
 dLpour:Dn K "_law_pour" sLpour ["_law_here","_law_source","_law_goal","_law_many"]
 dApply:Dn K "_law_apply" sApply ["_law_here","_law_deed"]
 dCopy:Dn K "_law_copy" sCopy ["_law_here"]
 dBacks:Dn K "_law_backs" sBacks ["_law_books","_law_deeds","_law_many"]
 dAgain:Dn K "_law_again" sAgain ["_law_deeds"]
 dSameOf:Dn K "_law_same_of" sSameOf ["_law_books","_law_other","_law_here","_law_name"]
 dSame:Dn K "_law_same" sSame ["_law_books","_law_other","_law_here","_law_cell"]
 z0:Ax K Aq "isinstance" = some none
 z1:Ax K Aq "int" = some none
 z2:Ax K Aq "bool" = some none
 z3:Ax K Aq "tuple" = some none
 z4:Ax K Aq "str" = some none
 z5:Ax K Aq "len" = some none
 z6:Ax K Aq "range" = some none
 z7:Ax K Aq "min" = some none
 z8:Ax K Aq "max" = some none
 z9:Ax K Aq "abs" = some none
 z10:Ax K Aq "list" = some none
 z11:Ax K Aq "all" = some none
 z12:Ax K Aq "sorted" = some none
 z13:Ax K Aq "sum" = some none
 z14:Ax K Aq "dict" = some none
 z15:Ax K Aq "zip" = some none
 z16:Ax K Aq "ValueError" = some none
 nou:∃ aN:Addr,NouK K aN
 cls:∃ C:Addr,ClsK K C
 mM:∃ t:Tok,Ax K Aq "MOST_LETTERS" = some (some (.int 8 t))
 mS:∃ t:Tok,Ax K Aq "MOST_SPOONS" = some (some (.int 1000000 t))
 mY:∃ t:Tok,Ax K Aq "LATEST_DAY" = some (some (.int 1000000 t))
 mL:∃ t:Tok,Ax K Aq "LETTERS" = some (some (.str LET t))
 err:∃ cP cA cT cL:Addr,ErLK K cP cA cT cL
def AllD.txt {K:Aa}{mg:Str->Option Value}{h:Heap}(A:AllD K)(X:K.In h)(G:h.Ns Aq mg):Txt mg:=⟨AS X G A.z0,AS X G A.z1,AS X G A.z2,AS X G A.z3,AS X G A.z4,AS X G A.z5,AS X G A.z6,AS X G A.z7,AS X G A.z8,AS X G A.z9,AS X G A.z10,AS X G A.z11,AS X G A.z12,AS X G A.z13,AS X G A.z14,AS X G A.z15,AS X G A.z16⟩
def aFd {P:AE}{w:World}{K:Aa}{mg:Str->Option Value}{base h:Heap}{f:Addr}{fd:Bj}(X:K.In h)(G:h.Ns Aq mg)(A:AllD K)(F:Fun K "law" "law" sLaw f fd):FnOk P w K mg base CX0 10 f fd ["_law_script"] (sZ K):=by
 have T:Txt mg:=A.txt X G;obtain ⟨aN,NK⟩:=A.nou;have mN:=BL X G NK.m;obtain ⟨C,CK⟩:=A.cls;have L:Cl K mg C:=⟨CK.cl,CK.nE,CK.nT,CK.nD,CK.nB⟩;obtain ⟨fI,fdI,hI,FI,bI⟩:=CK.m_sInit.ex;have GI:FnOk P w K mg base CX0 1 fI fdI ["self"] (qA C):=aCd FI L;obtain ⟨t0,h0⟩:=A.mM;have mM:=BL X G h0;obtain ⟨t1,h1⟩:=A.mS;have mS:=BL X G h1;obtain ⟨t2,h2⟩:=A.mY;have mY:=BL X G h2;obtain ⟨tl,hl⟩:=A.mL;have mL:=BL X G hl;obtain ⟨cP,cA,cT,cL,EK⟩:=A.err;have R:ErL K mg cP cA cT cL:=EK.er X G;have p_cell:Cal P w K mg base CX0 1 "_law_cell_at" ["_law_script","_law_k"] (tI K):=A.dCell.cal X G λF=>aCj F T;have p_mixed:Cal P w K mg base CX0 1 "_law_mixed" ["_law_cell","_law_k"] (oT):=A.dMixed.cal X G λF=>yG F;have p_names:Cal P w K mg base CX0 1 "_law_names" ["_law_seed"] (oS):=A.dNames.cal X G λF=>yF F T;have p_new:Cal P w K mg base CX0 1 "_law_new" ["_law_big"] (aA3):=A.dNew.cal X G λF=>aEx F;have q_backN:MCal P w K mg base (CXg P w) 1 C "back" ["self"] (oW C cL):=CK.m_sBack.cal λF=>yL F L R;have p_noneleft:Cal P w K mg base CX0 2 "_law_none_left" ["_law_books"] (fY C):=A.dNoneLeft.cal X G λF=>pC F T L R (q_backN.mono (by decide));have p_fresh:Cal P w K mg base CX0 1 "_law_fresh" ["_law_here","_law_name"] (lO):=A.dFresh.cal X G λF=>yJ F T;have p_ltot:Cal P w K mg base CX0 1 "_law_total" ["_law_here","_law_name"] (nI):=A.dLtot.cal X G λF=>aB9 F T;have p_good:Cal P w K mg base CX0 3 "_law_good" ["_law_here","_law_names_here","_law_cell"] (tF K):=A.dGood.cal X G λF=>aCf F T (p_fresh.mono (by decide)) (p_ltot.mono (by decide));have p_word:Cal P w K mg base CX0 1 "_law_word_by" ["_law_left"] (pW):=A.dWord.cal X G λF=>aBw F T;have p_nameby:Cal P w K mg base CX0 2 "_law_name_by" ["_law_known","_law_left"] (lM K):=A.dNameBy.cal X G λF=>uK F T (p_word.mono (by decide));have p_told:Cal P w K mg base CX0 3 "_law_told_deed" ["_law_here","_law_cell"] (sS):=A.dTold.cal X G λF=>aBy F T (p_word.mono (by decide)) (p_nameby.mono (by decide));have p_can:Cal P w K mg base CX0 2 "_law_can" ["_law_here","_law_deed"] (aA5):=A.dCan.cal X G λF=>aE2 F (p_fresh.mono (by decide)) (p_ltot.mono (by decide));have p_next:Cal P w K mg base CX0 4 "_law_next" ["_law_here","_law_names_here","_law_own","_law_cell","_law_by_digits"] (sX K):=A.dNext.cal X G λF=>aB7 F (p_good.mono (by decide)) (p_told.mono (by decide)) (p_can.mono (by decide));have p_isware:Cal P w K mg base CX0 1 "is_ware" ["thing"] (iZ K):=A.dIsWare.cal X G λF=>uL F T mM mL;have p_noname:Cal P w K mg base CX0 2 "refuse_no_name" ["thing"] (gR):=A.dRNoName.cal X G λF=>uH F (p_isware.mono (by decide));have p_iswh:Cal P w K mg base CX0 1 "is_whole_number" ["thing"] (spWh):=A.dIsWh.cal X G λF=>aCc F T;have p_nosp:Cal P w K mg base CX0 2 "refuse_no_spoons" ["many"] (nG):=A.dRNoSp.cal X G λF=>aB6 F mS (p_iswh.mono (by decide));have p_noday:Cal P w K mg base CX0 2 "refuse_no_day" ["day"] (lK):=A.dRNoDay.cal X G λF=>yE F mY (p_iswh.mono (by decide));have p_newlot:Cal P w K mg base CX0 1 "new_lot" ["name","many","last_day"] (lL):=A.dNewLot.cal X G λF=>uJ F;have q_had:MCal P w K mg base CX0 1 C "refuse_had" ["self","name"] (wW C):=CK.m_sHad.cal λF=>aE0 F L;have q_note:MCal P w K mg base CX0 1 C "note" ["self","deed","changed"] (kQ C):=CK.m_sNote.cal λF=>aB5 F T L;have q_take:MCal P w K mg base CX0 4 C "take" ["self","name","ware","many","last"] (sT C):=CK.m_sTake.cal λF=>aBz F L (p_noname.mono (by decide)) (p_nosp.mono (by decide)) (p_noday.mono (by decide)) (p_newlot.mono (by decide)) (q_had.mono (by decide)) (q_note.mono (by decide));have p_newv:Cal P w K mg base CX0 1 "new_vessel" ["word"] (pZ):=A.dNewV.cal X G λF=>aB8 F;have p_gcd:Cal P w K mg base CX0 1 "common_divisor" ["one","other"] (aA4):=A.dGcd.cal X G λF=>aE1 F;have p_low:Cal P w K mg base CX0 2 "lowest_terms" ["top","bottom"] (rG):=A.dLow.cal X G λF=>aEy F (p_gcd.mono (by decide));have p_plus:Cal P w K mg base CX0 3 "plus" ["one","other"] (pY K):=A.dPlus.cal X G λF=>aB3 F mN NK.s (p_low.mono (by decide));have p_total:Cal P w K mg base CX0 4 "total_of" ["holding"] (lE K):=A.dTotal.cal X G λF=>xY F mN NK.s (p_plus.mono (by decide));have p_over:Cal P w K mg base CX0 3 "over" ["one","other"] (sW K):=A.dOver.cal X G λF=>aB4 F mN NK.s (p_low.mono (by decide));have p_times:Cal P w K mg base CX0 3 "times" ["one","other"] (oR K):=A.dTimes.cal X G λF=>yA F (p_low.mono (by decide));have p_less:Cal P w K mg base CX0 1 "less" ["one","other"] (sY K):=A.dLess.cal X G λF=>aCa F;have p_minus:Cal P w K mg base CX0 3 "minus" ["one","other"] (oU K):=A.dMinus.cal X G λF=>yH F (p_less.mono (by decide)) (p_low.mono (by decide));have p_shared:Cal P w K mg base CX0 5 "shared" ["holding","many"] (lF K):=A.dShared.cal X G λF=>uE F mN NK.s (p_total.mono (by decide)) (p_over.mono (by decide)) (p_times.mono (by decide)) (p_minus.mono (by decide));have p_put:Cal P w K mg base CX0 4 "put_together" ["one","other"] (aA1):=A.dPut.cal X G λF=>aEv F T mN NK.s (p_plus.mono (by decide));have p_with:Cal P w K mg base CX0 1 "with_holding" ["thing","holding","ways"] (sQ):=A.dWith.cal X G λF=>aBx F;have p_poured:Cal P w K mg base CX0 6 "poured" ["source","goal","many","number"] (iY):=A.dPoured.cal X G λF=>uG F T (p_shared.mono (by decide)) (p_put.mono (by decide)) (p_with.mono (by decide));have q_oneof:MCal P w K mg base CX0 2 C "is_one_of" ["self","name","words"] (hV C K):=CK.m_sOneOf.cal λF=>yC F L (p_isware.mono (by decide));have q_nosrc:MCal P w K mg base CX0 3 C "refuse_no_source" ["self","source"] (lI C):=CK.m_sNoSrc.cal λF=>yD F L (q_oneof.mono (by decide));have q_nogoal:MCal P w K mg base CX0 3 C "refuse_no_goal" ["self","source","goal"] (lJ C):=CK.m_sNoGoal.cal λF=>uI F L (p_noname.mono (by decide)) (q_oneof.mono (by decide));have q_thing:MCal P w K mg base CX0 3 C "thing_of" ["self","name"] (hU C):=CK.m_sThing.cal λF=>yB F L (q_oneof.mono (by decide));have q_tot:MCal P w K mg base CX0 5 C "total" ["self","name"] (wV C):=CK.m_sTot.cal λF=>aEu F L (q_thing.mono (by decide)) (p_total.mono (by decide));have q_topour:MCal P w K mg base CX0 6 C "refuse_to_pour" ["self","source","many"] (iX C):=CK.m_sToPour.cal λF=>uD F T L (q_tot.mono (by decide));have q_pour:MCal P w K mg base CX0 7 C "pour" ["self","source","goal","many"] (sV C):=CK.m_sPour.cal λF=>aB2 F T L (p_nosp.mono (by decide)) (p_newv.mono (by decide)) (p_poured.mono (by decide)) (q_nosrc.mono (by decide)) (q_nogoal.mono (by decide)) (q_topour.mono (by decide)) (q_note.mono (by decide));have q_give:MCal P w K mg base CX0 7 C "give" ["self","source","name","many"] (tG C):=CK.m_sGive.cal λF=>aCg F T L (p_nosp.mono (by decide)) (p_newv.mono (by decide)) (p_poured.mono (by decide)) (q_nosrc.mono (by decide)) (p_noname.mono (by decide)) (q_had.mono (by decide)) (q_topour.mono (by decide)) (q_note.mono (by decide));have q_go:MCal P w K mg base CX0 4 C "go" ["self","day"] (spGo C):=CK.m_sGo.cal λF=>aGk F L (p_noday.mono (by decide)) (q_note.mono (by decide));have p_do:Cal P w K mg base CX0 8 "_law_do" ["_law_books","_law_deed"] (spDo C K):=A.dDo.cal X G λF=>aGl F L (q_take.mono (by decide)) (q_pour.mono (by decide)) (q_give.mono (by decide)) (q_go.mono (by decide));have p_lpour:Cal P w K mg base CX0 2 "_law_pour" ["_law_here","_law_source","_law_goal","_law_many"] (lN):=A.dLpour.cal X G λF=>yI F T (p_ltot.mono (by decide));have p_apply:Cal P w K mg base CX0 3 "_law_apply" ["_law_here","_law_deed"] (oX):=A.dApply.cal X G λF=>yM F T (p_lpour.mono (by decide));have p_copy:Cal P w K mg base CX0 1 "_law_copy" ["_law_here"] (tH):=A.dCopy.cal X G λF=>aCi F T;have q_back:MCal P w K mg base CX0 1 C "back" ["self"] (tJ C):=CK.m_sBack.cal λF=>aCk F L;have q_done:MCal P w K mg base CX0 1 C "done" ["self"] (qB C):=CK.m_sDone.cal λF=>aCh F T L;have p_backs:Cal P w K mg base CX0 3 "_law_backs" ["_law_books","_law_deeds","_law_many"] (oV C):=A.dBacks.cal X G λF=>yK F T L (p_noneleft.mono (by decide)) (q_back.mono (by decide)) (q_done.mono (by decide));have p_again:Cal P w K mg base CX0 9 "_law_again" ["_law_deeds"] (lQ C K):=A.dAgain.cal X G λF=>yN F L (BL X G CK.mgC) ⟨CK.mks,hI.at_,hI.fn,CK.kc⟩ (GI.mono (by decide)) bI (p_do.mono (by decide));have q_held:MCal P w K mg base CX0 4 C "held" ["self","name"] (tE C):=CK.m_sHeld.cal λF=>aCe F T L (q_thing.mono (by decide));have q_last:MCal P w K mg base CX0 4 C "last" ["self","name"] (tD C):=CK.m_sLast.cal λF=>aCb F T L (q_thing.mono (by decide));have q_rows:MCal P w K mg base CX0 4 C "rows_to" ["self","name"] (sU C):=CK.m_sRows.cal λF=>aB1 F T L (q_thing.mono (by decide));have q_called:MCal P w K mg base CX0 4 C "called" ["self","lot"] (lP C):=CK.m_sCalled.cal λF=>uM F T L (q_oneof.mono (by decide));have p_sameof:Cal P w K mg base CX0 6 "_law_same_of" ["_law_books","_law_other","_law_here","_law_name"] (lH C):=A.dSameOf.cal X G λF=>uF F T L (q_held.mono (by decide)) (q_last.mono (by decide)) (q_rows.mono (by decide)) (q_called.mono (by decide)) (q_tot.mono (by decide));have q_nms:MCal P w K mg base CX0 1 C "names" ["self"] (aA2 C):=CK.m_sNms.cal λF=>aEw F T L;have q_today:MCal P w K mg base CX0 1 C "today" ["self"] (oQ C):=CK.m_sToday.cal λF=>xZ F L;have p_same:Cal P w K mg base CX0 7 "_law_same" ["_law_books","_law_other","_law_here","_law_cell"] (pX C K):=A.dSame.cal X G λF=>aB0 F T L (p_sameof.mono (by decide)) (q_nms.mono (by decide)) (q_done.mono (by decide)) (q_today.mono (by decide));exact aEz F T L (BL X G CK.mgC) ⟨CK.mks,hI.at_,hI.fn,CK.kc⟩ (GI.mono (by decide)) bI (p_cell.mono (by decide)) (p_mixed.mono (by decide)) (p_names.mono (by decide)) (p_new.mono (by decide)) (p_noneleft.mono (by decide)) (p_next.mono (by decide)) (p_do.mono (by decide)) (p_apply.mono (by decide)) (p_copy.mono (by decide)) (p_backs.mono (by decide)) (p_again.mono (by decide)) (p_same.mono (by decide))
def all_mk {l:PySem.W.OpenLaw}{w:World}{K:Aa}{h:Heap}{mg:Str->Option Value}{fa f4:Addr}(X:K.In h)(G:h.Ns Aq mg)(hfa:mg "law" = some (.ref fa))(A:AllD K)
  {od4 an4:Option Addr} {sl4:Array (Option Value)} {oc4 kV4 dc4 pm4 cd4 ct4:Value}
  (a4:Ax K Aq "law" = some (some (.ref f4))) (l4:K.lookup f4=some ⟨oc4,od4,.func (Ce "law" "law" (eS sLaw) (dZ sLaw) (aG sLaw) .none kV4 dc4 pm4 an4 cd4 ct4),sl4⟩) (c4:Dy K cd4 "law" = true) (k4:BR K (.ref f4)=true) :
  ∃ fd:Bj,(∀ (s:Shared) (v:Value),BindsTo s fd ⟨[v],[]⟩ [("_law_script",v)])/\∀ base:Heap,K.In base->base.Ns Aq mg->FnOk l.prog w K mg base CX0 10 fa fd ["_law_script"] (sZ K):=by
 have e:=hfa.symm.trans (BL X G a4);cases e;exact ⟨Ce "law" "law" (eS sLaw) (dZ sLaw) (aG sLaw) .none kV4 dc4 pm4 an4 cd4 ct4,λs v=>.of_eq rfl,λbase _ _=>aFd X G A (nY (st:=sLaw) l4 c4 k4)⟩
def walk {l:PySem.W.OpenLaw}{q:AE}{loose:List Str}{XP:(Str->Option Value)->Heap->Prop}{YP:World->Heap->Prop}{d:DefRec}{K:Params->Aa}(hn:l.most=some 63)(hdf:d.params.defaults=[])
  (hY:∀ (w:World) (h:Heap),YP w h->(K w.params).In h)
  (F:∀ (w:World) (mg:Str->Option Value) (fa:Addr) (h:Heap),(K w.params).In h->h.Ns Aq mg->mg d.name=some (.ref fa) ->
   ∃ fd:Bj,(∀ (s:Shared) (u:Value),BindsTo s fd ⟨[u],[]⟩ [("_law_script",u)])/\∀ base:Heap,(K w.params).In base->base.Ns Aq mg->FnOk l.prog w (K w.params) mg base CX0 10 fa fd ["_law_script"] (sZ (K w.params))) :
  PySem.W.WalkO q loose XP YP l.row.toRowW d [] (λf vs=>PySem.call f vs):=
 L2.walk_of (n:=63) (k:=10) (x:="_law_script") (CX:=λ_=>CX0) (sp:=λw=>sZ (K w.params)) hn (by decide) hdf ⟨rfl,by decide,by decide,rfl⟩ hY F (λ_ _ a ns hl _ hS=>⟨a,ns,rfl,hS,hl,λ_=>rfl⟩) λ_ _ _ _ _ z=>z
end K77
namespace PySem.W.Fast
theorem tw4624194351975392335:0=0:=rfl
theorem tw10807743122473679997:0=0:=rfl
theorem tw8854092672805973185:0=0:=rfl
theorem tw11816813393087199310:0=0:=rfl
theorem tw10265009015362043864:0=0:=rfl
theorem tw12098162540846051707:0=0:=rfl
theorem tw11971401061081677410:0=0:=rfl
theorem tw5144895311664075598:0=0:=rfl
theorem tw17694930525847099429:0=0:=rfl
theorem tw556520451194938479:0=0:=rfl
theorem tw18292980439399552065:0=0:=rfl
theorem tw8991983731672045492:0=0:=rfl
theorem tw17490460511696982388:0=0:=rfl
theorem tw7071750849039620029:0=0:=rfl
theorem tw14695523227135379016:0=0:=rfl
theorem tw3890627086333923698:0=0:=rfl
theorem tw12564933398072885490:0=0:=rfl
theorem tw10601775372458876771:0=0:=rfl
theorem tw1934014597062546681:0=0:=rfl
theorem tw8296153408127215347:0=0:=rfl
theorem tw10553283145962695181:0=0:=rfl
theorem tw206361262523732381:0=0:=rfl
theorem tw726943810918428175:0=0:=rfl
theorem tw1568514115267000886:0=0:=rfl
theorem tw12201043786223923396:0=0:=rfl
theorem tw11159652602183962184:0=0:=rfl
theorem tw3639436845309602993:0=0:=rfl
theorem tw3969101754588958981:0=0:=rfl
theorem tw18164187614937732896:0=0:=rfl
theorem tw16951084218817007488:0=0:=rfl
theorem tw12526710685589952210:0=0:=rfl
theorem tw5084987655203201128:0=0:=rfl
theorem tw3980013397954462999:0=0:=rfl
theorem tw16982906608266597908:0=0:=rfl
theorem tw13340621416573391597:0=0:=rfl
theorem tw8094275663685750450:0=0:=rfl
theorem tw1972428834582279849:0=0:=rfl
theorem tw1331855141535731691:0=0:=rfl
theorem tw4181012225835676802:0=0:=rfl
theorem tw4008191183025819613:0=0:=rfl
theorem tw17048450042383244002:0=0:=rfl
theorem tw14512132115771111414:0=0:=rfl
theorem tw6929095795947629857:0=0:=rfl
theorem tw15743635641960608129:0=0:=rfl
theorem tw14336974992759202445:0=0:=rfl
theorem tw8721701298348015862:0=0:=rfl
theorem tw11518302150321591352:0=0:=rfl
theorem tw12279191560065703549:0=0:=rfl
theorem tw1119023770455174664:0=0:=rfl
theorem tw5714111147836841694:0=0:=rfl
theorem tw12708533699618178356:0=0:=rfl
theorem tw8468247439999083064:0=0:=rfl
theorem tw7555286603702935041:0=0:=rfl
theorem tw3105529581464836144:0=0:=rfl
theorem tw8961847126851050766:0=0:=rfl
theorem tw8884518318561217279:0=0:=rfl
theorem tw4586178313756423341:0=0:=rfl
theorem tw5838375789313950722:0=0:=rfl
theorem tw445690570225372260:0=0:=rfl
theorem tw6190165654144018115:0=0:=rfl
theorem tw10417156847626039927:0=0:=rfl
theorem tw10443941892607964569:0=0:=rfl
theorem tw15001829300689300096:0=0:=rfl
theorem tw1605829007937116119:0=0:=rfl
theorem tw9321213747223039499:0=0:=rfl
theorem tw14953888104579599035:0=0:=rfl
theorem tw5469328597867677517:0=0:=rfl
theorem tw11555262189136034529:0=0:=rfl
theorem tw11444847003071039824:0=0:=rfl
theorem tw10393662848413073966:0=0:=rfl
theorem tw965547082616755432:0=0:=rfl
theorem tw14129469122938567618:0=0:=rfl
theorem tw10011405913921661110:0=0:=rfl
theorem tw14193964349443800065:0=0:=rfl
theorem tw1448911456414388217:0=0:=rfl
theorem tw3215718956811699012:0=0:=rfl
theorem tw11754024723415870633:0=0:=rfl
theorem tw6794345440704885346:0=0:=rfl
theorem tw12990016471857102109:0=0:=rfl
theorem tw5666543356098576737:0=0:=rfl
theorem tw8481644727162420634:0=0:=rfl
theorem tw4419167424058797771:0=0:=rfl
theorem tw3707655617374836401:0=0:=rfl
theorem tw6210165113395396244:0=0:=rfl
theorem tw14249118351030482661:0=0:=rfl
theorem tw13713250057193756511:0=0:=rfl
theorem tw16676074287355100519:0=0:=rfl
theorem tw10750085988452171080:0=0:=rfl
theorem tw15382983079688263110:0=0:=rfl
theorem tw12442818771454527021:0=0:=rfl
theorem tw2654459867696752093:0=0:=rfl
theorem tw1166742548398172220:0=0:=rfl
theorem tw3406554615152019034:0=0:=rfl
theorem tw7267886660529786049:0=0:=rfl
theorem tw1399174154493274344:0=0:=rfl
theorem tw4658210321543053809:0=0:=rfl
theorem tw15829588420044023941:0=0:=rfl
theorem tw14496899037031017877:0=0:=rfl
theorem tw12965636010872369225:0=0:=rfl
theorem tw9624451648903687933:0=0:=rfl
theorem tw4196261696052747460:0=0:=rfl
theorem tw6959611514720423288:0=0:=rfl
theorem tw8391394826449552941:0=0:=rfl
theorem tw6362427319114868262:0=0:=rfl
theorem tw16898415569045319331:0=0:=rfl
theorem tw16151555576735949950:0=0:=rfl
theorem tw6619548968688741240:0=0:=rfl
theorem tw8623299095435756904:0=0:=rfl
theorem tw1158766551935803418:0=0:=rfl
theorem tw4238286310667249599:0=0:=rfl
theorem tw2874883790812943953:0=0:=rfl
theorem tw9335875315751934884:0=0:=rfl
theorem tw16951114236352346133:0=0:=rfl
theorem tw13849745947247922935:0=0:=rfl
theorem tw1498470553204672272:0=0:=rfl
theorem tw2797739737202508176:0=0:=rfl
theorem tw16141513413518380797:0=0:=rfl
theorem tw15882464992129522563:0=0:=rfl
theorem tw13767514832152106252:0=0:=rfl
theorem tw3786711346110321938:0=0:=rfl
theorem tw10744456622923892808:0=0:=rfl
theorem tw1964993778210536846:0=0:=rfl
theorem tw12989174042270024803:0=0:=rfl
theorem tw14165658514318738792:0=0:=rfl
theorem tw14696510495268467005:0=0:=rfl
theorem tw14410068020028118176:0=0:=rfl
theorem tw11443008141030691583:0=0:=rfl
theorem tw4650788279374489367:0=0:=rfl
theorem tw3095405367331179590:0=0:=rfl
theorem tw10800682738447117782:0=0:=rfl
theorem tw17623245103411305190:0=0:=rfl
theorem tw6445855865892915415:0=0:=rfl
theorem tw18372006189860228513:0=0:=rfl
theorem tw857372316224758503:0=0:=rfl
theorem tw12088037252888852620:0=0:=rfl
theorem tw13626788673432918638:0=0:=rfl
theorem tw5463408480943286676:0=0:=rfl
theorem tw15671537576784205018:0=0:=rfl
theorem tw758369308664794824:0=0:=rfl
theorem tw16347562003958666216:0=0:=rfl
theorem tw10616665658982989176:0=0:=rfl
theorem tw4812407723784608798:0=0:=rfl
theorem tw2692549408239071077:0=0:=rfl
theorem tw12705401367742186129:0=0:=rfl
theorem tw8618423390348261871:0=0:=rfl
theorem tw5151603967987761467:0=0:=rfl
theorem tw12174578233359554123:0=0:=rfl
theorem tw7708635756353523270:0=0:=rfl
theorem tw12821046964363995461:0=0:=rfl
theorem tw17092086490013956805:0=0:=rfl
theorem tw1958845172429620844:0=0:=rfl
theorem tw5825372244999020950:0=0:=rfl
theorem tw15204787144449351622:0=0:=rfl
theorem tw17766839398699247553:0=0:=rfl
theorem tw6584146126982427389:0=0:=rfl
theorem tw10470526533803935755:0=0:=rfl
theorem tw11949614663846837913:0=0:=rfl
theorem tw13833945253924882271:0=0:=rfl
theorem tw9759672734778952726:0=0:=rfl
theorem tw9978220107821783653:0=0:=rfl
theorem tw7600458679083786401:0=0:=rfl
theorem tw14779213465600090696:0=0:=rfl
theorem tw16351203255027004223:0=0:=rfl
theorem tw10248067682972862024:0=0:=rfl
theorem tw12850722938771502091:0=0:=rfl
theorem tw13672277744024979330:0=0:=rfl
theorem tw10401574259864401692:0=0:=rfl
theorem tw4125285929935184025:0=0:=rfl
theorem tw7708781414988064662:0=0:=rfl
theorem tw17989778719017986693:0=0:=rfl
theorem tw6353299756641711028:0=0:=rfl
theorem tw8175801766607655841:0=0:=rfl
theorem tw8430674202807945537:0=0:=rfl
theorem tw7251785259605809638:0=0:=rfl
theorem tw4728476867112719236:0=0:=rfl
theorem tw12985538935008389768:0=0:=rfl
theorem tw11827054100758176809:0=0:=rfl
theorem tw14976719214499639944:0=0:=rfl
theorem tw13477907412691047978:0=0:=rfl
theorem tw8271942305768447515:0=0:=rfl
theorem tw3724087747856427942:0=0:=rfl
theorem tw8411286886877649909:0=0:=rfl
theorem tw1497427170890010750:0=0:=rfl
theorem tw13218043545119001865:0=0:=rfl
theorem tw17898731935181363223:0=0:=rfl
theorem tw14435730417244267548:0=0:=rfl
theorem tw3619064863084083949:0=0:=rfl
theorem tw5804645498155840849:0=0:=rfl
theorem tw2009364812925347662:0=0:=rfl
theorem tw3280713722350689227:0=0:=rfl
theorem tw16225911288990009312:0=0:=rfl
theorem tw10390921133640986722:0=0:=rfl
theorem tw6405405608306394916:0=0:=rfl
theorem tw17915315652692238560:0=0:=rfl
theorem tw9753324005634424310:0=0:=rfl
theorem tw7238890619874766333:0=0:=rfl
theorem tw11221053623712664630:0=0:=rfl
theorem tw16720752102469472240:0=0:=rfl
theorem tw6810038963652158510:0=0:=rfl
theorem tw869902428933534413:0=0:=rfl
theorem tw3742775375133120948:0=0:=rfl
theorem tw2857206714933735103:0=0:=rfl
theorem tw6113962640834209895:0=0:=rfl
theorem tw11744896216551186827:0=0:=rfl
theorem tw2591426123912105967:0=0:=rfl
theorem tw6721359803769339821:0=0:=rfl
theorem tw3423377516105532511:0=0:=rfl
theorem tw13016674186918021831:0=0:=rfl
theorem tw18126688226049431537:0=0:=rfl
theorem tw4976370550416758890:0=0:=rfl
theorem tw526305945640048054:0=0:=rfl
theorem tw9936696642034162489:0=0:=rfl
theorem tw11345030345646896572:0=0:=rfl
theorem tw13893258860215341161:0=0:=rfl
theorem tw6801873940670853946:0=0:=rfl
theorem tw12577806451787754390:0=0:=rfl
theorem tw12739441597895872065:0=0:=rfl
theorem tw481660149282998934:0=0:=rfl
theorem tw5929657572955845365:0=0:=rfl
theorem tw3011523526283744879:0=0:=rfl
theorem tw9724988306097341338:0=0:=rfl
theorem tw18101221921081691047:0=0:=rfl
theorem tw822384928866655763:0=0:=rfl
theorem tw7698047684457526801:0=0:=rfl
theorem tw7153586623843101160:0=0:=rfl
theorem tw5884258946975528356:0=0:=rfl
theorem tw12081399576276042777:0=0:=rfl
theorem tw7961886708709137172:0=0:=rfl
theorem tw5721633473734090532:0=0:=rfl
theorem tw17228589544524695905:0=0:=rfl
theorem tw1830038231736473833:0=0:=rfl
theorem tw4972369940034048891:0=0:=rfl
theorem tw17043464533043360339:0=0:=rfl
theorem tw2788594727793695983:0=0:=rfl
theorem tw4097732884036076827:0=0:=rfl
theorem tw2620299616035656824:0=0:=rfl
theorem tw1577761820345390732:0=0:=rfl
theorem tw1780188104081659393:0=0:=rfl
theorem tw18263528643021898396:0=0:=rfl
theorem tw3011128521075399805:0=0:=rfl
theorem tw13809665839662423256:0=0:=rfl
theorem tw8517725809433300640:0=0:=rfl
theorem tw8459216234164101597:0=0:=rfl
theorem tw13337790422434397656:0=0:=rfl
theorem tw14815258184428029291:0=0:=rfl
theorem tw7444571012730697652:0=0:=rfl
theorem tw6614184340087749279:0=0:=rfl
theorem tw6374587788350481531:0=0:=rfl
theorem tw1718974397381395517:0=0:=rfl
theorem tw3062422296886631838:0=0:=rfl
theorem tw1056504565602368016:0=0:=rfl
theorem tw1933790669444637283:0=0:=rfl
theorem tw12493116102155026475:0=0:=rfl
theorem tw14612213655766311739:0=0:=rfl
theorem tw5005641992152533748:0=0:=rfl
theorem tw7084659505496802264:0=0:=rfl
theorem tw10250074049599924768:0=0:=rfl
theorem tw7717900823877572211:0=0:=rfl
theorem tw15451456744164369847:0=0:=rfl
theorem tw15017399830036985623:0=0:=rfl
theorem tw3507503759525315017:0=0:=rfl
theorem tw14232072859928797149:0=0:=rfl
theorem tw14572796333577030441:0=0:=rfl
theorem tw10948535787496156157:0=0:=rfl
theorem tw9711704270675241062:0=0:=rfl
theorem tw8413931307705312433:0=0:=rfl
theorem tw16993307870659652832:0=0:=rfl
theorem tw17308690352241836559:0=0:=rfl
theorem tw18265034690992339946:0=0:=rfl
theorem tw2452065089165697434:0=0:=rfl
theorem tw15031257760858255835:0=0:=rfl
theorem tw2498359528943492125:0=0:=rfl
theorem tw4967928797246684789:0=0:=rfl
theorem tw16038958066952766553:0=0:=rfl
theorem tw8860683485903843766:0=0:=rfl
theorem tw4835665779257433600:0=0:=rfl
theorem tw3446916690167228900:0=0:=rfl
theorem tw10087747384211116944:0=0:=rfl
theorem tw4360761439105258102:0=0:=rfl
theorem tw14252355893944060868:0=0:=rfl
theorem tw5404483965558148954:0=0:=rfl
theorem tw16158128714020620051:0=0:=rfl
theorem tw7387025234797613359:0=0:=rfl
theorem tw6205816041652726942:0=0:=rfl
theorem tw6281679049990504140:0=0:=rfl
theorem tw11199425241088914318:0=0:=rfl
theorem tw13275346618507349270:0=0:=rfl
theorem tw11771890221711460909:0=0:=rfl
theorem tw10830470856470299930:0=0:=rfl
theorem tw7451315304369623114:0=0:=rfl
theorem tw14012140225543519683:0=0:=rfl
theorem tw9721908793208747489:0=0:=rfl
theorem tw18031076855719379544:0=0:=rfl
theorem tw13974207526055248612:0=0:=rfl
theorem tw9575038138116876412:0=0:=rfl
theorem tw2479076140874720077:0=0:=rfl
theorem tw14278322494379007129:0=0:=rfl
theorem tw415253487859328676:0=0:=rfl
theorem tw1294562137315511583:0=0:=rfl
theorem tw14859338975743432616:0=0:=rfl
theorem tw7248825213307879903:0=0:=rfl
theorem tw13867138244698738999:0=0:=rfl
theorem tw6305502320726834058:0=0:=rfl
theorem tw13472331055620221603:0=0:=rfl
theorem tw7849136680466002114:0=0:=rfl
theorem tw16700755207529594644:0=0:=rfl
theorem tw14629725740340788850:0=0:=rfl
theorem tw1305060942784930884:0=0:=rfl
theorem tw5854450882531829729:0=0:=rfl
theorem tw16894308530897826152:0=0:=rfl
end PySem.W.Fast
open PySem PySem.W PyProof.Rows
set_option maxRecDepth 100000 in
set_option maxHeartbeats 0 in
theorem PySem.Challenge.cw_phialhouse_k77_taken_back_holds : PySem.Challenge.rw_phialhouse_k77_taken_back.Holds := by
 w_on;o_law;k_head;(case hw=>w_witness2)
 k_fill
 refine K77.walk (l:=PySem.Challenge.rw_phialhouse_k77_taken_back) rfl rfl (λw h Y=>PySem.W.kIn_of Y) ?F
 case F=>
  intro w mg fa h KX G hmg
  obtain ⟨dCell,dMixed,dNames,dNew,dNoneLeft,dFresh,dLtot,dGood,dWord,dNameBy,dTold,dCan,dNext,dIsWare,dRNoName,dIsWh,dRNoSp,dRNoDay,dNewLot,dNewV,dGcd,dLow,dPlus,dTotal,dOver,dTimes,dLess,dMinus,dShared,dPut,dWith,dPoured,dDo,dLpour,dApply,dCopy,dBacks,dAgain,dSameOf,dSame⟩:K77.Dn (L2.KOf KX) "_law_cell_at" K77.sCell ["_law_script","_law_k"]/\K77.Dn (L2.KOf KX) "_law_mixed" K77.sMixed ["_law_cell","_law_k"]/\K77.Dn (L2.KOf KX) "_law_names" K77.sNames ["_law_seed"]/\K77.Dn (L2.KOf KX) "_law_new" K77.sNew ["_law_big"]/\K77.Dn (L2.KOf KX) "_law_none_left" K77.sNoneLeft ["_law_books"]/\K77.Dn (L2.KOf KX) "_law_fresh" K77.sFresh ["_law_here","_law_name"]/\K77.Dn (L2.KOf KX) "_law_total" K77.sLtot ["_law_here","_law_name"]/\K77.Dn (L2.KOf KX) "_law_good" K77.sGood ["_law_here","_law_names_here","_law_cell"]/\K77.Dn (L2.KOf KX) "_law_word_by" K77.sWord ["_law_left"]/\K77.Dn (L2.KOf KX) "_law_name_by" K77.sNameBy ["_law_known","_law_left"]/\K77.Dn (L2.KOf KX) "_law_told_deed" K77.sTold ["_law_here","_law_cell"]/\K77.Dn (L2.KOf KX) "_law_can" K77.sCan ["_law_here","_law_deed"]/\K77.Dn (L2.KOf KX) "_law_next" K77.sNext ["_law_here","_law_names_here","_law_own","_law_cell","_law_by_digits"]/\K77.Dn (L2.KOf KX) "is_ware" K77.sIsWare ["thing"]/\K77.Dn (L2.KOf KX) "refuse_no_name" K77.sRNoName ["thing"]/\K77.Dn (L2.KOf KX) "is_whole_number" K77.sIsWh ["thing"]/\K77.Dn (L2.KOf KX) "refuse_no_spoons" K77.sRNoSp ["many"]/\K77.Dn (L2.KOf KX) "refuse_no_day" K77.sRNoDay ["day"]/\K77.Dn (L2.KOf KX) "new_lot" K77.sNewLot ["name","many","last_day"]/\K77.Dn (L2.KOf KX) "new_vessel" K77.sNewV ["word"]/\K77.Dn (L2.KOf KX) "common_divisor" K77.sGcd ["one","other"]/\K77.Dn (L2.KOf KX) "lowest_terms" K77.sLow ["top","bottom"]/\K77.Dn (L2.KOf KX) "plus" K77.sPlus ["one","other"]/\K77.Dn (L2.KOf KX) "total_of" K77.sTotal ["holding"]/\K77.Dn (L2.KOf KX) "over" K77.sOver ["one","other"]/\K77.Dn (L2.KOf KX) "times" K77.sTimes ["one","other"]/\K77.Dn (L2.KOf KX) "less" K77.sLess ["one","other"]/\K77.Dn (L2.KOf KX) "minus" K77.sMinus ["one","other"]/\K77.Dn (L2.KOf KX) "shared" K77.sShared ["holding","many"]/\K77.Dn (L2.KOf KX) "put_together" K77.sPut ["one","other"]/\K77.Dn (L2.KOf KX) "with_holding" K77.sWith ["thing","holding","ways"]/\K77.Dn (L2.KOf KX) "poured" K77.sPoured ["source","goal","many","number"]/\K77.Dn (L2.KOf KX) "_law_do" K77.sDo ["_law_books","_law_deed"]/\K77.Dn (L2.KOf KX) "_law_pour" K77.sLpour ["_law_here","_law_source","_law_goal","_law_many"]/\K77.Dn (L2.KOf KX) "_law_apply" K77.sApply ["_law_here","_law_deed"]/\K77.Dn (L2.KOf KX) "_law_copy" K77.sCopy ["_law_here"]/\K77.Dn (L2.KOf KX) "_law_backs" K77.sBacks ["_law_books","_law_deeds","_law_many"]/\K77.Dn (L2.KOf KX) "_law_again" K77.sAgain ["_law_deeds"]/\K77.Dn (L2.KOf KX) "_law_same_of" K77.sSameOf ["_law_books","_law_other","_law_here","_law_name"]/\K77.Dn (L2.KOf KX) "_law_same" K77.sSame ["_law_books","_law_other","_law_here","_law_cell"]:=by
   refine ⟨?_,?_,?_,?_,?_,?_,?_,?_,?_,?_,?_,?_,?_,?_,?_,?_,?_,?_,?_,?_,?_,?_,?_,?_,?_,?_,?_,?_,?_,?_,?_,?_,?_,?_,?_,?_,?_,?_,?_,?_⟩<;>(dsimp only [L2.KOf];refine' K77.Dn.mk' ?a ?l ?c ?k ?b;(case a=>k_is);(case l=>k_is);(case c=>k_is);(case k=>k_is);(case b=>first|exact λ_ _ _ _ _ _=>K77.bA2 λ_ _=>rfl|exact λ_ _ _ _ _ _=>K77.bA1 λ_=>rfl|exact λ_ _ _ _ _ _=>K77.bA3 λ_ _ _=>rfl|exact λ_ _ _ _ _ _=>K77.bA5 λ_ _ _ _ _=>rfl|exact λ_ _ _ _ _ _=>K77.bA4 λ_ _ _ _=>rfl))
  have z0:Ax (L2.KOf KX) Aq "isinstance" = some none:=by
   dsimp only [L2.KOf]
   k_is
  have z1:Ax (L2.KOf KX) Aq "int" = some none:=by
   dsimp only [L2.KOf]
   k_is
  have z2:Ax (L2.KOf KX) Aq "bool" = some none:=by
   dsimp only [L2.KOf]
   k_is
  have z3:Ax (L2.KOf KX) Aq "tuple" = some none:=by
   dsimp only [L2.KOf]
   k_is
  have z4:Ax (L2.KOf KX) Aq "str" = some none:=by
   dsimp only [L2.KOf]
   k_is
  have z5:Ax (L2.KOf KX) Aq "len" = some none:=by
   dsimp only [L2.KOf]
   k_is
  have z6:Ax (L2.KOf KX) Aq "range" = some none:=by
   dsimp only [L2.KOf]
   k_is
  have z7:Ax (L2.KOf KX) Aq "min" = some none:=by
   dsimp only [L2.KOf]
   k_is
  have z8:Ax (L2.KOf KX) Aq "max" = some none:=by
   dsimp only [L2.KOf]
   k_is
  have z9:Ax (L2.KOf KX) Aq "abs" = some none:=by
   dsimp only [L2.KOf]
   k_is
  have z10:Ax (L2.KOf KX) Aq "list" = some none:=by
   dsimp only [L2.KOf]
   k_is
  have z11:Ax (L2.KOf KX) Aq "all" = some none:=by
   dsimp only [L2.KOf]
   k_is
  have z12:Ax (L2.KOf KX) Aq "sorted" = some none:=by
   dsimp only [L2.KOf]
   k_is
  have z13:Ax (L2.KOf KX) Aq "sum" = some none:=by
   dsimp only [L2.KOf]
   k_is
  have z14:Ax (L2.KOf KX) Aq "dict" = some none:=by
   dsimp only [L2.KOf]
   k_is
  have z15:Ax (L2.KOf KX) Aq "zip" = some none:=by
   dsimp only [L2.KOf]
   k_is
  have z16:Ax (L2.KOf KX) Aq "ValueError" = some none:=by
   dsimp only [L2.KOf]
   k_is
  have nou:∃ aN:Addr,K77.NouK (L2.KOf KX) aN:=by
   dsimp only [L2.KOf]
   refine' K77.NouK.mk' ?a ?l
   (case a=>k_is);(case l=>k_is)
  have cls:∃ C:Addr,K77.ClsK (L2.KOf KX) C:=by
   dsimp only [L2.KOf]
   refine' K77.cls_mk ?mgC ⟨?pg,?hd,?po,?sa⟩ ?nE ?nT ?nD ?nB ?mk ?kc (K77.MDn.mk' ?a0 ?i0 ?l0 ?c0 ?k0 ?b0) (K77.MDn.mk' ?a1 ?i1 ?l1 ?c1 ?k1 ?b1) (K77.MDn.mk' ?a2 ?i2 ?l2 ?c2 ?k2 ?b2) (K77.MDn.mk' ?a3 ?i3 ?l3 ?c3 ?k3 ?b3) (K77.MDn.mk' ?a4 ?i4 ?l4 ?c4 ?k4 ?b4) (K77.MDn.mk' ?a5 ?i5 ?l5 ?c5 ?k5 ?b5) (K77.MDn.mk' ?a6 ?i6 ?l6 ?c6 ?k6 ?b6) (K77.MDn.mk' ?a7 ?i7 ?l7 ?c7 ?k7 ?b7) (K77.MDn.mk' ?a8 ?i8 ?l8 ?c8 ?k8 ?b8) (K77.MDn.mk' ?a9 ?i9 ?l9 ?c9 ?k9 ?b9) (K77.MDn.mk' ?a10 ?i10 ?l10 ?c10 ?k10 ?b10) (K77.MDn.mk' ?a11 ?i11 ?l11 ?c11 ?k11 ?b11) (K77.MDn.mk' ?a12 ?i12 ?l12 ?c12 ?k12 ?b12) (K77.MDn.mk' ?a13 ?i13 ?l13 ?c13 ?k13 ?b13) (K77.MDn.mk' ?a14 ?i14 ?l14 ?c14 ?k14 ?b14) (K77.MDn.mk' ?a15 ?i15 ?l15 ?c15 ?k15 ?b15) (K77.MDn.mk' ?a16 ?i16 ?l16 ?c16 ?k16 ?b16) (K77.MDn.mk' ?a17 ?i17 ?l17 ?c17 ?k17 ?b17) (K77.MDn.mk' ?a18 ?i18 ?l18 ?c18 ?k18 ?b18) (K77.MDn.mk' ?a19 ?i19 ?l19 ?c19 ?k19 ?b19) (K77.MDn.mk' ?a20 ?i20 ?l20 ?c20 ?k20 ?b20)
   (case mgC=>k_is)
   (case pg=>k_is);(case hd=>k_is);(case po=>k_is);(case sa=>k_is)
   (case nE=>(show Bo _ _ _=some none;k_is));(case nT=>(show Bo _ _ _=some none;k_is));(case nD=>(show Bo _ _ _=some none;k_is));(case nB=>(show Bo _ _ _=some none;k_is));(case mk=>k_is);(case kc=>k_is)
   (case a0=>k_is);(case i0=>k_is);(case l0=>k_is);(case c0=>k_is);(case k0=>k_is)
   (case b0=>exact λ_ _ _ _ _ _=>K77.bA1 λ_=>rfl)
   (case a1=>k_is);(case i1=>k_is);(case l1=>k_is);(case c1=>k_is);(case k1=>k_is)
   (case b1=>exact λ_ _ _ _ _ _=>K77.bA1 λ_=>rfl)
   (case a2=>k_is);(case i2=>k_is);(case l2=>k_is);(case c2=>k_is);(case k2=>k_is)
   (case b2=>exact λ_ _ _ _ _ _=>K77.bA2 λ_ _=>rfl)
   (case a3=>k_is);(case i3=>k_is);(case l3=>k_is);(case c3=>k_is);(case k3=>k_is)
   (case b3=>exact λ_ _ _ _ _ _=>K77.bA3 λ_ _ _=>rfl)
   (case a4=>k_is);(case i4=>k_is);(case l4=>k_is);(case c4=>k_is);(case k4=>k_is)
   (case b4=>exact λ_ _ _ _ _ _=>K77.bA5 λ_ _ _ _ _=>rfl)
   (case a5=>k_is);(case i5=>k_is);(case l5=>k_is);(case c5=>k_is);(case k5=>k_is)
   (case b5=>exact λ_ _ _ _ _ _=>K77.bA3 λ_ _ _=>rfl)
   (case a6=>k_is);(case i6=>k_is);(case l6=>k_is);(case c6=>k_is);(case k6=>k_is)
   (case b6=>exact λ_ _ _ _ _ _=>K77.bA2 λ_ _=>rfl)
   (case a7=>k_is);(case i7=>k_is);(case l7=>k_is);(case c7=>k_is);(case k7=>k_is)
   (case b7=>exact λ_ _ _ _ _ _=>K77.bA3 λ_ _ _=>rfl)
   (case a8=>k_is);(case i8=>k_is);(case l8=>k_is);(case c8=>k_is);(case k8=>k_is)
   (case b8=>exact λ_ _ _ _ _ _=>K77.bA2 λ_ _=>rfl)
   (case a9=>k_is);(case i9=>k_is);(case l9=>k_is);(case c9=>k_is);(case k9=>k_is)
   (case b9=>exact λ_ _ _ _ _ _=>K77.bA2 λ_ _=>rfl)
   (case a10=>k_is);(case i10=>k_is);(case l10=>k_is);(case c10=>k_is);(case k10=>k_is)
   (case b10=>exact λ_ _ _ _ _ _=>K77.bA3 λ_ _ _=>rfl)
   (case a11=>k_is);(case i11=>k_is);(case l11=>k_is);(case c11=>k_is);(case k11=>k_is)
   (case b11=>exact λ_ _ _ _ _ _=>K77.bA4 λ_ _ _ _=>rfl)
   (case a12=>k_is);(case i12=>k_is);(case l12=>k_is);(case c12=>k_is);(case k12=>k_is)
   (case b12=>exact λ_ _ _ _ _ _=>K77.bA4 λ_ _ _ _=>rfl)
   (case a13=>k_is);(case i13=>k_is);(case l13=>k_is);(case c13=>k_is);(case k13=>k_is)
   (case b13=>exact λ_ _ _ _ _ _=>K77.bA2 λ_ _=>rfl)
   (case a14=>k_is);(case i14=>k_is);(case l14=>k_is);(case c14=>k_is);(case k14=>k_is)
   (case b14=>exact λ_ _ _ _ _ _=>K77.bA1 λ_=>rfl)
   (case a15=>k_is);(case i15=>k_is);(case l15=>k_is);(case c15=>k_is);(case k15=>k_is)
   (case b15=>exact λ_ _ _ _ _ _=>K77.bA2 λ_ _=>rfl)
   (case a16=>k_is);(case i16=>k_is);(case l16=>k_is);(case c16=>k_is);(case k16=>k_is)
   (case b16=>exact λ_ _ _ _ _ _=>K77.bA2 λ_ _=>rfl)
   (case a17=>k_is);(case i17=>k_is);(case l17=>k_is);(case c17=>k_is);(case k17=>k_is)
   (case b17=>exact λ_ _ _ _ _ _=>K77.bA2 λ_ _=>rfl)
   (case a18=>k_is);(case i18=>k_is);(case l18=>k_is);(case c18=>k_is);(case k18=>k_is)
   (case b18=>exact λ_ _ _ _ _ _=>K77.bA2 λ_ _=>rfl)
   (case a19=>k_is);(case i19=>k_is);(case l19=>k_is);(case c19=>k_is);(case k19=>k_is)
   (case b19=>exact λ_ _ _ _ _ _=>K77.bA1 λ_=>rfl)
   (case a20=>k_is);(case i20=>k_is);(case l20=>k_is);(case c20=>k_is);(case k20=>k_is)
   (case b20=>exact λ_ _ _ _ _ _=>K77.bA1 λ_=>rfl)
  have mM:∃ tk:Tok,Ax (L2.KOf KX) Aq "MOST_LETTERS" = some (some (.int 8 tk)):=by
   dsimp only [L2.KOf]
   refine' K77.mst_mk ?a
   (case a=>k_is)
  have mS:∃ tk:Tok,Ax (L2.KOf KX) Aq "MOST_SPOONS" = some (some (.int 1000000 tk)):=by
   dsimp only [L2.KOf]
   refine' K77.mst_mk ?a
   (case a=>k_is)
  have mY:∃ tk:Tok,Ax (L2.KOf KX) Aq "LATEST_DAY" = some (some (.int 1000000 tk)):=by
   dsimp only [L2.KOf]
   refine' K77.mst_mk ?a
   (case a=>k_is)
  have mL:∃ tk:Tok,Ax (L2.KOf KX) Aq "LETTERS" = some (some (.str TM.LET tk)):=by
   dsimp only [L2.KOf]
   refine' K77.fgs_mk ?a ?e
   (case a=>k_is);(case e=>decide +kernel)
  have err:∃ cP cA cT cL:Addr,K77.ErLK (L2.KOf KX) cP cA cT cL:=by
   dsimp only [L2.KOf]
   refine' K77.err_mk ?mP ?mA ?mT ?mL ?ex ⟨?x1,?x2,?x3,?x4,?x5,?x6⟩ ⟨?y1,?y2,?y3⟩ ?s ?iA ?iT ?iL ?iV
   (case mP=>k_is);(case mA=>k_is);(case mT=>k_is);(case mL=>k_is)
   (case ex=>k_exc);(case x1=>k_is);(case x2=>k_is);(case x3=>k_is);(case x4=>k_is);(case x5=>k_is);(case x6=>(show PySem.W.isClsIn _ _=true;k_is))
   (case y1=>k_is);(case y2=>(show PySem.W.isClsIn _ _=true;k_is));(case y3=>k_is);(case s=>k_is);(case iA=>kit_is);(case iT=>kit_is);(case iL=>kit_is);(case iV=>kit_is)
  refine' K77.all_mk KX G hmg ⟨dCell,dMixed,dNames,dNew,dNoneLeft,dFresh,dLtot,dGood,dWord,dNameBy,dTold,dCan,dNext,dIsWare,dRNoName,dIsWh,dRNoSp,dRNoDay,dNewLot,dNewV,dGcd,dLow,dPlus,dTotal,dOver,dTimes,dLess,dMinus,dShared,dPut,dWith,dPoured,dDo,dLpour,dApply,dCopy,dBacks,dAgain,dSameOf,dSame,z0,z1,z2,z3,z4,z5,z6,z7,z8,z9,z10,z11,z12,z13,z14,z15,z16,nou,cls,mM,mS,mY,mL,err⟩ ?a4 ?l4 ?c4 ?k4
  (case a4=>k_is);(case l4=>k_is);(case c4=>k_is);(case k4=>k_is)
