import PyProof.Rows.All
import Wide.All
import OpenK.AllK
import Wide.FinOn
import Lean
import PyProof.EqAt
import PyProof.EqKinds
import PyProof.TupleCall
import PySem.Challenge.RW_phialhouse_k52_thinned
set_option Elab.async false
set_option linter.all false
set_option maxRecDepth 100000
set_option maxHeartbeats 4000000
open PySem renaming wpAny_bind→Aa, wpAny_pure→Ag, sizeLine→Au, Program→Av, Spec→Aw, FuncData→Az, mainGlobals→AD, Builtin→AI, starEach→AQ, wpAny_newObj_type→Ba, NameKind→Bd, compareOp→Bl, wpAny_call_entry→Bs, boot_len→Bu, wpAny_holding→Bz, wpAny_callSpecial?_slot→BA, PassesOwn→BK, wpAny_field→BO, wpAny_mono→BX, SetTable→BY, bootBuiltins→Ce, codeAny_mono→Cn, wpAny_setField_rec→Cu, wpAny_loadPart_at→CG, codeAny_builtin→CK, wpAny_Call_Name_kw→CQ, mem_of_lookup→CV, wpAny_seqItems→CZ, wpAny_truthy_bool→Dy, wpAny_rule→Dz, sysModules→DB, wpAny_attempt→DG, wpAny_typeOf→DY, wpAny_passesOwn→DZ, wpAny_setState_of→Ee, codeAny_call_builtin→Eh, wpAny_askSetting→El, binaryOp→Em, wpAny_setEntries_of→Et, wpAny_of_eq→Eu, codeAny→Ew, wpAny_call→Ez, wpAny_pyIter_tuple→EG, scanBound→EH, plainId_quiet→EI, attributeBase→EJ, plainObj_wpAny_Assign_Attribute→EU, foldedSetIterable→EV, fits_of_scanBound→EW, Builtin→EY, wpAny_setField→EZ, reprText→Fb, wpAny_isInstance→Fh, wpAny_standAt→Fj, wpAny_execs_nil→Fq, letOwnedTupleGo→Fs, codeAny_of_tree→Ft
open PySem.W renaming Frag→Ab, nsIn→AL, mg_none_of→AM, mg_of→Bc, findIn→BP, emptyDict→Cv, keepIn→CN, fnOf→Da, instObj→Dp, callWith_K→Ei, codeIn→EA
open List renaming getElem?_eq_getElem→Ac, getElem?_eq_some_iff→Ae, length_map→Af, mem_cons_of_mem→Ah, size_toArray→Ak, mem_of_getElem?→Al, map_cons→An, getElem?_map→Ao, mem_cons_self→Ar, getElem?_eq_none→Ax, length_append→Ay, mem_cons→AA, mem_singleton→AE, range→AF, mem_map→AH, sum_cons→AK, mem_append_right→AN, length_cons→AZ, mem_append→Bh, nodup_cons→Bo, map_append→Bp, length_eq_zero_iff→Bq, forall_mem_cons→BE, take_length→BF, getElem?_append_right→BH, getD_eq_getElem?_getD→BI, mem_map_of_mem→BQ, zip_cons_cons→BZ, map_map→Ca, getElem?_append_left→Cb, append_nil→Cc, all_eq_true→Cf, ext_getElem?→Ci, replicate→Co, mem_range→Cp, getElem?_set_ne→Cq, pairwise_map→Cw, pairwise_iff_getElem→Cy, length_set→CB, take_add_one→CU, filterMap_cons→CW, getElem?_set_self→CY, lookup_cons→De, getElem_mem→Dg, filter_cons→Dh, getElem?_of_mem→Dr, lookup→Dx, length_take→DD, filter_append→DI, length_singleton→DM, find?_cons→DO, nodup_nil→Ea, drop_eq_getElem_cons→Eb, not_mem_nil→Ef, map_congr_left→Eg, of_mem_zip→En, mem_filter→Eo, filter_cons_of_pos→Ep, filter_cons_of_neg→Er, take_of_length_le→EB, length_range→ED, le_antisymm→ER, toList_toArray→Fd, sum_append→Fe, getElem?_range→Ff, foldl_cons→Fg, mem_or_eq_of_mem_set→Fo, getElem?_zip_eq_some→Fp
open PySem.Heap renaming get?_push_of_some→Ad, get?_push_size→Ai, lt_size→Aq, get?_update_other→AY, size_push→BL, get?_update_self→BR, SameBut→Cj, get?_push_ne→DT
open Nat renaming le_refl→Aj, ne_of_lt→As, le_trans→AU, lt_of_lt_of_le→AV, zero_le→Bi, lt_succ_self→Cg, lt_succ_of_lt→Ck, lt_irrefl→CA, lt_of_le_of_lt→Dl, le_succ→Dq, ne_of_gt→Dw, lt_trans→Ej
open Bool renaming false_ne_true→AB, and_eq_true→BU, eq_iff_iff→CC, false_eq_true→Dk, and_eq_false_iff→EL
open PySem.Value renaming ref→AC, none→BV, type→Dd, isStrOf_shape→Du, isStrOf→EX
open Option.some renaming inj→AG
open PySem.PassesOwn renaming never→AJ
open Option renaming map_eq_some_iff→AO, some→Bf, map_some→CT
open Sum renaming inr→AR
open Int renaming mul_right_comm→AS, eq_ofNat_of_zero_le→Bb, eq_of_mul_eq_mul_right→Bm, zero_mul→Br, mul_nonneg→BB, mul_comm→BJ, mul_assoc→BM, toNat_natCast→Cm, mul_pos→Cr, mul_le_mul_of_nonneg_left→CM, ediv_le_self→Dj, le_refl→DC, mul_eq_zero→DQ, mul_le_mul_of_nonneg_right→EN, mul_lt_mul_right→Fc
open Array renaming getElem?_toList→AW, length_toList→Bv, getElem?_eq_some_iff→Ct, perm_iff_toList_perm→DU, toArray_toList→ET, getElem?_eq_getElem→Fn
open PySem.NameKind renaming free→AX, cell→CI
open Decidable renaming byContradiction→Be
open Ne renaming symm→Bg
open PySem.SeqAt renaming EqAt→Bj
open PySem.Builtin.SmallTypes renaming nextOf→Bk, ownedTupleIsFree→Cz, ownedTupleHandOut→Fi
open PyProof.Rows renaming callWith_type1→Bw, slot_tuple_getitem→BN, wpS_bind→BW, boot_isinstance→CL, wpS_pure→Di, StrsAre→EK
open PySem.F renaming type_list_append→BC, slot_list_append→BD, plainAttrs_list→BG, called_set→Cd, kt_called_dict→CO, slot_dict_get→DH, slot_tuple_iterator_next→Ed, args_tuple_add_2→Fk, plainAttrs_dict→Fu, entry_tuple_add→Fv, slot_tuple_getattribute→Fw
open False renaming elim→CH
open PySem.Around renaming under_plainId→CJ
open PySem.Str renaming ofString→CS
open ForInStep renaming yield→Dm
open True renaming intro→Ds
open PySem.Calls renaming callWith_builtin→DE, spliced_cons→DF, spliced_nil→EC, evalArgs_plain→ES, call_function_entry→Fm
open PySem.Builtin.Slice renaming slicePlaces→DJ, sliceAdjust→EO
open PySem.Builtin.Tuple renaming tupleExact→DP
open PySem.SetTable renaming grown→DR, below→DS
open PySem.Obj renaming mapSeq→DV, mapFields→DW, data_mapFields→Ey, isFreed_of_fields→EM
open LawfulBEq renaming eq_of_beq→Ek
open PySem.Code renaming quiet_builtin→Es
open PySem.Heap.SameBut renaming update→EE
open PySem.Builtin.List renaming listExtendWith→EF
open PyProof.Rows.F renaming plain_set_update_loop→Fx
namespace L2
open PySem PySem.Spec PyProof.Rows
def zLn0:0<=Au:=by decide
def zLn1:1<=Au:=by decide
def zLn2:2<=Au:=by decide
def zLn3:3<=Au:=by decide
def zLn4:4<=Au:=by decide
def zLn5:5<=Au:=by decide
def zLn6:6<=Au:=by decide
def zLn10:10<=Au:=by decide
abbrev Key:=Sum Int Str
def uB:Key->Value->Bool
 |.inl k,v=>Value.isInt k v
 |.inr x,v=>EX x v
def keyH (w:World):Key->Int
 |.inl k=>hashInt k
 |.inr x=>hashStr w x
def bX:∀ {k:Key} {v:Value},uB k v=true->(∃ i t,k=Sum.inl i/\v=Value.int i t)\/(∃ x t,k=AR x/\v=Value.str x t)
 |.inl i,v,h=>by
  obtain ⟨t,e⟩:=Value.isInt_shape (k:=i) (v:=v) h;exact .inl ⟨i,t,rfl,e⟩
 |.inr x,v,h=>by
  obtain ⟨t,e⟩:=Du (x:=x) (v:=v) h;exact .inr ⟨x,t,rfl,e⟩
def yF (i:Int)(t:Tok):uB (.inl i) (.int i t)=true:=by simp [uB,Value.isInt]
def yE (x:Str)(t:Tok):uB (.inr x) (.str x t)=true:=by simp [uB,EX]
theorem aHx (a b:Int):decide ((Sum.inl a:Key)=Sum.inl b)=(a==b):=by
 by_cases e:a=b
 ·subst e;simp
 ·have h:¬ (Sum.inl a:Key)=Sum.inl b:=λq=>e (Sum.inl.inj q)
  rw [decide_eq_false h];exact (beq_eq_false_iff_ne.mpr e).symm
theorem aHu (a b:Str):decide ((AR a:Key)=AR b)=decide (a=b):=by
 by_cases e:a=b
 ·subst e;simp
 ·have h:¬ (AR a:Key)=AR b:=λq=>e (AR.inj q)
  rw [decide_eq_false h,decide_eq_false e]
theorem aHw (a:Int)(b:Str):decide ((Sum.inl a:Key)=AR b)=false:=decide_eq_false (λq=>nomatch q)
theorem aHv (a:Str)(b:Int):decide ((AR a:Key)=Sum.inl b)=false:=decide_eq_false (λq=>nomatch q)
def bD (prog:Av)(w:World):PySem.KeyKind prog w Key where
 is:=uB
 hash:=keyH w
 inj:=λv a b ha hb=>by
  rcases bX ha with ⟨i,t,rfl,rfl⟩|⟨x,t,rfl,rfl⟩
  ·rcases bX hb with ⟨j,u,rfl,e⟩|⟨y,u,rfl,e⟩
   ·injection e with e1 _;rw [e1]
   ·exact nomatch e
  ·rcases bX hb with ⟨j,u,rfl,e⟩|⟨y,u,rfl,e⟩
   ·exact nomatch e
   ·injection e with e1 _;rw [e1]
 byValue:=λk v h=>by
  rcases bX h with ⟨i,t,rfl,rfl⟩|⟨x,t,rfl,rfl⟩<;>rfl
 pyHash:=λhv h=>by
  rcases bX hv with ⟨i,t,rfl,rfl⟩|⟨x,t,rfl,rfl⟩
  ·exact wpAny_pyHash_int h
  ·exact wpAny_pyHash_str h
 eqBool:=λhu hv h=>by
  rcases bX hu with ⟨i,t,rfl,rfl⟩|⟨x,t,rfl,rfl⟩
  ·rcases bX hv with ⟨j,u,rfl,rfl⟩|⟨y,u,rfl,rfl⟩
   ·rw [aHx] at h;exact wpAny_eqBool_int h
   ·rw [aHw] at h;exact Bj.int_str i t y u _ _ _ _ h
  ·rcases bX hv with ⟨j,u,rfl,rfl⟩|⟨y,u,rfl,rfl⟩
   ·rw [aHv] at h;exact Bj.str_int x t j u _ _ _ _ h
   ·rw [aHu] at h;exact wpAny_eqBool_str h
 «strs»:=λk x t v h=>by
  rcases bX h with ⟨i,u,rfl,e⟩|⟨y,u,rfl,e⟩
  ·exact nomatch e
  ·injection e with e1 _
   subst e1;cases v<;>rfl
def pT (prog:Av)(w:World)(i:Int)(t:Tok):(bD prog w).is (.inl i) (.int i t)=true:=yF i t
def pS (prog:Av)(w:World)(x:Str)(t:Tok):(bD prog w).is (.inr x) (.str x t)=true:=yE x t
inductive V where
 |non|bl (b:Bool)|int (i:Int)|str (x:Str)|byt (b:Array UInt8)|flt (b:UInt64)|ref (a:Addr)|ty (n:String)
 deriving DecidableEq
def RelV:V->Value->Prop
 |.non,u=>u=BV
 |.bl b,u=>u=Value.bool b
 |.int i,u=>∃ t,u=Value.int i t
 |.str x,u=>∃ t,u=Value.str x t
 |.byt b,u=>∃ t,u=Value.bytes b t
 |.flt b,u=>∃ t,u=Value.float b t
 |.ref a,u=>u=AC a
 |.ty n,u=>u=Dd n
abbrev Vals:List V->List Value->Prop:=Paired RelV
theorem Vals.length (r:Vals xs us):xs.length=us.length:=Paired.length r
theorem Vals.get:∀ {xs:List V} {us:List Value} {i:Nat} {x:V},Vals xs us->xs[i]?=some x->∃ u,us[i]?=some u/\RelV x u
 |_,_,_,_,.nil,e=>by simp at e
 |_,_,0,_,.cons r _,e=>by simp at e;subst e;exact ⟨_,rfl,r⟩
 |_,_,i+1,x,.cons _ t,e=>by
  obtain ⟨u,h1,h2⟩:=Vals.get (i:=i) (x:=x) t (by simpa using e);exact ⟨u,by simpa using h1,h2⟩
theorem Vals.set (r:RelV x u):∀ {xs:List V} {us:List Value} (i:Nat),Vals xs us->Vals (xs.set i x) (us.set i u)
 |_,_,_,.nil=>.nil
 |_,_,0,.cons _ t=>.cons r t
 |_,_,i+1,.cons q t=>.cons q (Vals.set r i t)
theorem Vals.append:∀ {xs ys:List V} {us ws:List Value},Vals xs us->Vals ys ws->Vals (xs++ys) (us++ws)
 |_,_,_,_,.nil,s=>s
 |_,_,_,_,.cons r t,s=>.cons r (Vals.append t s)
theorem Vals.take:∀ {xs:List V} {us:List Value} (n:Nat),Vals xs us->Vals (xs.take n) (us.take n)
 |_,_,0,_=>.nil
 |_,_,_+1,.nil=>.nil
 |_,_,n+1,.cons r t=>.cons r (Vals.take n t)
theorem Vals.drop:∀ {xs:List V} {us:List Value} (n:Nat),Vals xs us->Vals (xs.drop n) (us.drop n)
 |_,_,0,r=>r
 |_,_,_+1,.nil=>.nil
 |_,_,n+1,.cons _ t=>Vals.drop n t
def RelO:Option V->Option Value->Prop
 |some v,some u=>RelV v u
 |none,none=>True
 |_,_=>False
def KV {κ:Type}:List (κ×V)->List (κ×Value)->Prop:=Paired λ(p:κ×V) (q:κ×Value)=>p.1=q.1/\RelV p.2 q.2
def kV:Key->V
 |.inl i=>.int i
 |.inr x=>.str x
inductive HO where
 |lst (xs:List V)
 |tup (xs:List V)
 |dK (kvs:List (Key×V))|dT (kvs:List (List Key×V))
 |set (S:Int->Bool) (n:Nat)
 |ins (C dx:Addr) (fs:List (Str×V))
 |own (x:Addr)
 |xd (fs:List (Str×V))
 |met (f x:Addr)
 |rng (lo hi:Int)
 |frz (o:Obj) (u:HO)
 |tbl (ps:Array Value)
 |ext (φ:Heap->Prop)
abbrev Hp:=Addr->Option HO
def upd (H:Hp)(a:Addr)(o:HO):Hp:=λb=>if b=a then some o else H b
theorem aB :upd H a o a=some o:=by unfold upd;rw [if_pos rfl]
theorem aI (h:b≠a):upd H a o b=H b:=by unfold upd;rw [if_neg h]
theorem aI9 {H:Hp}{a b:Addr}{o u:HO}(h:H a=some o)(h':H b=some u)(d:o≠u):a≠b:=by
 intro e;subst e;rw [h] at h';exact d (AG h')
theorem aZ {H:Hp}{a b:Addr}{o:HO}(h:H a=some o)(h':H b=none):a≠b:=by
 intro e;subst e;rw [h] at h';cases h'
def NoD (h:Heap)(a:Addr):Prop:=∃ o,h.get? a=some o/\o.dict=none
theorem NoD.at (n:NoD h a)(e:h.get? a=some o):o.dict=none:=by
 obtain ⟨u,e1,e2⟩:=n;rw [e] at e1;cases e1;exact e2
section
variable (P:Av)(w:World)
def ObjOk (H:Hp)(h:Heap)(a:Addr):HO->Prop
 |.lst xs=>xs.length<=Au/\∃ (its:List Value) (n:Nat),Vals xs its/\h.get? a=some { cls:=.type "list",data:=.seq its.toArray n }
 |.tup xs=>(xs.length<=Au/\NoD h a)/\∃ its:List Value,Vals xs its/\IsTup h a its.toArray
 |.dK kvs=>kvs.length<=Au/\(a==DB)=false/\∃ vs,KV kvs vs/\h.DictOf (bD P w) a vs
 |.dT kvs=>kvs.length<=Au/\(a==DB)=false/\∃ xs:List (List Key×Addr×Value),
   Paired (λ(p:List Key×V) (q:List Key×Addr×Value)=>p.1=q.1/\H q.2.1=some (.tup (p.1.map kV))/\RelV p.2 q.2.2) kvs xs /\
   ∃ o es ep,h.get? a=some o/\o.ExactDict/\o.data=.dict es ep/\es.toList=xs.map (entryOfKey (tupleKind (bD P w)))/\(xs.map (·.1)).Nodup
 |.set S n=>h.SetOf (intKind P w) a S n
 |.ins C dx fs=>H dx=some (.own a)/\fs.length<=1000/\dx≠a/\h.get? a=some (Dp C dx) /\
   ∃ mA,h.Ns1 dx mA/\(∀ f,RelO (fs.lookup f) (mA f))/\PySem.Within mA (fs.map (·.1))
 |.own _=>∃ o,h.get? a=some o
 |.xd fs=>∃ mA,h.Ns1 a mA/\∀ f,RelO (fs.lookup f) (mA f)
 |.rng lo hi=>∃ t u v,h.get? a=some { cls:=.type "range",data:=.fields #[.int lo t,.int hi u,.int 1 v] }
 |.frz o u=>h.get? a=some o/\ObjOk H h a u
 |.tbl ps=>h.get? a=some { cls:=.none,data:=.fields ps }
 |.met f x=>h.get? a=some (PySem.W.methodObj (.ref f) (.ref x))
 |.ext φ=>φ h/\(∃ o,h.get? a=some o)/\∀ h1 h2:Heap,φ h1->(∀ o,h1.get? a=some o->h2.get? a=some o)->φ h2
def HOk (H:Hp)(h:Heap):Prop:=∀ a o,H a=some o->ObjOk P w H h a o
end
section
variable {P:Av}{w:World}{H H':Hp}{h h':Heap}{a:Addr}{o:HO}
theorem ObjOk.lt (x:ObjOk P w H h a o):a<h.objs.size:=by
 cases o with
 |lst xs=>obtain ⟨_,_,_,_,e⟩:=x;exact Aq e
 |tup xs=>obtain ⟨_,_,_,p⟩:=x;exact p.lt
 |dK kvs=>obtain ⟨_,_,_,_,o,_,_,e,_⟩:=x;exact Aq e
 |dT kvs=>obtain ⟨_,_,_,_,o,_,_,e,_⟩:=x;exact Aq e
 |set S n=>obtain ⟨o,_,_,_,e,_⟩:=x;exact Aq e
 |ins C dx fs=>obtain ⟨_,_,_,e,_⟩:=x;exact Aq e
 |own y=>obtain ⟨_,e⟩:=x;exact Aq e
 |xd fs=>obtain ⟨_,⟨_,_,_,e,_⟩,_⟩:=x;exact Aq e
 |rng lo hi=>obtain ⟨_,_,_,e⟩:=x;exact Aq e
 |frz ob u=>obtain ⟨e,_⟩:=x;exact Aq e
 |tbl ps=>exact Aq (show h.get? a=some _ from x)
 |met f y=>exact Aq (show h.get? a=some _ from x)
 |ext φ=>obtain ⟨_,⟨_,e⟩,_⟩:=x;exact Aq e
theorem Paired.mapP {α β:Type}{F G:α->β->Prop}:∀ {l₁:List α} {l₂:List β},Paired F l₁ l₂->(∀ a b,F a b->G a b)->Paired G l₁ l₂
 |_,_,.nil,_=>.nil
 |_,_,.cons r t,f=>.cons (f _ _ r) (Paired.mapP t f)
def ObjOk.stay (x:ObjOk P w H h a o)(k:∀ b u,(b=a\/H b=some (.own a))->h.get? b=some u->h'.get? b=some u)
  (ho:∀ b,H b=some (.own a)->H' b=some (.own a)) (ht:∀ b xs,H b=some (.tup xs)->H' b=some (.tup xs)):ObjOk P w H' h' a o:=by
 induction o with
 |lst xs=>obtain ⟨z,its,n,r,e⟩:=x;exact ⟨z,its,n,r,k _ _ (.inl rfl) e⟩
 |tup xs=>obtain ⟨⟨z,o1,e1,d1⟩,its,r,ob,e,c⟩:=x;exact ⟨⟨z,o1,k _ _ (.inl rfl) e1,d1⟩,its,r,ob,k _ _ (.inl rfl) e,c⟩
 |dK kvs=>obtain ⟨z,y,vs,r,ob,es,ep,e,c⟩:=x;exact ⟨z,y,vs,r,ob,es,ep,k _ _ (.inl rfl) e,c⟩
 |dT kvs=>
  obtain ⟨z,y,xs,r,ob,es,ep,e,c⟩:=x;exact ⟨z,y,xs,Paired.mapP r λp q z=>⟨z.1,ht _ _ z.2.1,z.2.2⟩,ob,es,ep,k _ _ (.inl rfl) e,c⟩
 |set S n=>obtain ⟨ob,es,ep,t,e,c⟩:=x;exact ⟨ob,es,ep,t,k _ _ (.inl rfl) e,c⟩
 |ins C dx fs=>
  obtain ⟨d,z,ne,e,mA,⟨od,es,ep,e2,c⟩,r⟩:=x;exact ⟨ho _ d,z,ne,k _ _ (.inl rfl) e,mA,⟨od,es,ep,k _ _ (.inr d) e2,c⟩,r⟩
 |own y=>obtain ⟨ob,e⟩:=x;exact ⟨ob,k _ _ (.inl rfl) e⟩
 |xd fs=>obtain ⟨mA,⟨od,es,ep,e,c⟩,r⟩:=x;exact ⟨mA,⟨od,es,ep,k _ _ (.inl rfl) e,c⟩,r⟩
 |rng lo hi=>obtain ⟨t,u,v,e⟩:=x;exact ⟨t,u,v,k _ _ (.inl rfl) e⟩
 |frz ob u ih=>obtain ⟨e,q⟩:=x;exact ⟨k _ _ (.inl rfl) e,ih q⟩
 |tbl ps=>
  have e:h.get? a=some { cls:=.none,data:=.fields ps }:=x;show h'.get? a=some { cls:=.none,data:=.fields ps };exact k a _ (.inl rfl) e
 |met f y=>
  have e:h.get? a=some (PySem.W.methodObj (.ref f) (.ref y)):=x;show h'.get? a=some (PySem.W.methodObj (.ref f) (.ref y));exact k a _ (.inl rfl) e
 |ext φ=>obtain ⟨p,⟨o,e⟩,st⟩:=x;exact ⟨st _ _ p λo q=>k _ _ (.inl rfl) q,⟨o,k _ _ (.inl rfl) e⟩,st⟩
theorem HOk.lt (x:HOk P w H h)(e:H a=some o):a<h.objs.size:=(x a o e).lt
theorem HOk.fresh (x:HOk P w H h)(e:h.objs.size<=a):H a=none:=by
 cases q:H a with
 |none=>rfl
 |some u=>exact absurd (AV (x.lt q) e) (CA _)
def HOk.kept (x:HOk P w H h)(k:∀ b u,h.get? b=some u->h'.get? b=some u):HOk P w H h':=λa o e=>
 (x a o e).stay (λb u _ q=>k b u q) (λ_ q=>q) λ_ _ q=>q
theorem HOk.laid (x:HOk P w H h)(k:∀ b u,h.get? b=some u->h'.get? b=some u)(hp:h.objs.size<=a)(new:ObjOk P w (upd H a o) h' a o):HOk P w (upd H a o) h':=λb u e=>by
 have hn:=x.fresh hp
 by_cases hb:b=a
 ·subst hb;rw [aB] at e;cases e;exact new
 ·rw [aI hb] at e
  exact (x b u e).stay (λc v _ q=>k c v q) (λc q=>by rw [aI (aZ q hn)];exact q) λc xs q=>by rw [aI (aZ q hn)];exact q
end
def Rd (H:Hp)(a:Addr)(u:HO):Prop:=H a=some u\/∃ o,H a=some (.frz o u)
def Rd.ok {w:World}(r:Rd H a u)(x:HOk P w H h):ObjOk P w H h a u:=by
 rcases r with r|⟨o,r⟩
 ·exact x a u r
 ·obtain ⟨_,q⟩:=x a _ r
  exact q
def Mut:Option HO->Prop
 |some (.lst _)=>True
 |some (.dK _)=>True
 |some (.dT _)=>True
 |some (.set _ _)=>True
 |some (.ins _ _ _)=>True
 |some (.ext _)=>True
 |_=>False
section
variable {P:Av}{w:World}{H:Hp}{h h':Heap}{x e:Addr}{o':HO}
def HOk.write (ok:HOk P w H h)(mu:Mut (H x))(he:e=x\/H e=some (.own x))(k:∀ b u,b≠e->h.get? b=some u->h'.get? b=some u)(heo:∃ u,h'.get? e=some u)
  (new:ObjOk P w (upd H x o') h' x o'):HOk P w (upd H x o') h':=λb u q=>by
 have nown:∀ c y,H c=some (.own y)->c≠x:=λc y r z=>by subst z;rw [r] at mu;exact mu
 have ntup:∀ c xs,H c=some (.tup xs)->c≠x:=λc xs r z=>by subst z;rw [r] at mu;exact mu
 by_cases hb:b=x
 ·subst hb;rw [aB] at q;cases q;exact new
 ·rw [aI hb] at q
  by_cases hbe:b=e
  ·have q':H b=some (.own x):=by
    rcases he with z|z
    ·exact absurd (hbe.trans z) hb
    ·rw [hbe];exact z
   rw [q] at q';cases q';obtain ⟨v,hv⟩:=heo;exact ⟨v,by rw [hbe];exact hv⟩
  ·refine (ok b u q).stay (λc v hc r=>k c v ?_ r) (λc r=>by rw [aI (nown c b r)];exact r) λc xs r=>by rw [aI (ntup c xs r)];exact r
   rcases hc with rfl|hc
   ·exact hbe
   ·rintro rfl
    rcases he with z|z
    ·exact nown c b hc z
    ·rw [hc] at z;cases z;exact hb rfl
end
structure Un (fs ex:List Addr)(H H':Hp)(h h':Heap):Prop where
 keep:∀ b o,h.get? b=some o->H b=none->b∉fs->b∉ex->h'.get? b=some o
 slot:∀ b o,h.get? b=some o->H b=none->b∈fs->b∉ex->∃ sl,h'.get? b=some { o with slots:=sl }
 free:∀ b o,h.get? b=some o->H b=none->b∉ex->H' b=none
 there:∀ b o,h.get? b=some o->b∉ex->∃ o',h'.get? b=some o'
 tups:∀ b xs,H b=some (.tup xs)->H' b=some (.tup xs)
 frzs:∀ b o u,H b=some (.frz o u)->H' b=some (.frz o u)
 tbls:∀ b ps,H b=some (.tbl ps)->∃ more,H' b=some (.tbl (ps++more))
section
variable {fs fs' ex ex':List Addr}{H H1 H2:Hp}{h h1 h2 h':Heap}{a x e:Addr}{o:HO}
theorem Un.any (u:Un fs ex H H1 h h1)(q:h.get? b=some ob)(n:H b=none)(hx:b∉ex):∃ sl,h1.get? b=some { ob with slots:=sl }:=by
 by_cases hb:b∈fs
 ·exact u.slot b ob q n hb hx
 ·exact ⟨ob.slots,u.keep b ob q n hb hx⟩
def Un.kept (k:∀ b u,h.get? b=some u->h'.get? b=some u):Un fs ex H H h h':=
 ⟨λb ob q _ _ _=>k b ob q,λb ob q _ _ _=>⟨ob.slots,k b ob q⟩,λ_ _ _ n _=>n,λb ob q _=>⟨ob,k b ob q⟩,λ_ _ q=>q,λ_ _ _ q=>q,λ_ ps q=>⟨#[],by rw [q];simp⟩⟩
def Un.refl:Un fs ex H H h h:=Un.kept λ_ _ q=>q
theorem Un.laid (k:∀ b u,h.get? b=some u->h'.get? b=some u)(hp:h.objs.size<=a)(hn:H a=none):Un fs ex H (upd H a o) h h' where
 keep:=λb u q _ _ _=>k b u q
 slot:=λb u q _ _ _=>⟨u.slots,k b u q⟩
 free:=λb u q n _=>by rw [aI (As (AV (Aq q) hp))];exact n
 there:=λb u q _=>⟨u,k b u q⟩
 tups:=λb xs q=>by rw [aI (aZ q hn)];exact q
 frzs:=λb u xs q=>by rw [aI (aZ q hn)];exact q
 tbls:=λb ps q=>⟨#[],by rw [aI (aZ q hn),q];simp⟩
def Un.write (mu:Mut (H x))(he:e=x\/H e=some (.own x))(k:∀ b u,b≠e->h.get? b=some u->h'.get? b=some u)(heo:∃ u,h'.get? e=some u):Un fs ex H (upd H x o) h h':=by
 have hx:∀ b,H b=none->b≠x:=λb n z=>by subst z;rw [n] at mu;exact mu
 have hb:∀ b,H b=none->b≠e:=λb n z=>by
  subst z
  rcases he with r|r
  ·exact hx b n r
  ·rw [n] at r;cases r
 have hm:∀ b u,H b=some u->¬ Mut (some u)->b≠x:=λb u q nm z=>by subst z;rw [q] at mu;exact nm mu
 refine ⟨λb u q n _ _=>k b u (hb b n) q,λb u q n _ _=>⟨u.slots,k b u (hb b n) q⟩,λb u q n _=>by rw [aI (hx b n)];exact n,λb u q _=>?_,
  λb xs q=>by rw [aI (hm b _ q λz=>z)];exact q,λb u xs q=>by rw [aI (hm b _ q λz=>z)];exact q,λb ps q=>⟨#[],by rw [aI (hm b _ q λz=>z),q];simp⟩⟩
 by_cases hbe:b=e
 ·subst hbe;exact heo
 ·exact ⟨u,k b u hbe q⟩
end
def trk (h:Heap)(H:Hp):List Addr:=(AF h.objs.size).filter λa=>(H a).isSome
def hidT (h:Heap)(H:Hp):Heap:=PySem.W.hideAll h (trk h H)
def yN (h:Heap)(H:Hp):(hidT h H).objs.size=h.objs.size:=PySem.W.hideAll_size _ _
def aBt (e:h.get? b=some o)(n:H b=none):(hidT h H).get? b=some o:=
 PySem.W.hideAll_get _ e λhm=>by
  have q:(H b).isSome=true:=(Eo.mp hm).2;rw [n] at q;simp at q
def aE7 (e:(hidT h H).get? b=some o):h.get? b=some o/\H b=none:=by
 have e':h.get? b=some o:=PySem.W.of_hideAll (trk h H) e;refine ⟨e',?_⟩;cases q:H b with
 |none=>rfl
 |some x=>
  have hm:b∈trk h H:=Eo.mpr ⟨Cp.mpr (Aq e'),by simp [q]⟩;have z:(hidT h H).get? b=none:=PySem.W.hideAll_none (trk h H) hm;rw [z] at e;cases e
def aFr (g h:Heap)(L:Addr):List (Addr×Obj):=(AF h.objs.size).filterMap λa=>if a=L\/(g.get? a).isSome=true then none else (h.get? a).map λo=>(a,o)
def rest (g h:Heap)(L d:Addr):List (Addr×Obj):=(aFr g h L).filter λp=>decide (p.1≠d)
structure Mod (K:Ab)(mg:Str->Option Value)(base:Heap):Prop where
 kin:K.In base
 glob:base.Ns AD mg
 blt:∃ mb,base.Ns builtinsNs mb/\∀ x:Str,x ≠ "__name__" -> mb x=Ce x
 nolimit:base.NoLimit
structure Cx where
 prog:Av
 w:World
 K:Ab
 mg:Str->Option Value
 base:Heap
 A:Around
 N:List Str
 s₀:Shared
 H₀:Hp
 env:Env
 outer:List Env
 stack:List Env
 ex:List Addr
 fn:Str->Bool
 calm:Bool
 pn:List (Addr×Obj)
 xe:Value->Shared->Prop
def frs (l:List Env):List Addr:=l.filterMap (·.frame)
abbrev Cx.fs (X:Cx):List Addr:=frs X.outer
def Vis (sc:Scope)(x:Str):Prop:=sc.names.lookup x=some .local\/sc.names.lookup x=some .cell\/sc.names.lookup x=some .free
def Loc (sc:Scope)(x:Str):Prop:=sc.names.lookup x=some .local\/sc.names.lookup x=some .cell
def Look (env:Env)(h:Heap)(m:Str->Option Value)(x:Str)(u:Value):Prop:=
 (env.kindOf x=some .local/\m x=some u)\/((env.kindOf x=some .cell\/env.kindOf x=some .free)/\∃ c,env.cells.lookup x=some c/\h.IsCell c (some u))
structure Cx.Ok (X:Cx):Prop where
 mod:Mod X.K X.mg X.base
 kind:X.env.scope.kind=.function
 glob:X.env.globals=AD
 blt:X.env.builtins=builtinsNs
 above:X.s₀.heap.objs.size<=X.env.locals
 inj:∀ x y c,X.env.cells.lookup x=some c->X.env.cells.lookup y=some c->x=y
 has:∀ x,(X.env.kindOf x=some .cell\/X.env.kindOf x=some .free)->∃ c,X.env.cells.lookup x=some c
 cab:∀ x c,X.fn x=true->X.env.cells.lookup x=some c->X.s₀.heap.objs.size<=c
 hd:X.calm=true->X.A.handled=none
 frames:X.A.frames=some X.stack
 stk:X.stack=X.outer\/(X.stack=X.env::X.outer/\X.env.frame=some X.env.locals)
 exf:∀ b∈X.ex,b≠X.env.locals/\∀ x c,X.env.cells.lookup x=some c->c≠b
 bs:∀ b o,X.base.get? b=some o->X.s₀.heap.get? b=some o/\X.H₀ b=none
 bsz:X.base.objs.size<=X.s₀.heap.objs.size
 noex:∀ b o,X.base.get? b=some o->b∉X.ex
 exfs:∀ b∈X.ex,b∉X.fs
 funs:X.s₀.heap.FunFrames X.base X.outer
 frf:∀ b∈X.fs,X.H₀ b=none
structure Inv (X:Cx)(pins:List (Addr×Obj))(σ:List (Option V))(H:Hp)(s:Shared):Prop where
 ok:X.Ok
 os:s.os=X.s₀.os
 bare:AllBare s.gens
 base:Un X.fs X.ex X.H₀ H X.s₀.heap s.heap
 loc:∃ m,s.heap.Ns X.env.locals m/\∀ (i:Nat) (x:Str) (v:V),X.N[i]?=some x->σ[i]?=some (some v)->Vis X.env.scope x->∃ u,RelV v u/\Look X.env s.heap m x u
 cell:∀ x c,X.env.cells.lookup x=some c->∃ v,s.heap.IsCell c v
 free:H X.env.locals=none
 freeC:∀ x c,X.env.cells.lookup x=some c->H c=none
 pin:∀ p∈X.pn++pins,s.heap.get? p.1=some p.2/\H p.1=none/\p.1≠X.env.locals/\p.1∉X.fs/\∀ v,p.2.data≠.cell v
 hok:HOk X.prog X.w H s.heap
 len:σ.length=X.N.length
section
variable {X:Cx}{pins:List (Addr×Obj)}{σ:List (Option V)}{H H':Hp}{s:Shared}{h':Heap}
def Cx.Ok.nofr (ok:X.Ok)(e:X.base.get? b=some o):b∉X.fs:=λhb=>by
 have:=(ok.funs.mem hb).1;rw [e] at this;cases this
def Inv.bs (I:Inv X pins σ H s):∀ b o,X.base.get? b=some o->s.heap.get? b=some o/\H b=none:=λb o e=>
 ⟨I.base.keep b o (I.ok.bs b o e).1 (I.ok.bs b o e).2 (I.ok.nofr e) (I.ok.noex b o e),I.base.free b o (I.ok.bs b o e).1 (I.ok.bs b o e).2 (I.ok.noex b o e)⟩
def Inv.bk (I:Inv X pins σ H s):∀ b o,X.base.get? b=some o->s.heap.get? b=some o:=λb o e=>(I.bs b o e).1
def Inv.mod (I:Inv X pins σ H s):Mod X.K X.mg X.base:=I.ok.mod
def Inv.kIn (I:Inv X pins σ H s):X.K.In s.heap:=I.ok.mod.kin.keeps I.bk
theorem Inv.fr (I:Inv X pins σ H s):∃ m,Fr X.base X.env.locals s.heap m:=
 let ⟨m,hn,_⟩:=I.loc
 ⟨m,hn,I.bk,AU I.ok.bsz I.ok.above⟩
theorem Inv.lt (I:Inv X pins σ H s):X.env.locals<s.heap.objs.size:=let ⟨_,hn,_⟩:=I.loc;hn.lt
theorem Inv.sz (I:Inv X pins σ H s):X.s₀.heap.objs.size<=s.heap.objs.size:=AU I.ok.above (Nat.le_of_lt I.lt)
def Inv.nofs (I:Inv X pins σ H s)(h:s.heap.objs.size<=a):a∉X.fs:=λhb=>by
 obtain ⟨_,o,ho,_⟩:=I.ok.funs.mem hb;exact absurd (AV (Aq ho) (AU I.sz h)) (CA _)
def Inv.cne (I:Inv X pins σ H s):∀ x c,X.env.cells.lookup x=some c->c≠X.env.locals:=λx c e z=>by
 obtain ⟨v,o,ho,hd⟩:=I.cell x c e;obtain ⟨m,⟨o',es,ep,ho',hd',_⟩,_⟩:=I.loc;rw [z,ho'] at ho;cases ho;rw [hd'] at hd;cases hd
def Inv.funs (I:Inv X pins σ H s):s.heap.FunFrames X.base X.outer:=by
 have all:∀ (l:List Env),(∀ b∈frs l,b∈X.fs)->X.s₀.heap.FunFrames X.base l->s.heap.FunFrames X.base l:=by
  intro l
  induction l with
  |nil=>intro _ _;trivial
  |cons env r ih=>
   intro hs hl;obtain ⟨hk,⟨L,o,hf,hn,ho,hd⟩,hr⟩:=hl;have hL:L∈X.fs:=hs L (by unfold frs;rw [CW,hf];exact Ar);obtain ⟨sl,e⟩:=I.base.slot L o ho (I.ok.frf L hL) hL λz=>I.ok.exfs L z hL;exact ⟨hk,⟨L,_,hf,hn,e,hd⟩,ih (λb hb=>hs b (by unfold frs;rw [CW,hf];exact Ah _ hb)) hr⟩
 exact all X.outer (λ_ hb=>hb) I.ok.funs
def Inv.stack (I:Inv X pins σ H s):s.heap.FunFrames X.base X.stack:=by
 rcases I.ok.stk with e|⟨e,hf⟩
 ·rw [e];exact I.funs
 ·rw [e]
  obtain ⟨m,hn,_⟩:=I.loc;refine .cons (by rw [I.ok.kind];decide) hf hn ?_ I.funs;exact Heap.get?_none_of_le (AU I.ok.bsz I.ok.above)
def Inv.stkSub (I:Inv X pins σ H s):∀ b∈frs X.stack,b∈X.env.locals::X.fs:=λb hb=>by
 rcases I.ok.stk with e|⟨e,hf⟩
 ·rw [e] at hb;exact Ah _ hb
 ·rw [e] at hb
  unfold frs at hb;rw [CW,hf] at hb;exact hb
def Inv.stkFree (I:Inv X pins σ H s):∀ b∈frs X.stack,H b=none:=λb hb=>by
 rcases AA.mp (I.stkSub b hb) with e|hb
 ·rw [e];exact I.free
 ·obtain ⟨_,o,ho,_⟩:=I.ok.funs.mem hb
  exact I.base.free b o ho (I.ok.frf b hb) λz=>I.ok.exfs b z hb
def Inv.step {g':Array GenState}{t':Nat}{d':Drawn}{ch:List Addr}(I:Inv X pins σ H s)
  (hch:∀ b∈ch,(b∈X.ex\/X.s₀.heap.objs.size<=b)/\b≠X.env.locals/\(∀ x c,X.env.cells.lookup x=some c->c≠b)/\∀ p∈X.pn++pins,p.1≠b)
  (keep:∀ b o,b≠X.env.locals->b∉X.fs->b∉ch->s.heap.get? b=some o->H b=none->h'.get? b=some o)
  (slot:∀ b o,b≠X.env.locals->b∈X.fs->b∉ch->s.heap.get? b=some o->H b=none->∃ sl,h'.get? b=some { o with slots:=sl }) (free:∀ b o,b∉ch->s.heap.get? b=some o->H b=none->H' b=none)
  (there:∀ b o,b∉ch->s.heap.get? b=some o->∃ o',h'.get? b=some o')
  (tups:∀ b xs,H b=some (.tup xs)->H' b=some (.tup xs)) (frzs:∀ b o u,H b=some (.frz o u)->H' b=some (.frz o u)) (tbls:∀ b ps,H b=some (.tbl ps)->∃ more,H' b=some (.tbl (ps++more)))
  (ns:∀ m,s.heap.Ns X.env.locals m->h'.Ns X.env.locals m) (hok:HOk X.prog X.w H' h') (hg:AllBare g') :
  Inv X pins σ H' { s with heap:=h',gens:=g',drawn:=d',toks:=t' }:=by
 have neL:∀ b o,X.s₀.heap.get? b=some o->b≠X.env.locals:=λb o e=>As (AV (Aq e) I.ok.above);have neC:∀ b o,X.s₀.heap.get? b=some o->b∉X.ex->b∉ch:=λb o e hx hb=>by
  rcases (hch b hb).1 with z|z
  ·exact hx z
  ·exact absurd (AV (Aq e) z) (CA _)
 have cellK:∀ x c,X.env.cells.lookup x=some c->∀ v,s.heap.IsCell c v->h'.IsCell c v:=λx c e v ⟨o,ho,hd⟩=>by
  have nch:c∉ch:=λz=>(hch c z).2.2.1 x c e rfl
  by_cases hc:c∈X.fs
  ·obtain ⟨sl,q⟩:=slot c o (I.cne x c e) hc nch ho (I.freeC x c e)
   exact ⟨_,q,hd⟩
  ·exact ⟨o,keep c o (I.cne x c e) hc nch ho (I.freeC x c e),hd⟩
 refine ⟨I.ok,I.os,hg,⟨λb o e n hb hx=>?_,λb o e n hb hx=>?_,λb o e n hx=>?_,λb o e hx=>?_,λb xs e=>tups b xs (I.base.tups b xs e),λb o xs e=>frzs b o xs (I.base.frzs b o xs e),λb ps e=>?_⟩,?_,λx c e=>?_,?_,λx c e=>?_,λp hp=>?_,hok,I.len⟩
 ·exact keep b o (neL b o e) hb (neC b o e hx) (I.base.keep b o e n hb hx) (I.base.free b o e n hx)
 ·obtain ⟨sl,e1⟩:=I.base.slot b o e n hb hx
  obtain ⟨sl',e2⟩:=slot b _ (neL b o e) hb (neC b o e hx) e1 (I.base.free b o e n hx);exact ⟨sl',e2⟩
 ·obtain ⟨o',e1⟩:=I.base.there b o e hx
  exact free b o' (neC b o e hx) e1 (I.base.free b o e n hx)
 ·obtain ⟨o',e1⟩:=I.base.there b o e hx
  exact there b o' (neC b o e hx) e1
 ·obtain ⟨m1,e1⟩:=I.base.tbls b ps e
  obtain ⟨m2,e2⟩:=tbls b _ e1;exact ⟨m1++m2,by rw [e2,Array.append_assoc]⟩
 ·obtain ⟨m,hn,hl⟩:=I.loc
  refine ⟨m,ns m hn,λi x v e1 e2 e3=>?_⟩;obtain ⟨u,r,l⟩:=hl i x v e1 e2 e3;refine ⟨u,r,?_⟩
  rcases l with l|⟨k,c,e,z⟩
  ·exact .inl l
  ·exact .inr ⟨k,c,e,cellK x c e _ z⟩
 ·obtain ⟨v,z⟩:=I.cell x c e
  exact ⟨v,cellK x c e v z⟩
 ·obtain ⟨m,⟨o,_,_,ho,_⟩,_⟩:=I.loc
  exact free _ o (λz=>(hch _ z).2.1 rfl) ho I.free
 ·obtain ⟨v,o,ho,hd⟩:=I.cell x c e
  exact free c o (λz=>(hch c z).2.2.1 x c e rfl) ho (I.freeC x c e)
 ·obtain ⟨e,n,ne,nf,d⟩:=I.pin p hp
  have nch:p.1∉ch:=λz=>(hch p.1 z).2.2.2 p hp rfl;exact ⟨keep p.1 p.2 ne nf nch e n,free p.1 p.2 nch e n,ne,nf,d⟩
def Inv.un {t':Nat}(I:Inv X pins σ H s)(u:Un X.fs [] H H' s.heap h')(hok:HOk X.prog X.w H' h'):Inv X pins σ H' { s with heap:=h',toks:=t' }:=by
 obtain ⟨m,⟨o,es,ep,ho,r⟩,_⟩:=id I.loc;obtain ⟨sl,hL⟩:=u.any ho I.free (by simp);exact I.step (g':=s.gens) (d':=s.drawn) (ch:=[]) (λ_ z=>nomatch z) (λb o _ hb _ e n=>u.keep b o e n hb (by simp)) (λb o _ hb _ e n=>u.slot b o e n hb (by simp)) (λb o _ e n=>u.free b o e n (by simp)) (λb o _ e=>u.there b o e (by simp)) u.tups u.frzs u.tbls (λm' hm=>by
  obtain ⟨o',es',ep',ho',r'⟩:=hm;rw [ho] at ho';cases ho';exact ⟨_,es',ep',hL,r'⟩) hok I.bare
def Inv.call {g':Array GenState}{t':Nat}{d':Drawn}{ch:List Addr}(I:Inv X pins σ H s)(u:Un (frs X.stack) ch H H' s.heap h')(hok:HOk X.prog X.w H' h')(hg:AllBare g')
  (hch:∀ b∈ch,(b∈X.ex\/X.s₀.heap.objs.size<=b)/\b≠X.env.locals/\(∀ x c,X.env.cells.lookup x=some c->c≠b)/\∀ p∈X.pn++pins,p.1≠b) :
  Inv X pins σ H' { s with heap:=h',gens:=g',drawn:=d',toks:=t' }:=by
 obtain ⟨m,⟨o,es,ep,ho,r⟩,_⟩:=id I.loc;obtain ⟨sl,hL⟩:=u.any ho I.free λz=>(hch _ z).2.1 rfl;exact I.step (ch:=ch) hch (λb o hL hb hc e n=>u.keep b o e n (λz=>(AA.mp (I.stkSub b z)).elim hL hb) hc) (λb o _ _ hc e n=>u.any e n hc) (λb o hc e n=>u.free b o e n hc) (λb o hc e=>u.there b o e hc) u.tups u.frzs u.tbls (λm' hm=>by
  obtain ⟨o',es',ep',ho',r'⟩:=hm;rw [ho] at ho';cases ho';exact ⟨_,es',ep',hL,r'⟩) hok hg
def Inv.turned {t':Nat}{it:Addr}(I:Inv X pins σ H s)(k:∀ b o,b≠it->s.heap.get? b=some o->h'.get? b=some o)(hn:H it=none)(hL:it≠X.env.locals)
  (h1:it∈X.ex\/X.s₀.heap.objs.size<=it) (h2:∀ x c,X.env.cells.lookup x=some c->c≠it) (h3:∀ p∈X.pn++pins,p.1≠it):Inv X pins σ H { s with heap:=h',toks:=t' }:=by
 have nit:∀ b u,H b=some u->b≠it:=λb u e z=>by rw [z,hn] at e;cases e
 refine I.step (g':=s.gens) (d':=s.drawn) (ch:=[it]) (λb hb=>?_) (λb o _ _ hc e _=>k b o (λz=>hc (by simp [z])) e) (λb o _ _ hc e _=>⟨o.slots,k b o (λz=>hc (by simp [z])) e⟩) (λ_ _ _ _ n=>n)
  (λb o hc e=>⟨o,k b o (λz=>hc (by simp [z])) e⟩) (λ_ _ e=>e) (λ_ _ _ e=>e) (λb ps e=>⟨#[],by rw [e];simp⟩) (λm hm=>?_) (λb u e=>?_) I.bare
 ·have e:b=it:=by simpa using hb
  subst e;exact ⟨h1,hL,h2,h3⟩
 ·obtain ⟨o,es,ep,ho,r⟩:=hm
  exact ⟨o,es,ep,k _ o (Bg hL) ho,r⟩
 ·refine (I.hok b u e).stay (λc v hc q=>k c v ?_ q) (λ_ q=>q) λ_ _ q=>q
  rcases hc with z|z
  ·rw [z];exact nit b u e
  ·exact nit c _ z
def Inv.tok (I:Inv X pins σ H s)(t:Nat):Inv X pins σ H { s with toks:=t }:=I.un (h':=s.heap) (t':=t) Un.refl I.hok
def Inv.kept {t':Nat}(I:Inv X pins σ H s)(k:∀ b u,s.heap.get? b=some u->h'.get? b=some u):Inv X pins σ H { s with heap:=h',toks:=t' }:=I.un (Un.kept k) (I.hok.kept k)
theorem Inv.laid {t':Nat}(I:Inv X pins σ H s)(k:∀ b u,s.heap.get? b=some u->h'.get? b=some u)(hp:s.heap.objs.size<=a)(new:ObjOk X.prog X.w (upd H a o) h' a o) :
  Inv X pins σ (upd H a o) { s with heap:=h',toks:=t' }:=I.un (Un.laid k hp (I.hok.fresh hp)) (I.hok.laid k hp new)
def Inv.write {t':Nat}(I:Inv X pins σ H s)(mu:Mut (H x))(he:e=x\/H e=some (.own x))(k:∀ b u,b≠e->s.heap.get? b=some u->h'.get? b=some u)(heo:∃ u,h'.get? e=some u)(new:ObjOk X.prog X.w (upd H x o) h' x o):Inv X pins σ (upd H x o) { s with heap:=h',toks:=t' }:=I.un (Un.write mu he k heo) (I.hok.write mu he k heo new)
def Inv.weak {σ':List (Option V)}(I:Inv X pins σ H s)(hl:σ'.length=σ.length)(w:∀ (i:Nat) v,σ'[i]?=some (some v)->σ[i]?=some (some v)):Inv X pins σ' H s:=
 ⟨I.ok,I.os,I.bare,I.base,let ⟨m,hn,hl'⟩:=I.loc;⟨m,hn,λi x v e1 e2 e3=>hl' i x v e1 (w i v e2) e3⟩,I.cell,I.free,I.freeC,I.pin,I.hok,hl.trans I.len⟩
def Inv.pins_of (I:Inv X pins σ H s)(h:∀ p∈pins',s.heap.get? p.1=some p.2/\H p.1=none/\p.1≠X.env.locals/\p.1∉X.fs/\∀ v,p.2.data≠.cell v):Inv X pins' σ H s:=
 ⟨I.ok,I.os,I.bare,I.base,I.loc,I.cell,I.free,I.freeC,λp hp=>(Bh.mp hp).elim (λz=>I.pin p (List.mem_append_left _ z)) (h p),I.hok,I.len⟩
def rO {N:List Str}(hN:N.Nodup){i j:Nat}{x:Str}(a:N[i]?=some x)(b:N[j]?=some x):i=j:=by
 obtain ⟨h1,e1⟩:=Ae.mp a;obtain ⟨h2,e2⟩:=Ae.mp b;exact (List.getElem_inj hN).mp (e1.trans e2.symm)
def vA {M:Model}{A:Around}{E:Value->Shared->Prop}{i:Nat}{x:Str}{v:V}{u:Value}{Q:Unit->Shared->Prop}(I:Inv X pins σ H s)(hN:X.N.Nodup)(hi:X.N[i]?=some x)(hx:Loc X.env.scope x)(r:RelV v u)
  (h:∀ s',Inv X pins (σ.set i (some v)) H s'->(∃ a,Cj a s.heap s'.heap/\(a=X.env.locals\/X.env.cells.lookup x=some a))->Q () s') (hf:X.fn x=true\/X.env.scope.names.lookup x=some .local:=by first|exact .inl rfl|exact .inr rfl|assumption):wpAny M A (storeName X.env x u) Q E s:=by
 obtain ⟨m,hn,hl⟩:=id I.loc;have hcls:(X.env.scope.kind==.class||(X.env.scope.kind==.module&&X.env.locals != X.env.globals))=false:=by rw [I.ok.kind];rfl
 have hiσ:i<σ.length:=by rw [I.len];exact (Ae.mp hi).1
 have cne:=I.cne;have tracked:∀ {a:Addr} {h':Heap},(∃ o,s.heap.get? a=some o/\H a=none)->Cj a s.heap h'->HOk X.prog X.w H h':=λ{a h'} ha hs b ob e=>by
  obtain ⟨_,_,hfree⟩:=ha;refine (I.hok b ob e).stay (λc w' hc q=>(hs.2 c ?_).trans q) (λ_ q=>q) λ_ _ q=>q
  rintro rfl
  rcases hc with rfl|hc
  ·rw [hfree] at e;cases e
  ·rw [hfree] at hc;cases hc
 rcases hx with hk|hk
 ·refine wpAny_storeName_local hk hn (λh' hn' hs=>?_) hcls
  obtain ⟨oL,_,_,hoL,_⟩:=id hn;refine h _ ⟨I.ok,I.os,I.bare,⟨λb o e n hb hx=>?_,λb o e n hb hx=>?_,I.base.free,λb o e hx=>?_,I.base.tups,I.base.frzs,I.base.tbls⟩,⟨_,hn',λj y v' e1 e2 e3=>?_⟩,λy c e=>?_,I.free,I.freeC,λp hp=>?_,tracked ⟨oL,hoL,I.free⟩ hs,by simpa using I.len⟩ ⟨_,hs,.inl rfl⟩
  ·exact (hs.2 b (As (AV (Aq e) I.ok.above))).trans (I.base.keep b o e n hb hx)
  ·obtain ⟨sl,e1⟩:=I.base.slot b o e n hb hx
   exact ⟨sl,(hs.2 b (As (AV (Aq e) I.ok.above))).trans e1⟩
  ·obtain ⟨o',e1⟩:=I.base.there b o e hx
   exact ⟨o',(hs.2 b (As (AV (Aq e) I.ok.above))).trans e1⟩
  ·by_cases hj:j=i
   ·subst hj
    rw [hi] at e1;cases e1;rw [CY hiσ] at e2;cases e2;exact ⟨u,r,.inl ⟨hk,by simp⟩⟩
   ·rw [Cq (Bg hj)] at e2
    obtain ⟨u',r',q⟩:=hl j y v' e1 e2 e3;refine ⟨u',r',?_⟩
    rcases q with ⟨k,e⟩|⟨k,c,e,z⟩
    ·refine .inl ⟨k,?_⟩
     have:y≠x:=λe=>hj (rO hN e1 (e▸hi));simp [this,e]
    ·exact .inr ⟨k,c,e,z.sameBut hs (cne y c e)⟩
  ·obtain ⟨w',z⟩:=I.cell y c e
   exact ⟨w',z.sameBut hs (cne y c e)⟩
  ·obtain ⟨e,n,ne,nf,d⟩:=I.pin p hp
   exact ⟨(hs.2 p.1 ne).trans e,n,ne,nf,d⟩
 ·have hfn:X.fn x=true:=by
   rcases hf with z|z
   ·exact z
   ·rw [z] at hk;cases hk
  obtain ⟨c,hc⟩:=I.ok.has x (.inl hk);obtain ⟨w',z⟩:=I.cell x c hc;refine wpAny_storeName_cell I.ok.kind hk hc z (λh' hc' hs=>?_);obtain ⟨oc,hoc,hocd⟩:=id z;refine h { s with heap:=h' } ⟨I.ok,I.os,I.bare,⟨λb o e n hb hx=>?_,λb o e n hb hx=>?_,I.base.free,λb o e hx=>?_,I.base.tups,I.base.frzs,I.base.tbls⟩,⟨m,hn.sameBut hs (Bg (cne x c hc)),λj y v' e1 e2 e3=>?_⟩,λy c' e=>?_,I.free,I.freeC,λp hp=>?_,tracked ⟨oc,hoc,I.freeC x c hc⟩ hs,by simpa using I.len⟩ ⟨c,hs,.inr hc⟩
  ·exact (hs.2 b (As (AV (Aq e) (I.ok.cab x c hfn hc)))).trans (I.base.keep b o e n hb hx)
  ·obtain ⟨sl,e1⟩:=I.base.slot b o e n hb hx
   exact ⟨sl,(hs.2 b (As (AV (Aq e) (I.ok.cab x c hfn hc)))).trans e1⟩
  ·obtain ⟨o',e1⟩:=I.base.there b o e hx
   exact ⟨o',(hs.2 b (As (AV (Aq e) (I.ok.cab x c hfn hc)))).trans e1⟩
  ·by_cases hj:j=i
   ·subst hj
    rw [hi] at e1;cases e1;rw [CY hiσ] at e2;cases e2;exact ⟨u,r,.inr ⟨.inl hk,c,hc,hc'⟩⟩
   ·rw [Cq (Bg hj)] at e2
    obtain ⟨u',r',q⟩:=hl j y v' e1 e2 e3;refine ⟨u',r',?_⟩
    rcases q with q|⟨k,c',e,z'⟩
    ·exact .inl q
    ·refine .inr ⟨k,c',e,z'.sameBut hs ?_⟩
     rintro rfl
     exact hj (rO hN e1 (I.ok.inj _ _ _ e hc▸hi))
  ·by_cases hcc:c'=c
   ·subst hcc;exact ⟨_,hc'⟩
   ·obtain ⟨w2,z2⟩:=I.cell y c' e
    exact ⟨w2,z2.sameBut hs hcc⟩
  ·obtain ⟨e,n,ne,nf,d⟩:=I.pin p hp
   refine ⟨(hs.2 p.1 ?_).trans e,n,ne,nf,d⟩;intro q;rw [q,hoc] at e;have q':oc=p.2:=AG e;exact d w' (by rw [<- q'];exact hocd)
def iH {i:Nat}(I:Inv X pins σ H s)(hN:X.N.Nodup)(hi:X.N[i]?=some x)(hx:Loc X.env.scope x)(r:RelV v u)(h:∀ s',Inv X pins (σ.set i (some v)) H s'->Q () s')(hf:X.fn x=true\/X.env.scope.names.lookup x=some .local:=by first|exact .inl rfl|exact .inr rfl|assumption):wpAny M A (storeName X.env x u) Q E s:=
 vA I hN hi hx r (λs' I' _=>h s' I') hf
def Inv.call' (I:Inv X pins σ H s)(ho:s'.os=s.os)(u:Un (frs X.stack) ch H H' s.heap s'.heap)(hok:HOk X.prog X.w H' s'.heap)(hg:AllBare s'.gens)(hch:∀ b∈ch,(b∈X.ex\/X.s₀.heap.objs.size<=b)/\b≠X.env.locals/\(∀ x c,X.env.cells.lookup x=some c->c≠b)/\∀ p∈X.pn++pins,p.1≠b):Inv X pins σ H' s':=by
 obtain ⟨h',g',d',t',o'⟩:=s';have e:o'=s.os:=ho;subst e;exact I.call (g':=g') (t':=t') (d':=d') u hok hg hch
end
abbrev XK:=Value->Option Addr->Hp->Prop
abbrev St:=List (Option V)
abbrev VK:=V->Hp->Prop
abbrev TE:=St->Hp->VK->Prop
abbrev TT:=St->Hp->(Bool->Hp->Prop)->Prop
abbrev TA:=St->Hp->(List V->Hp->Prop)->Prop
structure Ends where
 nx:St->Hp->Prop
 rt:VK
 bk:St->Hp->Prop:=λ_ _=>False
 ct:St->Hp->Prop:=λ_ _=>False
abbrev TS:=Ends->St->Hp->Prop
def EP (X:Cx)(pins:List (Addr×Obj))(σ:St)(Q:VK)(u:Value)(s':Shared):Prop:=∃ v H',Inv X pins σ H' s'/\RelV v u/\Q v H'
def TP (X:Cx)(pins:List (Addr×Obj))(σ:St)(Q:Bool->Hp->Prop)(b:Bool)(s':Shared):Prop:=∃ H',Inv X pins σ H' s'/\Q b H'
def AP (X:Cx)(pins:List (Addr×Obj))(σ:St)(Q:List V->Hp->Prop)(us:List Value)(s':Shared):Prop:=∃ vs H',Inv X pins σ H' s'/\Vals vs us/\Q vs H'
def SP (X:Cx)(pins:List (Addr×Obj))(D:Ends)(f:Flow)(s':Shared):Prop:=
 match f with
 |.next=>∃ σ' H',Inv X pins σ' H' s'/\D.nx σ' H'
 |.brk=>∃ σ' H',Inv X pins σ' H' s'/\D.bk σ' H'
 |.cont=>∃ σ' H',Inv X pins σ' H' s'/\D.ct σ' H'
 |.ret u=>∃ v σ' H',Inv X pins σ' H' s'/\RelV v u/\D.rt v H'
def PE (X:Cx)(e:Expr)(t:TE):Prop:=
 ∀ (pins:List (Addr×Obj)) (s:Shared) (σ:St) (H:Hp) (Q:VK),Inv X pins σ H s->t σ H Q->wpAny (model X.prog X.w) X.A (eval e X.env) (EP X pins σ Q) X.xe s
def PT (X:Cx)(e:Expr)(t:TT):Prop:=
 ∀ (pins:List (Addr×Obj)) (s:Shared) (σ:St) (H:Hp) (Q:Bool->Hp->Prop),Inv X pins σ H s->t σ H Q->wpAny (model X.prog X.w) X.A (isTrue e X.env (eval e X.env)) (TP X pins σ Q) X.xe s
def PW (X:Cx)(e:Expr)(t:TT):Prop:=
 ∀ (whole:Sem Value) (pins:List (Addr×Obj)) (s:Shared) (σ:St) (H:Hp) (Q:Bool->Hp->Prop),Inv X pins σ H s->t σ H Q->wpAny (model X.prog X.w) X.A (isTrue e X.env whole) (TP X pins σ Q) X.xe s
def PW.pt (h:PW X e t):PT X e t:=h _
def PA (X:Cx)(es:List Expr)(t:TA):Prop:=
 ∀ (pos:Pos) (pins:List (Addr×Obj)) (s:Shared) (σ:St) (H:Hp) (Q:List V->Hp->Prop),Inv X pins σ H s->t σ H Q->wpAny (model X.prog X.w) X.A (spliced (backTo pos (AQ es X.env))) (AP X pins σ Q) X.xe s
def PS (X:Cx)(st:Stmt)(t:TS):Prop:=
 ∀ (pins:List (Addr×Obj)) (s:Shared) (σ:St) (H:Hp) (D:Ends),Inv X pins σ H s->t D σ H->wpAny (model X.prog X.w) X.A (exec st X.env) (SP X pins D) X.xe s
def PSs (X:Cx)(st:List Stmt)(t:TS):Prop:=
 ∀ (pins:List (Addr×Obj)) (s:Shared) (σ:St) (H:Hp) (D:Ends),Inv X pins σ H s->t D σ H->wpAny (model X.prog X.w) X.A (execs st X.env) (SP X pins D) X.xe s
def thn {α:Type}{t:Sem α}{Q Q':α->Shared->Prop}{M:Model}{A:Around}{E:Value->Shared->Prop}{s:Shared}(h:wpAny M A t Q E s)(hQ:∀ a s,Q a s->Q' a s):wpAny M A t Q' E s:=BX h hQ λ_ _ x=>x
section
variable {X:Cx}
def bin {a b:Expr}{ta tb:TE}(ha:PE X a ta)(hb:PE X b tb){pins:List (Addr×Obj)}{s:Shared}{σ:St}{H:Hp}{R:V->V->Hp->Prop}(I:Inv X pins σ H s)(h:ta σ H λx H1=>tb σ H1 λy H2=>R x y H2)
  {α:Type} {Q:α->Shared->Prop} {f:Value->Value->Sem α}
  (hf:∀ v u s2 x y H2,Inv X pins σ H2 s2->RelV x v->RelV y u->R x y H2->wpAny (model X.prog X.w) X.A (f v u) Q X.xe s2) :
  wpAny (model X.prog X.w) X.A (eval a X.env) (λv s₁=>wpAny (model X.prog X.w) X.A (eval b X.env) (λu s₂=>wpAny (model X.prog X.w) X.A (f v u) Q X.xe s₂) X.xe s₁) X.xe s:=by
 refine thn (ha pins s σ H _ I h) λv s1 ⟨x,H1,I1,r1,q1⟩=>?_;refine thn (hb pins s1 σ H1 _ I1 q1) λu s2 ⟨y,H2,I2,r2,q2⟩=>?_;exact hf v u s2 x y H2 I2 r1 r2 q2
inductive RVar (i:Nat)(σ:St)(H:Hp)(Q:VK):Prop
 |mk (v:V) (e:σ[i]?=some (some v)) (h:Q v H)
def tVar (i:Nat):TE:=RVar i
def tC (v:V):TE:=λ_ H Q=>Q v H
def aCt {i:Nat}(hN:X.N[i]?=some x)(hv:Vis X.env.scope x)(hd:(x==("__debug__":Str))=false:=by decide)(hcd:(x==("__classdict__":Str))=false:=by decide):PE X (.Name x pos) (tVar i):=by
 intro pins s σ H Q I h;obtain ⟨v,e,h⟩:=h;obtain ⟨m,hn,hl⟩:=I.loc;obtain ⟨u,r,l⟩:=hl i x v hN e hv;have fin:EP X pins σ Q u s:=⟨v,H,I,r,h⟩
 rcases l with ⟨hk,hm⟩|⟨hk,c,hc,hcell⟩
 ·exact wpAny_Name (wpAny_loadName_local I.ok.kind hk hn hm fin) hd
 ·rcases hk with hk|hk
  ·exact wpAny_Name (wpAny_loadName_cell I.ok.kind hk hc hcell fin) hd
  ·exact wpAny_Name (wpAny_loadName_free I.ok.kind hk hc hcell fin hcd) hd
def aH {i j pos}:PE X (.Constant (.int i) j pos) (tC (.int i)):=λ_ _ _ H _ I h=>wpAny_Constant_int ⟨.int i,H,I.tok _,⟨_,rfl⟩,h⟩
def fP {b j pos}:PE X (.Constant (.bool b) j pos) (tC (.bl b)):=λ_ _ _ H _ I h=>Constant_bool ⟨.bl b,H,I,rfl,h⟩
def dO {j pos}:PE X (.Constant .none j pos) (tC .non):=λ_ _ _ H _ I h=>Constant_none ⟨.non,H,I,rfl,h⟩
def aT {x j pos}:PE X (.Constant (.str x) j pos) (tC (.str x)):=λ_ _ _ H _ I h=>Calls.Constant_str ⟨.str x,H,I.tok _,⟨_,rfl⟩,h⟩
def Gl (X:Cx)(x:Str):Prop:=X.env.kindOf x=some .globalImplicit
def fR {σ:St}(I:Inv X pins σ H s)(hg:Gl X x)(hm:X.mg x=some u)(h:Q u s)(hd:(x==("__debug__":Str))=false:=by decide):wpAny (model X.prog X.w) X.A (eval (.Name x pos) X.env) Q E s:=
 Calls.Name_function_global I.ok.kind hg (Calls.loadGlobal_global (by rw [I.ok.glob];exact I.mod.glob.keeps I.bk) hm h) hd
def fS {σ:St}(I:Inv X pins σ H s)(hg:Gl X x)(hm:X.mg x=none)(hv:Ce x=some u)(h:Q u s)(hn:x ≠ "__name__":=by decide)(hd:(x==("__debug__":Str))=false:=by decide):wpAny (model X.prog X.w) X.A (eval (.Name x pos) X.env) Q E s:=by
 obtain ⟨mb,h1,h2⟩:=I.mod.blt;exact Calls.Name_function_global I.ok.kind hg (Calls.loadGlobal_builtin (by rw [I.ok.glob];exact I.mod.glob.keeps I.bk) hm (by rw [I.ok.blt];exact h1.keeps I.bk) ((h2 x hn).trans hv) h) hd
def fB (hg:Gl X x)(hm:X.mg x=some u)(r:RelV v u)(hd:(x==("__debug__":Str))=false:=by decide):PE X (.Name x pos) (tC v):=
 λ_ _ _ H _ I h=>fR I hg hm ⟨v,H,I,r,h⟩ hd
def eS (hg:Gl X x)(hm:X.mg x=none)(hv:Ce x=some u)(r:RelV v u)(hn:x ≠ "__name__":=by decide)(hd:(x==("__debug__":Str))=false:=by decide):PE X (.Name x pos) (tC v):=
 λ_ _ _ H _ I h=>fS I hg hm hv ⟨v,H,I,r,h⟩ hn hd
def t2I (ta tb:TE)(k:Int->Int->Hp->Prop):St->Hp->Prop:=λσ H=>ta σ H λx H1=>tb σ H1 λy H2=>∃ i j,x=.int i/\y=.int j/\k i j H2
def tAdd (ta tb:TE):TE:=λσ H Q=>t2I ta tb (λi j H2=>Q (.int (i+j)) H2) σ H
def tSub (ta tb:TE):TE:=λσ H Q=>t2I ta tb (λi j H2=>Q (.int (i-j)) H2) σ H
def tMul (ta tb:TE):TE:=λσ H Q=>t2I ta tb (λi j H2=>(-(2^64)<i/\i<2^64)/\Q (.int (i*j)) H2) σ H
variable {a b:Expr}{ta tb:TE}{pos:Pos}
def PC (X:Cx)(op:CmpOp)(a b:Expr)(t:TE):Prop:=
 ∀ (pins:List (Addr×Obj)) (s:Shared) (σ:St) (H:Hp) (Q:VK),Inv X pins σ H s->t σ H Q ->
  wpAny (model X.prog X.w) X.A (eval a X.env) (λv s₁=>wpAny (model X.prog X.w) X.A (eval b X.env) (λu s₂=>wpAny (model X.prog X.w) X.A (Bl op v u) (EP X pins σ Q) X.xe s₂) X.xe s₁) X.xe s
def tCmp (p:Int->Int->Bool)(ta tb:TE):TE:=λσ H Q=>t2I ta tb (λi j H2=>Q (.bl (p i j)) H2) σ H
abbrev tLt:TE->TE->TE:=tCmp λi j=>decide (i<j)
abbrev tLe:TE->TE->TE:=tCmp λi j=>decide (i<=j)
abbrev tGt:TE->TE->TE:=tCmp λi j=>decide (j<i)
abbrev tGe:TE->TE->TE:=tCmp λi j=>decide (j<=i)
abbrev tEqI:TE->TE->TE:=tCmp λi j=>decide (i=j)
abbrev tNeI:TE->TE->TE:=tCmp λi j=>!decide (i=j)
def tIsN (ta:TE):TE:=λσ H Q=>ta σ H λx H1=>Q (.bl (decide (x=.non))) H1
def tNotN (ta:TE):TE:=λσ H Q=>ta σ H λx H1=>Q (.bl (!decide (x=.non))) H1
inductive RB (Q:Bool->Hp->Prop)(x:V)(H:Hp):Prop
 |mk (c:Bool) (e:x=.bl c) (h:Q c H)
def tB (t:TE):TT:=λσ H Q=>t σ H (RB Q)
def pt_cmp {op:CmpOp}{t:TE}(h:PC X op a b t)(h1:behindInMarks op b=false:=by first|exact nobehind _ (by decide) (by decide)|rfl):PT X (.Compare a [op] [b] pos) (tB t):=by
 intro pins s σ H Q I hw;refine wpAny_isTrue_Compare1 (thn (h pins s σ H _ I hw) λv s1 h1=>thn h1 λu s2 h2=>thn h2 λc s3 ⟨x,H1,I1,r1,q1⟩=>?_) h1;obtain ⟨d,rfl,q⟩:=q1;cases r1;exact Dy ⟨H1,I1,q⟩
def dA {e:Expr}{t:TE}(h:PE X e t)(he:∀ whole,isTrue e X.env whole=(do let v <- whole;standAt e.pos;holding [v] (truthy v)):=by intro _;rfl):PT X e (tB t):=by
 intro pins s σ H Q I hw;refine isTrue_plain (thn (h pins s σ H _ I hw) λv s1 ⟨x,H1,I1,r1,q1⟩=>?_) (he _);obtain ⟨d,rfl,q⟩:=q1;cases r1;exact Dy ⟨H1,I1,q⟩
variable {tA tB':TT}{rest:List Expr}
def tAnd (t u:TT):TT:=λσ H Q=>t σ H λc H1=>if c=true then u σ H1 Q else Q false H1
def tOr (t u:TT):TT:=λσ H Q=>t σ H λc H1=>if c=true then Q true H1 else u σ H1 Q
def tNot (t:TT):TT:=λσ H Q=>t σ H λc H1=>Q (!c) H1
def hV (ha:PT X a tA):PW X (.BoolOp .And [a] pos) tA:=by
 intro wh pins s σ H Q I h;refine isTrue_and (thn (ha pins s σ H Q I h) λc s1 e=>?_);cases c with
 |true=>exact isTrue_and_nil e
 |false=>exact e
def fX (ha:PT X a tA):PW X (.BoolOp .Or [a] pos) tA:=by
 intro wh pins s σ H Q I h;refine isTrue_or (thn (ha pins s σ H Q I h) λc s1 e=>?_);cases c with
 |false=>exact isTrue_or_nil e
 |true=>exact e
def kJ (ha:PT X a tA)(hb:PW X (.BoolOp .And (b::rest) pos) tB'):PW X (.BoolOp .And (a::b::rest) pos) (tAnd tA tB'):=by
 intro wh pins s σ H Q I h;refine isTrue_and (thn (ha pins s σ H _ I h) λc s1 ⟨H1,I1,q1⟩=>?_);cases c with
 |true=>exact hb wh pins s1 σ H1 Q I1 q1
 |false=>exact ⟨H1,I1,q1⟩
def hU (ha:PT X a tA)(hb:PW X (.BoolOp .Or (b::rest) pos) tB'):PW X (.BoolOp .Or (a::b::rest) pos) (tOr tA tB'):=by
 intro wh pins s σ H Q I h;refine isTrue_or (thn (ha pins s σ H _ I h) λc s1 ⟨H1,I1,q1⟩=>?_);cases c with
 |true=>exact ⟨H1,I1,q1⟩
 |false=>exact hb wh pins s1 σ H1 Q I1 q1
def eB (ha:PT X a tA):PT X (.UnaryOp .Not a pos) (tNot tA):=by
 intro pins s σ H Q I h;exact isTrue_not (ha pins s σ H (λc H1=>Q (!c) H1) I h)
inductive RIf (x:V)(A B:Prop):Prop
 |mk (c:Bool) (e:x=.bl c) (h:if c=true then A else B)
def aIq (ta tb:TE):TE:=λσ H Q=>ta σ H λx H1=>RIf x (tb σ H1 Q) (Q (.bl false) H1)
def tOrV (ta tb:TE):TE:=λσ H Q=>ta σ H λx H1=>RIf x (Q (.bl true) H1) (tb σ H1 Q)
def aIk (ta:TE):TE:=λσ H Q=>ta σ H λx H1=>∃ c,x=.bl c/\Q (.bl (!c)) H1
def gK {op}(h:PE X a t):PE X (.BoolOp op [a] pos) t:=λpins s σ H Q I hw=>BoolOp_one (h pins s σ H Q I hw)
def iB (ha:PE X a ta)(hb:PE X (.BoolOp .And (b::rest) pos) tb):PE X (.BoolOp .And (a::b::rest) pos) (aIq ta tb):=by
 intro pins s σ H Q I h;refine BoolOp_and (thn (ha pins s σ H _ I h) λv s1 ⟨x,H1,I1,r1,q1⟩=>?_);obtain ⟨c,rfl,q1⟩:=q1;cases r1;refine Dy ?_;cases c with
 |true=>exact hb pins s1 σ H1 Q I1 q1
 |false=>exact ⟨.bl false,H1,I1,rfl,q1⟩
def aG1 (ha:PE X a ta)(hb:PE X (.BoolOp .Or (b::rest) pos) tb):PE X (.BoolOp .Or (a::b::rest) pos) (tOrV ta tb):=by
 intro pins s σ H Q I h;refine BoolOp_or (thn (ha pins s σ H _ I h) λv s1 ⟨x,H1,I1,r1,q1⟩=>?_);obtain ⟨c,rfl,q1⟩:=q1;cases r1;refine Dy ?_;cases c with
 |false=>exact hb pins s1 σ H1 Q I1 q1
 |true=>exact ⟨.bl true,H1,I1,rfl,q1⟩
def wI (ha:PE X a ta):PE X (.UnaryOp .Not a pos) (aIk ta):=by
 intro pins s σ H Q I h;refine UnaryOp_ (thn (ha pins s σ H _ I h) λv s1 ⟨x,H1,I1,r1,q1⟩=>?_);obtain ⟨c,rfl,q1⟩:=q1;cases r1;exact not_of (Dy ⟨.bl (!c),H1,I1,rfl,q1⟩)
def tIf (t:TT)(ta tb:TE):TE:=λσ H Q=>t σ H λc H1=>if c=true then ta σ H1 Q else tb σ H1 Q
def aA1 {c:Expr}(hc:PT X c tA)(ha:PE X a ta)(hb:PE X b tb):PE X (.IfExp c a b pos) (tIf tA ta tb):=by
 intro pins s σ H Q I h;refine wpAny_IfExp (thn (hc pins s σ H _ I h) λd s1 ⟨H1,I1,q1⟩=>?_);cases d with
 |true=>exact ha pins s1 σ H1 Q I1 q1
 |false=>exact hb pins s1 σ H1 Q I1 q1
end
def SqL (K:Ab)(H:Hp)(a:Addr)(xs:List V):Prop:=
 Rd H a (.lst xs) \/
  ∃ (o:Obj) (its:Array Value) (n:Nat),K.lookup a=some o/\o.cls=.type "list" /\ o.dict=none/\o.data=.seq its n/\its.size<=Au/\Vals xs its.toList
def SqT (K:Ab)(H:Hp)(a:Addr)(xs:List V):Prop:=
 Rd H a (.tup xs) \/
  ∃ (o:Obj) (its:Array Value) (n:Nat),K.lookup a=some o/\o.cls=.type "tuple" /\ o.data=.seq its n/\its.size<=Au/\Vals xs its.toList
def absV:Value->Option V
 |.none=>some .non
 |.bool b=>some (.bl b)
 |.int i _=>some (.int i)
 |.str x _=>some (.str x)
 |.bytes b _=>some (.byt b)
 |.float b _=>some (.flt b)
 |.ref a=>some (.ref a)
 |.type n=>some (.ty n)
 |_=>none
def RelV.abs (r:RelV x u):absV u=some x:=by
 cases x with
 |non=>cases r;rfl
 |bl _=>cases r;rfl
 |int _=>obtain ⟨t,rfl⟩:=r;rfl
 |str _=>obtain ⟨t,rfl⟩:=r;rfl
 |byt _=>obtain ⟨t,rfl⟩:=r;rfl
 |flt _=>obtain ⟨t,rfl⟩:=r;rfl
 |ref _=>cases r;rfl
 |ty _=>cases r;rfl
theorem RelV.inj (r:RelV x u)(q:RelV y u):x=y:=AG (r.abs.symm.trans q.abs)
theorem Vals.inj:∀ {xs ys:List V} {us:List Value},Vals xs us->Vals ys us->xs=ys
 |_,_,_,.nil,.nil=>rfl
 |_,_,_,.cons r t,.cons r' t'=>by rw [r.inj r',Vals.inj t t']
section
variable {X:Cx}{pins:List (Addr×Obj)}{σ:St}{H:Hp}{s:Shared}{a:Addr}{xs ys:List V}
def SqL.of {K:Ab}(h:H a=some (.lst xs)):SqL K H a xs:=.inl (.inl h)
def SqT.of {K:Ab}(h:H a=some (.tup xs)):SqT K H a xs:=.inl (.inl h)
def Inv.list (I:Inv X pins σ H s)(h:SqL X.K H a xs):∃ its:List Value,Vals xs its/\PlainL s.heap a its.toArray/\xs.length<=Au:=by
 rcases h with h|⟨o,its,n,hk,hc,hd,hs,hz,r⟩
 ·obtain ⟨z,its,n,r,e⟩:=h.ok I.hok
  exact ⟨its,r,⟨_,n,e,rfl,rfl,rfl⟩,z⟩
 ·refine ⟨its.toList,r,⟨o,n,I.kIn a o hk,hc,hd,by simpa using hs⟩,?_⟩
  have e:=r.length;simp only [Bv] at e;omega
def Inv.tuple (I:Inv X pins σ H s)(h:SqT X.K H a xs):∃ its:List Value,Vals xs its/\IsTup s.heap a its.toArray/\xs.length<=Au:=by
 rcases h with h|⟨o,its,n,hk,hc,hs,hz,r⟩
 ·obtain ⟨z,its,r,p⟩:=h.ok I.hok
  exact ⟨its,r,p,z.1⟩
 ·refine ⟨its.toList,r,⟨o,I.kIn a o hk,hc,n,by simpa using hs⟩,?_⟩
  have e:=r.length;simp only [Bv] at e;omega
theorem Inv.list_inj (I:Inv X pins σ H s)(h:SqL X.K H a xs)(h':SqL X.K H a ys):xs=ys:=by
 obtain ⟨its,r,⟨o,n,e,_,_,d⟩,_⟩:=I.list h;obtain ⟨its',r',⟨o',n',e',_,_,d'⟩,_⟩:=I.list h';rw [e] at e';cases e';rw [d] at d';injection d' with d1 _;have:its=its':=by simpa using congrArg Array.toList d1
 subst this;exact r.inj r'
theorem Inv.tuple_inj (I:Inv X pins σ H s)(h:SqT X.K H a xs)(h':SqT X.K H a ys):xs=ys:=by
 obtain ⟨its,r,⟨o,e,_,n,d⟩,_⟩:=I.tuple h;obtain ⟨its',r',⟨o',e',_,n',d'⟩,_⟩:=I.tuple h';rw [e] at e';cases e';rw [d] at d';injection d' with d1 _;have:its=its':=by simpa using congrArg Array.toList d1
 subst this;exact r.inj r'
end
abbrev Cx.wish (X:Cx)(E:Value->Shared->Prop):Cx:={ X with xe:=E }
abbrev Cx.nox (X:Cx):Cx:=X.wish λ_ _=>False
def Cx.Ok.wish {X:Cx}(ok:X.Ok)(E:Value->Shared->Prop):(X.wish E).Ok:=
 ⟨ok.mod,ok.kind,ok.glob,ok.blt,ok.above,ok.inj,ok.has,ok.cab,ok.hd,ok.frames,ok.stk,ok.exf,ok.bs,ok.bsz,ok.noex,ok.exfs,ok.funs,ok.frf⟩
def Cx.Ok.unwish {X:Cx}{E:Value->Shared->Prop}(ok:(X.wish E).Ok):X.Ok:=
 ⟨ok.mod,ok.kind,ok.glob,ok.blt,ok.above,ok.inj,ok.has,ok.cab,ok.hd,ok.frames,ok.stk,ok.exf,ok.bs,ok.bsz,ok.noex,ok.exfs,ok.funs,ok.frf⟩
section
variable {X:Cx}{pins:List (Addr×Obj)}{σ:St}{H:Hp}{s:Shared}{E:Value->Shared->Prop}
def Inv.wish (I:Inv X pins σ H s)(E:Value->Shared->Prop):Inv (X.wish E) pins σ H s:=⟨I.ok.wish E,I.os,I.bare,I.base,I.loc,I.cell,I.free,I.freeC,I.pin,I.hok,I.len⟩
def Inv.unwish (I:Inv (X.wish E) pins σ H s):Inv X pins σ H s:=⟨I.ok.unwish,I.os,I.bare,I.base,I.loc,I.cell,I.free,I.freeC,I.pin,I.hok,I.len⟩
def SP.unwish (h:SP (X.wish E) pins D f s'):SP X pins D f s':=by
 cases f with
 |next=>obtain ⟨σ',H',I,q⟩:=h;exact ⟨σ',H',I.unwish,q⟩
 |brk=>obtain ⟨σ',H',I,q⟩:=h;exact ⟨σ',H',I.unwish,q⟩
 |cont=>obtain ⟨σ',H',I,q⟩:=h;exact ⟨σ',H',I.unwish,q⟩
 |ret u=>obtain ⟨v,σ',H',I,r,q⟩:=h;exact ⟨v,σ',H',I.unwish,r,q⟩
def PSs.nox {st:List Stmt}{t:TS}(h:PSs X.nox st t):PSs X st t:=λpins s σ H D I hw=>
 BX (h pins s σ H D (I.wish _) hw) (λ_ _ q=>q.unwish) λ_ _ z=>CH z
end
section
variable {X:Cx}{st:Stmt}{rest:List Stmt}{t u:TS}{e:Expr}{te:TE}{pos:Pos}
def aIl:TS:=λD σ H=>D.nx σ H
def tSeq (t u:TS):TS:=λD σ H=>t { D with nx:=u D } σ H
def aQ:PSs X [] aIl:=λ_ _ σ H _ I h=>Fq ⟨σ,H,I,h⟩
def aD (h1:PS X st t)(h2:PSs X rest u):PSs X (st::rest) (tSeq t u):=by
 intro pins s σ H D I h;refine wpAny_execs_cons (thn (h1 pins s σ H { D with nx:=u D } I h) λf s1 q=>?_);cases f with
 |next=>
  obtain ⟨σ',H',I',q⟩:=q;exact h2 pins s1 σ' H' D I' q
 |ret v=>exact q
 |brk=>exact q
 |cont=>exact q
def aE (h1:PS X st t):PSs X [st] t:=by
 intro pins s σ H D I h;refine wpAny_execs_cons (thn (h1 pins s σ H D I h) λf s1 q=>?_);cases f with
 |next=>exact Fq q
 |ret v=>exact q
 |brk=>exact q
 |cont=>exact q
def tBreak:TS:=λD σ H=>D.bk σ H
def tCont:TS:=λD σ H=>D.ct σ H
def Inv.quiet {σ:St}(I:Inv X pins σ H s):interactive X.env=false:=by simp [interactive,I.ok.kind]
def aF9 (te:TE):TS:=λD σ H=>te σ H λ_ H1=>D.nx σ H1
def dJ (he:PE X e te)(hs:swapsWith e none pos.line X.env=pure false:=by rfl):PS X (.Expr e pos) (aF9 te):=by
 intro pins s σ H D I h;exact wpAny_Expr_any (thn (he pins s σ H _ I h) λv s1 ⟨x,H1,I1,r1,q1⟩=>⟨σ,H1,I1,q1⟩) I.quiet hs
def tRet (te:TE):TS:=λD σ H=>te σ H D.rt
def aK (he:PE X e te):PS X (.Return (some e) pos) (tRet te):=by
 intro pins s σ H D I h;exact wpAny_Return_some (thn (he pins s σ H _ I h) λv s1 ⟨x,H1,I1,r1,q1⟩=>⟨x,σ,H1,I1,r1,q1⟩)
def tRetN:TS:=λD _ H=>D.rt .non H
def tIfS (c:TT)(t u:TS):TS:=λD σ H=>c σ H λb H1=>if b=true then t D σ H1 else u D σ H1
def bF {c:Expr}{a b:List Stmt}{tc:TT}(hc:PT X c tc)(ha:PSs X a t)(hb:PSs X b u):PS X (.If c a b pos) (tIfS tc t u):=by
 intro pins s σ H D I h;refine wpAny_If (thn (hc pins s σ H _ I h) λd s1 ⟨H1,I1,q1⟩=>?_);cases d with
 |true=>exact ha pins s1 σ H1 D I1 q1
 |false=>exact hb pins s1 σ H1 D I1 q1
def aF5:TS:=λ_ _ _=>False
def aAy:PS X st aF5:=λ_ _ _ _ _ _ h=>h.elim
end
abbrev TG:=V->St->Hp->(St->Hp->Prop)->Prop
abbrev TGs:=List V->St->Hp->(St->Hp->Prop)->Prop
def PG (X:Cx)(target:Expr)(t:TG):Prop:=
 ∀ (pins:List (Addr×Obj)) (s:Shared) (σ:St) (H:Hp) (v:V) (u:Value) (Q:St->Hp->Prop),Inv X pins σ H s->RelV v u->t v σ H Q ->
  wpAny (model X.prog X.w) X.A (assign target X.env u) (λ_ s'=>∃ σ' H',Inv X pins σ' H' s'/\Q σ' H') X.xe s
def PGs (X:Cx)(ts:List Expr)(t:TGs):Prop:=
 ∀ (pins:List (Addr×Obj)) (s:Shared) (σ:St) (H:Hp) (vs:List V) (us:List Value) (Q:St->Hp->Prop),Inv X pins σ H s->Vals vs us->t vs σ H Q ->
  wpAny (model X.prog X.w) X.A (assignInOrder ((assignEach ts X.env).map (·.2)) us) (λ_ s'=>∃ σ' H',Inv X pins σ' H' s'/\Q σ' H') X.xe s
abbrev TSet:=V->V->V->Hp->(Hp->Prop)->Prop
def PSet (X:Cx)(t:TSet):Prop:=
 ∀ (pins:List (Addr×Obj)) (s:Shared) (σ:St) (H:Hp) (o i v:V) (ov iv u:Value) (Q:Hp->Prop),Inv X pins σ H s->RelV o ov->RelV i iv->RelV v u->t o i v H Q ->
  wpAny (model X.prog X.w) X.A (setItem ov iv u) (λ_ s'=>∃ H',Inv X pins σ H' s'/\Q H') X.xe s
abbrev TIp:=V->V->Hp->VK->Prop
def PIp (X:Cx)(op:Operator)(t:TIp):Prop:=
 ∀ (pins:List (Addr×Obj)) (s:Shared) (σ:St) (H:Hp) (x y:V) (v u:Value) (Q:VK),Inv X pins σ H s->RelV x v->RelV y u->t x y H Q ->
  wpAny (model X.prog X.w) X.A (inplaceOp op v u) (EP X pins σ Q) X.xe s
section
variable {X:Cx}{pos:Pos}
def gName (i:Nat):TG:=λv σ H Q=>Q (σ.set i (some v)) H
def aS {i:Nat}(hN:X.N.Nodup)(hi:X.N[i]?=some x)(hx:Loc X.env.scope x)(hf:X.fn x=true\/X.env.scope.names.lookup x=some .local:=by first|exact .inl rfl|exact .inr rfl|assumption):PG X (.Name x pos) (gName i):=by
 intro pins s σ H v u Q I r h;exact wpAny_assign_Name (iH I hN hi hx r (λs' I'=>⟨_,H,I',h⟩) hf)
def gNil:TGs:=λvs σ H Q=>vs=[]/\Q σ H
inductive RGc (t:TG)(u:TGs)(vs:List V)(σ:St)(H:Hp)(Q:St->Hp->Prop):Prop
 |mk (v:V) (r:List V) (e:vs=v::r) (h:t v σ H λσ' H'=>u r σ' H' Q)
def qA (t:TG)(u:TGs):TGs:=RGc t u
def eF:PGs X [] gNil:=by
 intro pins s σ H vs us Q I r h;obtain ⟨e,h⟩:=h;subst e;cases r;exact assignInOrder_nil ⟨σ,H,I,h⟩
def bE {e:Expr}{es:List Expr}{t:TG}{u:TGs}(h1:PG X e t)(h2:PGs X es u)
  (hs:(assignEach (e::es) X.env).map (·.2)=assign e X.env::(assignEach es X.env).map (·.2):=by rfl):PGs X (e::es) (qA t u):=by
 intro pins s σ H vs us Q I r h;obtain ⟨v,vr,e1,h⟩:=h;subst e1;cases r with
 |cons r rr=>
  rw [hs];refine assignInOrder_cons (thn (h1 pins s σ H _ _ _ I r h) λ_ s1 ⟨σ1,H1,I1,q1⟩=>?_);exact h2 pins s1 σ1 H1 _ _ Q I1 rr q1
inductive RGt (K:Ab)(n:Nat)(t:TGs)(v:V)(σ:St)(H:Hp)(Q:St->Hp->Prop):Prop
 |mk (a:Addr) (xs:List V) (e:v=.ref a) (q:SqT K H a xs) (l:xs.length=n) (h:t xs σ H Q)
def gTup (K:Ab)(n:Nat)(t:TGs):TG:=RGt K n t
def fO {k:Nat}{n:Nat}(hc:X.calm=true)(h:PGs X es t)(hn:(assignEach es X.env).length=n:=by rfl)(hst:(assignEach es X.env).findIdx? (·.1)=none:=by rfl):PG X (.Tuple es k pos) (gTup X.K n t):=by
 intro pins s σ H v u Q I r hw;obtain ⟨a,xs,e1,hq,hl,hw⟩:=hw;subst e1;cases r;obtain ⟨its,rv,ht,hz⟩:=I.tuple hq;refine assign_Tuple_tuple (I.ok.hd hc) ht (by simp [hn,<- hl,rv.length]) hst λh' hx=>?_;have I1:Inv X pins σ H { s with heap:=h' }:=I.kept (t':=s.toks) λb o e=>hx b o (As (Aq e)) e;exact h pins _ σ H xs _ Q I1 (by simpa using rv) hw
def gSub (to ti:TE)(t:TSet):TG:=λv σ H Q=>to σ H λo H1=>ti σ H1 λi H2=>t o i v H2 λH3=>Q σ H3
def mX {o i:Expr}{to ti:TE}{t:TSet}(ho:PE X o to)(hi:PE X i ti)(hs:PSet X t)
  (ha:∀ v,assign (.Subscript o i pos) X.env v=(do
   let ov <- holding [v] (eval o X.env)
   let iv <- holding [v,ov] (eval i X.env)
   standAt pos
   holding [v,ov,iv] (setItem ov iv v)
   release [v,ov,iv] []):=by intro _;rfl):PG X (.Subscript o i pos) (gSub to ti t):=by
 intro pins s σ H v u Q I r h;rw [ha];refine Aa (Bz (thn (ho pins s σ H _ I h) λov s1 ⟨x,H1,I1,r1,q1⟩=>?_));refine Aa (Bz (thn (hi pins s1 σ H1 _ I1 q1) λiv s2 ⟨y,H2,I2,r2,q2⟩=>?_));refine Aa (Fj (Aa (Bz (thn (hs pins s2 σ H2 x y v ov iv u _ I2 r1 r2 r q2) λ_ s3 ⟨H3,I3,q3⟩=>?_))));exact wpAny_release ⟨σ,H3,I3,q3⟩
def tAsg (te:TE)(g:TG):TS:=λD σ H=>te σ H λx H1=>g x σ H1 D.nx
def gI {tg e:Expr}{te:TE}{g:TG}(he:PE X e te)(hg:PG X tg g)(hs:swapsWithSole [tg] e pos.line X.env=pure false:=by rfl)(hw:swappedStores [tg] e X.env=pure none:=by rfl)
  (h1:(assignEach [tg] X.env).map (·.2)=[assign tg X.env]:=by rfl):PS X (.Assign [tg] e pos) (tAsg te g):=by
 intro pins s σ H D I h;refine wpAny_Assign_stores (thn (he pins s σ H _ I h) λv s1 ⟨x,H1,I1,r1,q1⟩=>?_) hs hw;rw [h1];exact thn (hg pins s1 σ H1 x v _ I1 r1 q1) λ_ s2 q=>q
def aL {i:Nat}{x:Str}{e:Expr}{te:TE}{pos':Pos}(hN:X.N.Nodup)(hi:X.N[i]?=some x)(hx:Loc X.env.scope x)(he:PE X e te)(hs:swapsWith e (some (.Name x pos')) pos.line X.env=pure false:=by rfl)(hf:X.fn x=true\/X.env.scope.names.lookup x=some .local:=by first|exact .inl rfl|exact .inr rfl|assumption) :
  PS X (.Assign [.Name x pos'] e pos) (tAsg te (gName i)):=by
 intro pins s σ H D I h;refine wpAny_Assign_Name (thn (he pins s σ H _ I h) λv s1 ⟨y,H1,I1,r1,q1⟩=>?_) hs;exact iH I1 hN hi hx r1 (λs2 I2=>⟨_,H1,I2,q1⟩) hf
def tPar (i j:Nat)(ta:TA):TS:=λD σ H=>ta σ H λvs H1=>∃ v w,vs=[v,w]/\D.nx ((σ.set i (some v)).set j (some w)) H1
def aGz {i j:Nat}{x y:Str}{a b:Expr}{ta:TA}{px py pt:Pos}{kt k2 pt2}(hc:X.calm=true)(hN:X.N.Nodup)(hi:X.N[i]?=some x)(hj:X.N[j]?=some y)(hij:i≠j)
  (hx:X.env.scope.names.lookup x=some .local) (hy:X.env.scope.names.lookup y=some .local) (ha:PA X [a,b] ta)
  (hw:swappedStores [.Tuple [.Name x px,.Name y py] kt pt] (.Tuple [a,b] k2 pt2) X.env=pure (some [x,y]))
  (hs:swapsWithSole [.Tuple [.Name x px,.Name y py] kt pt] (.Tuple [a,b] k2 pt2) pos.line X.env=pure false:=by rfl) :
  PS X (.Assign [.Tuple [.Name x px,.Name y py] kt pt] (.Tuple [a,b] k2 pt2) pos) (tPar i j ta):=by
 intro pins s σ H D I h;rw [exec_Assign_arm];refine Aa (Fj ?_);rw [hs];refine Aa (Ag ?_);rw [if_neg (by decide)];refine Aa (Tuple_ (thn (ha _ pins s σ H _ I h) λus s1 ⟨vs,H1,I1,r1,q1⟩=>?_));obtain ⟨v,w,e1,q1⟩:=q1;subst e1;obtain ⟨u1,u2,rfl,rv,rw'⟩:∃ u1 u2,us=[u1,u2]/\RelV v u1/\RelV w u2:=by
  cases r1 with
  |cons p q=>
   cases q with
   |cons p' q'=>
    cases q';exact ⟨_,_,rfl,p,p'⟩
 refine Ba ?_ zLn2;have I2:Inv X pins σ H1 { s1 with heap:=s1.heap.push { cls:=.type "tuple",data:=.seq [u1,u2].toArray } }:=I1.kept (t':=s1.toks) λb o e=>Ad _ e;rw [hw];refine Aa (Ag ?_);show wpAny (model X.prog X.w) X.A (do rule "assign.swapped-stores";let items <- unpackItems (.ref s1.heap.objs.size) 2 none;assignInOrder [λv=>bindName X.env y v,λv=>bindName X.env x v] items.reverse;pure Flow.next) _ _ _;refine Aa (Dz (Aa (unpackItems_tuple (items:=#[u1,u2]) (I.ok.hd hc) (IsTup.new s1.heap _) λh' hx'=>?_)));have I3:=I2.kept (h':=h') (t':=s1.toks) λb o e=>hx' b o (As (Aq e)) e;show wpAny _ _ (assignInOrder [λv=>bindName X.env y v,λv=>bindName X.env x v] [u2,u1] >>= λ_=>pure Flow.next) _ _ _;refine Aa (assignInOrder_cons (wpAny_bindName (iH I3 hN hj (.inl hy) rw' (λs2 I4=>?_) (.inr hy))));refine assignInOrder_cons (wpAny_bindName (iH I4 hN hi (.inl hx) rv (λs3 I5=>assignInOrder_nil (Ag ?_)) (.inr hx)));rw [List.set_comm _ _ (Bg hij)] at I5;exact ⟨_,H1,I5,q1⟩
def tAug (i:Nat)(te:TE)(ti:TIp):TS:=λD σ H=>∃ x,σ[i]?=some (some x)/\te σ H λy H1=>ti x y H1 λz H2=>D.nx (σ.set i (some z)) H2
def tAugS (to ti te:TE)(tget:V->V->Hp->VK->Prop)(tip:TIp)(tset:TSet):TS:=λD σ H=>to σ H λo H1=>ti σ H1 λi H2=>tget o i H2 λx H3=>te σ H3 λy H4=>tip x y H4 λz H5=>tset o i z H5 λH6=>D.nx σ H6
def PGet (X:Cx)(t:V->V->Hp->VK->Prop):Prop:=
 ∀ (pins:List (Addr×Obj)) (s:Shared) (σ:St) (H:Hp) (o i:V) (ov iv:Value) (Q:VK),Inv X pins σ H s->RelV o ov->RelV i iv->t o i H Q ->
  wpAny (model X.prog X.w) X.A (getItem ov iv) (EP X pins σ Q) X.xe s
def ipI (f:Int->Int->Int):TIp:=λx y H Q=>∃ i j,x=.int i/\y=.int j/\Q (.int (f i j)) H
end
section
variable {X:Cx}{pos:Pos}
def aCc (c:TT)(tb:TS):TS:=λD σ H=>∃ W:Nat->St->Hp->Prop,(∃ m,W m σ H)/\∀ m σ H,W m σ H ->
 c σ H λb H1=>if b=true then ∃ N:St->Hp->Prop,(∀ σ' H',N σ' H'->∃ m',m'<m/\W m' σ' H')/\tb { D with nx:=N,ct:=N,bk:=D.nx } σ H1 else D.nx σ H1
def lM {c:Expr}{body:List Stmt}{tc:TT}{tb:TS}(hp:BK (model X.prog X.w) X.A X.env X.xe)(hc:PT X c tc)(hb:PSs X body tb):PS X (.While c body [] pos) (aCc tc tb):=by
 intro pins s σ H D I h;obtain ⟨W,⟨m0,w0⟩,turn⟩:=h;refine wpAny_While (codeAny_whileLoop (λn s'=>∃ σ' H',Inv X pins σ' H' s'/\W n σ' H') ?_ m0 ⟨σ,H,I,w0⟩)
 rintro n s1 ⟨σ1,H1,I1,w1⟩
 refine DZ hp (thn (hc pins s1 σ1 H1 _ I1 (turn n σ1 H1 w1)) λb s2 ⟨H2,I2,q2⟩=>?_);cases b with
 |true=>
  obtain ⟨N,hN,q2⟩:=q2;rw [if_pos rfl];refine DZ hp (thn (hb pins s2 σ1 H2 _ I2 q2) λf s3 q3=>?_);cases f with
  |next=>
   obtain ⟨σ3,H3,I3,n3⟩:=q3;obtain ⟨m',hm,w3⟩:=hN σ3 H3 n3;exact ⟨m',hm,σ3,H3,I3,w3⟩
  |cont=>
   obtain ⟨σ3,H3,I3,n3⟩:=q3;obtain ⟨m',hm,w3⟩:=hN σ3 H3 n3;exact ⟨m',hm,σ3,H3,I3,w3⟩
  |brk=>exact q3
  |ret v=>exact q3
 |false=>
  rw [if_neg AB];exact Fq ⟨σ1,H2,I2,q2⟩
end
structure It where
 go:Nat->Hp->Prop
 yld:Nat->Hp->V->Hp->Prop
 stop:Nat->Hp->Prop
def FpOk (X:Cx)(pins:List (Addr×Obj))(H:Hp)(b:Addr):Prop:=
 H b=none/\b≠X.env.locals/\b∉X.fs/\(b∈X.ex\/X.s₀.heap.objs.size<=b)/\(∀ x c,X.env.cells.lookup x=some c->c≠b)/\∀ p∈X.pn++pins,p.1≠b
def Inv.fpOk {σ:St}(I:Inv X pins σ H s)(hb:s.heap.objs.size<=b)(hn:H' b=none):FpOk X pins H' b:=by
 refine ⟨hn,Dw (AV I.lt hb),I.nofs hb,.inr (AU I.sz hb),λx c e z=>?_,λp hp z=>?_⟩
 ·obtain ⟨v,q⟩:=I.cell x c e
  exact absurd (AV q.lt (by rw [z];exact hb)) (CA _)
 ·exact absurd (AV (Aq (I.pin p hp).1) (by rw [z];exact hb)) (CA _)
structure Turn (P:Av)(w:World)(K:Ab)(tg:Expr)(J:It)(fp:List Addr)(it:Addr)(tn:Nat->Heap->Prop):Prop where
 mem:it∈fp
 obj:∀ i h,tn i h->∀ b∈fp,∃ o,h.get? b=some o/\∀ v,o.data≠.cell v
 keep:∀ i h h',tn i h->(∀ b∈fp,∀ o,h.get? b=some o->h'.get? b=some o)->tn i h'
 item:∀ (X:Cx),X.prog=P->X.w=w->X.K=K->X.calm=true->∀ (i:Nat) (pins:List (Addr×Obj)) (s:Shared) (σ:St) (H:Hp) (E:Value->Shared->Prop),Inv X pins σ H s->(∀ b∈fp,FpOk X pins H b)->tn i s.heap->J.go i H ->
  wpAny (model P w) X.A (pyNext (.ref it)) (λr s1=>∃ u,r=some u /\
   wpAny (model P w) X.A (Fs tg (.ref it) u) (λ_ s2=>∃ x H',Inv X pins σ H' s2/\RelV x u/\J.yld i H x H'/\tn (i+1) s2.heap/\∀ b∈fp,H' b=none) E s1) E s
 done:∀ (X:Cx),X.prog=P->X.w=w->X.K=K->X.calm=true->∀ (i:Nat) (pins:List (Addr×Obj)) (s:Shared) (σ:St) (H:Hp) (E:Value->Shared->Prop),Inv X pins σ H s->(∀ b∈fp,FpOk X pins H b)->tn i s.heap->J.stop i H ->
  wpAny (model P w) X.A (pyNext (.ref it)) (λr s1=>r=none/\Inv X pins σ H s1) E s
 self:∀ (A:Around) (i:Nat) (s:Shared) (Q:Value->Shared->Prop) (E:Value->Shared->Prop),tn i s.heap->Q (.ref it) s->wpAny (model P w) A (pyIter (.ref it)) Q E s
abbrev TI:=St->Hp->(It->Hp->Prop)->Prop
def PIE (X:Cx)(pins:List (Addr×Obj))(σ:St)(tg:Expr)(R:It->Hp->Prop)(itv:Value)(s2:Shared):Prop:=
 ∃ (it:Addr) (fp:List Addr) (tn:Nat->Heap->Prop) (J:It) (H':Hp),itv=.ref it/\Inv X pins σ H' s2/\Turn X.prog X.w X.K tg J fp it tn/\tn 0 s2.heap/\(∀ b∈fp,FpOk X pins H' b)/\R J H'
def PI (X:Cx)(tg iter:Expr)(wi:TI):Prop:=
 ∀ (pins:List (Addr×Obj)) (s:Shared) (σ:St) (H:Hp) (R:It->Hp->Prop),Inv X pins σ H s->wi σ H R ->
  wpAny (model X.prog X.w) X.A (eval iter X.env) (λv s1=>wpAny (model X.prog X.w) X.A (pyIter v) (PIE X pins σ tg R) X.xe s1) X.xe s
def uF (ho:s.heap.get? it=some o)(hc:o.cls=.type n)(hd:o.data=.fields vs)(hn:["enumerate","zip","dict_itemiterator","dict_reverseitemiterator","odict_iterator","itertools.zip_longest","itertools.pairwise"].contains n=false)(hQ:Q () s):wpAny M A (Fs tg (.ref it) u) Q E s:=by
  unfold Fs;cases tg<;>first
    |exact Ag hQ
    | (cases u <;> first
        |exact Ag hQ
        | (refine Aa (wpAny_load ho ?_)
           rw [hc,hd];show wpAny M A (if (["enumerate","zip","dict_itemiterator","dict_reverseitemiterator","odict_iterator","itertools.zip_longest","itertools.pairwise"].contains n&&vs[0]?==some (rawInt _))=true then _ else _) Q E s;rw [if_neg (by intro h;rw [hn,Bool.false_and] at h;cases h)];exact Ag hQ))
def Itl (K:Ab)(a:Addr):It:=
 ⟨λi H=>∃ xs x,SqL K H a xs/\xs[i]?=some x,λi H x H'=>H'=H/\∀ xs,SqL K H a xs->xs[i]?=some x,λi H=>∃ xs,SqL K H a xs/\xs.length<=i⟩
def Itt (K:Ab)(a:Addr):It:=
 ⟨λi H=>∃ xs x,SqT K H a xs/\xs[i]?=some x,λi H x H'=>H'=H/\∀ xs,SqT K H a xs->xs[i]?=some x,λi H=>∃ xs,SqT K H a xs/\xs.length<=i⟩
def Itr (lo:Int)(n:Nat):It:=⟨λi _=>i<n,λi H x H'=>H'=H/\x=.int (lo+i),λi _=>n<=i⟩
def uT {P:Av}{w:World}{K:Ab}{tg:Expr}(a it:Addr):Turn P w K tg (Itl K a) [it] it (λi h=>h.IsListIter it a i) where
 mem:=by simp
 obj:=λi h st b hb=>by
  have e:b=it:=by simpa using hb
  subst e;obtain ⟨o,e,c,d⟩:=st;exact ⟨o,e,λv z=>by rw [d] at z;cases z⟩
 keep:=λi h h' st k=>st.at λo e=>k it (by simp) o e
 item:=by
  intro X hP hw hK hc i pins s σ H E I hf st hg;subst hP hw hK;obtain ⟨xs,x,hq,hx⟩:=hg;obtain ⟨its,rv,p,hz⟩:=I.list hq;obtain ⟨u,hu,ru⟩:=rv.get hx;obtain ⟨f0,f1,f2,f3,f4,f5⟩:=hf it (by simp);refine wpAny_pyNext_list_item st p.isList (x:=u) (by simpa using hu) λh' st' sb=>?_;have I1:Inv X pins σ H { s with heap:=h' }:=I.turned (t':=s.toks) (λb o hb e=>(sb.2 b hb).trans e) f0 f1 f3 f4 f5;obtain ⟨o,e,c,d⟩:=id st';exact ⟨u,rfl,uF (s:={ s with heap:=h' }) e c d (by decide) ⟨x,H,I1,ru,⟨rfl,λys hy=>by rw [I.list_inj hy hq];exact hx⟩,st',λb hb=>(hf b hb).1⟩⟩
 done:=by
  intro X hP hw hK hc i pins s σ H E I hf st hg;subst hP hw hK;obtain ⟨xs,hq,hx⟩:=hg;obtain ⟨its,rv,p,hz⟩:=I.list hq;obtain ⟨f0,f1,f2,f3,f4,f5⟩:=hf it (by simp);have hl:=rv.length;exact wpAny_pyNext_list_end (I.ok.hd hc) st p.isList (by simp;omega) λh' eb=>⟨rfl,I.turned (t':=s.toks) (λb o hb e=>eb b o hb e) f0 f1 f3 f4 f5⟩
 self:=λ_ _ _ _ _ st h=>wpAny_pyIter_listiter st h
def tE {P:Av}{w:World}{K:Ab}{tg:Expr}(a it:Addr):Turn P w K tg (Itt K a) [it] it (λi h=>h.IsTupleIter it a i) where
 mem:=by simp
 obj:=λi h st b hb=>by
  have e:b=it:=by simpa using hb
  subst e;obtain ⟨o,e,c,d⟩:=st;exact ⟨o,e,λv z=>by rw [d] at z;cases z⟩
 keep:=λi h h' st k=>st.at λo e=>k it (by simp) o e
 item:=by
  intro X hP hw hK hc i pins s σ H E I hf st hg;subst hP hw hK;obtain ⟨xs,x,hq,hx⟩:=hg;obtain ⟨its,rv,p,hz⟩:=I.tuple hq;obtain ⟨u,hu,ru⟩:=rv.get hx;obtain ⟨f0,f1,f2,f3,f4,f5⟩:=hf it (by simp);refine wpAny_pyNext_tuple_item st (show s.heap.IsTuple a its.toArray from p) (x:=u) (by simpa using hu) λh' st' sb=>?_;have I1:Inv X pins σ H { s with heap:=h' }:=I.turned (t':=s.toks) (λb o hb e=>(sb.2 b hb).trans e) f0 f1 f3 f4 f5;obtain ⟨o,e,c,d⟩:=id st';exact ⟨u,rfl,uF (s:={ s with heap:=h' }) e c d (by decide) ⟨x,H,I1,ru,⟨rfl,λys hy=>by rw [I.tuple_inj hy hq];exact hx⟩,st',λb hb=>(hf b hb).1⟩⟩
 done:=by
  intro X hP hw hK hc i pins s σ H E I hf st hg;subst hP hw hK;obtain ⟨xs,hq,hx⟩:=hg;obtain ⟨its,rv,p,hz⟩:=I.tuple hq;obtain ⟨f0,f1,f2,f3,f4,f5⟩:=hf it (by simp);have hl:=rv.length;exact wpAny_pyNext_tuple_end (I.ok.hd hc) st (show s.heap.IsTuple a its.toArray from p) (by simp;omega) λh' eb=>⟨rfl,I.turned (t':=s.toks) (λb o hb e=>eb b o hb e) f0 f1 f3 f4 f5⟩
 self:=λ_ _ _ _ _ st h=>wpAny_pyIter_tupleiter st h
def tF {P:Av}{w:World}{K:Ab}{tg:Expr}(it:Addr)(lo:Int)(n:Nat):Turn P w K tg (Itr lo n) [it] it (λi h=>IsRangeIter h it (lo+(i:Nat)*1) ((n:Int)-(i:Nat)) 1) where
 mem:=by simp
 obj:=λi h st b hb=>by
  have e:b=it:=by simpa using hb
  subst e;exact ⟨_,st,λv z=>by
   have z':Data.fields _=Data.cell v:=z;cases z'⟩
 keep:=λi h h' st k=>k it (by simp) _ st
 item:=by
  intro X hP hw hK hc i pins s σ H E I hf st hg;subst hP hw hK;obtain ⟨f0,f1,f2,f3,f4,f5⟩:=hf it (by simp);have W:=Walks.range (prog:=X.prog) (w:=X.w) (I.ok.hd hc) it lo 1 n;refine W.item i s _ _ hg st λv h' tk hv st' kk=>?_;obtain ⟨t,rfl⟩:=hv;have I1:Inv X pins σ H { s with heap:=h',toks:=tk }:=I.turned (λb o hb e=>kk b o (by simpa using hb) e) f0 f1 f3 f4 f5;refine ⟨_,rfl,uF (s:={ s with heap:=h',toks:=tk }) (n:="range_iterator") st' rfl rfl (by decide) ⟨.int (lo+i),H,I1,⟨t,?_⟩,⟨rfl,rfl⟩,st',λb hb=>(hf b hb).1⟩⟩;rw [Int.mul_one]
 done:=by
  intro X hP hw hK hc i pins s σ H E I hf st hg;subst hP hw hK;obtain ⟨f0,f1,f2,f3,f4,f5⟩:=hf it (by simp);exact wpAny_pyNext_range_end (I.ok.hd hc) st (by have:n<=i:=hg;omega) λh' eb=>⟨rfl,I.turned (t':=s.toks) (λb o hb e=>eb b o hb e) f0 f1 f3 f4 f5⟩
 self:=λ_ _ _ _ _ st h=>wpAny_pyIter_rangeiter st h
section
variable {X:Cx}{tg:Expr}
def aJi (K:Ab)(tl:TE):TI:=λσ H R=>tl σ H λx H1=>∃ a,x=.ref a/\(∃ xs,SqL K H1 a xs)/\R (Itl K a) H1
inductive RTup (K:Ab)(R:It->Hp->Prop)(x:V)(H1:Hp):Prop
 |mk (a:Addr) (e:x=.ref a) (q:∃ xs,SqT K H1 a xs) (h:R (Itt K a) H1)
def iTup (K:Ab)(tl:TE):TI:=λσ H R=>tl σ H (RTup K R)
def fN {l:Expr}{tl:TE}(hl:PE X l tl):PI X tg l (aJi X.K tl):=by
 intro pins s σ H R I h;refine thn (hl pins s σ H _ I h) λv s1 ⟨x,H1,I1,r1,q1⟩=>?_;obtain ⟨a,e,⟨xs,hq⟩,q⟩:=q1;subst e;cases r1;obtain ⟨its,rv,p,hz⟩:=I1.list hq;refine wpAny_pyIter_list p.isList ?_;refine ⟨s1.heap.objs.size,[s1.heap.objs.size],_,_,H1,rfl,I1.kept (t':=s1.toks) λb o e=>Ad _ e,uT a _,⟨_,Ai _ rfl,rfl,rfl⟩,λb hb=>?_,q⟩;have e:b=s1.heap.objs.size:=by simpa using hb
 subst e;exact I1.fpOk (Aj _) (I1.hok.fresh (Aj _))
def fY {l:Expr}{tl:TE}(hl:PE X l tl):PI X tg l (iTup X.K tl):=by
 intro pins s σ H R I h;refine thn (hl pins s σ H _ I h) λv s1 ⟨x,H1,I1,r1,q1⟩=>?_;obtain ⟨a,e,⟨xs,hq⟩,q⟩:=q1;subst e;cases r1;obtain ⟨its,rv,p,hz⟩:=I1.tuple hq;refine EG (show s1.heap.IsTuple a its.toArray from p) ?_;refine ⟨s1.heap.objs.size,[s1.heap.objs.size],_,_,H1,rfl,I1.kept (t':=s1.toks) λb o e=>Ad _ e,tE a _,⟨_,Ai _ rfl,rfl,rfl⟩,λb hb=>?_,q⟩;have e:b=s1.heap.objs.size:=by simpa using hb
 subst e;exact I1.fpOk (Aj _) (I1.hok.fresh (Aj _))
def rD {σ:St}{lo hi:Int}{t u v:Tok}{tk:Nat}(I:Inv X pins σ H s)(h1:-(2^62)<=lo)(h2:lo<2^62)(h3:-(2^62)<=hi)(h4:hi<2^62)(q:R (Itr lo (hi-lo).toNat) H):wpAny (model X.prog X.w) X.A (pyIter (.ref s.heap.objs.size)) (PIE X pins σ tg R) E { s with heap:=s.heap.push { cls:=.type "range",data:=.fields #[.int lo t,.int hi u,.int 1 v] },toks:=tk }:=by
 refine wpAny_pyIter_range (IsRange.new ..) (small_one h1 h2 h3 h4) ?_;have I1:Inv X pins σ H { s with heap:=s.heap.push { cls:=.type "range",data:=.fields #[.int lo t,.int hi u,.int 1 v] },toks:=tk }:=I.kept λb o e=>Ad _ e;refine ⟨(s.heap.push { cls:=.type "range",data:=.fields #[.int lo t,.int hi u,.int 1 v] }).objs.size,[(s.heap.push { cls:=.type "range",data:=.fields #[.int lo t,.int hi u,.int 1 v] }).objs.size],_,_,H,rfl,
  I1.kept (t':=tk) λb o e=>Ad _ e,tF _ lo (hi-lo).toNat,?_,λb hb=>?_,q⟩
 ·have e1:lo+((0:Nat):Int)*1=lo:=by simp
  have e2:(((hi-lo).toNat:Nat):Int)-((0:Nat):Int)=AI.Range.rangeSize lo hi 1:=by rw [rangeSize_one];split<;>omega
  show IsRangeIter _ _ (lo+((0:Nat):Int)*1) ((((hi-lo).toNat:Nat):Int)-((0:Nat):Int)) 1;rw [e1,e2];exact Ai _ rfl
 ·have e:b=(s.heap.push { cls:=.type "range",data:=.fields #[.int lo t,.int hi u,.int 1 v] }).objs.size:=by simpa using hb
  subst e;exact I1.fpOk (Aj _) (I1.hok.fresh (Aj _))
def aJg (ta:TA):TI:=λσ H R=>ta σ H λvs H1=>∃ j:Int,vs=[.int j]/\-(2^62)<=j/\j<2^62/\R (Itr 0 j.toNat) H1
def aJf (ta:TA):TI:=λσ H R=>ta σ H λvs H1=>∃ i j:Int,vs=[.int i,.int j]/\(-(2^62)<=i/\i<2^62/\-(2^62)<=j/\j<2^62)/\R (Itr i (j-i).toNat) H1
def dN {a:Expr}{ta:TA}{p pos:Pos}(hg:Gl X "range")(hm:X.mg "range" = none)(ha:PA X [a] ta)(hs:AQ [a] X.env=[(false,eval a X.env)]:=by rfl):PI X tg (.Call (.Name "range" p) [a] [] pos) (aJg ta):=by
 intro pins s σ H R I h;refine Call_ (fS I hg hm boot_range (Bw (thn (ha pos pins s σ H _ I h) λus s1 ⟨vs,H1,I1,r1,q1⟩=>?_) hs rfl));obtain ⟨j,e,q1,q2,q⟩:=q1;subst e;cases r1 with
 |cons r rr=>
  cases rr;obtain ⟨t,rfl⟩:=r;exact call_range_1 (rD I1 (by omega) (by omega) q1 q2 (by simpa using q))
def jG {p pos:Pos}(hg:Gl X "range")(hm:X.mg "range" = none)(ha:PA X [a,b] ta)(hs:AQ [a,b] X.env=[(false,eval a X.env),(false,eval b X.env)]:=by rfl)(hs2:AQ [b] X.env=[(false,eval b X.env)]:=by rfl) :
  PI X tg (.Call (.Name "range" p) [a,b] [] pos) (aJf ta):=by
 intro pins s σ H R I h;refine Call_ (fS I hg hm boot_range (Bw (thn (ha pos pins s σ H _ I h) λus s1 ⟨vs,H1,I1,r1,q1⟩=>?_) (by rw [hs,hs2]) (by rw [hs2];rfl)));obtain ⟨i,j,e,⟨q1,q2,q3,q4⟩,q⟩:=q1;subst e;cases r1 with
 |cons r rr=>
  cases rr with
  |cons r' rr=>
   cases rr;obtain ⟨t,rfl⟩:=r;obtain ⟨t',rfl⟩:=r';exact call_range_2 (rD I1 q1 q2 q3 q4 q)
def tFor (wi:TI)(g:TG)(tb:TS):TS:=λD σ H=>wi σ H λJ H1=>∃ W:Nat->Nat->St->Hp->Prop,(∃ m,W 0 m σ H1)/\∀ i m σ H,W i m σ H ->
 (J.stop i H/\D.nx σ H)\/(J.go i H/\∃ N:St->Hp->Prop,(∀ σ' H',N σ' H'->∃ m',m'<m/\W (i+1) m' σ' H')/\∀ x H',J.yld i H x H'->g x σ H' λσ2 H2=>tb { D with nx:=N,ct:=N,bk:=D.nx } σ2 H2)
def kK (fp:List Addr)(h:Heap):List (Addr×Obj):=fp.filterMap λb=>(h.get? b).map λo=>(b,o)
def dQ (hb:b∈fp)(e:h.get? b=some o):(b,o)∈kK fp h:=List.mem_filterMap.mpr ⟨b,hb,by rw [e];rfl⟩
def xU {p:Addr×Obj}(hp:p∈kK fp h):p.1∈fp/\h.get? p.1=some p.2:=by
 obtain ⟨b,hb,e⟩:=List.mem_filterMap.mp hp;cases q:h.get? b with
 |none=>rw [q] at e;cases e
 |some o=>
  rw [q] at e;have e':(b,o)=p:=AG e;subst e';exact ⟨hb,q⟩
def Inv.pinned {σ:St}(I:Inv X pins σ H s)(hf:∀ b∈fp,FpOk X pins H b)(ho:∀ b∈fp,∃ o,s.heap.get? b=some o/\∀ v,o.data≠.cell v):Inv X (pins++kK fp s.heap) σ H s:=
 I.pins_of λp hp=>(Bh.mp hp).elim (λz=>I.pin p (AN _ z)) λz=>by
  obtain ⟨hb,e⟩:=xU z;obtain ⟨f0,f1,f2,_⟩:=hf p.1 hb;obtain ⟨o,e',d⟩:=ho p.1 hb;rw [e] at e';cases e';exact ⟨e,f0,f1,f2,d⟩
def Inv.unpinned {σ:St}(I:Inv X (pins++pl) σ H s):Inv X pins σ H s:=I.pins_of λp hp=>I.pin p (AN _ (List.mem_append_left _ hp))
def cJ (hp:BK (model X.prog X.w) X.A X.env X.xe)(hc:X.calm=true)(hi:PI X tg iter wi)(hg:PG X tg g)(hb:PSs X body tb)(hs:∀ x,EV iter X.env x=pure x:=by intro _;rfl):PS X (.For tg iter body [] pos) (tFor wi g tb):=by
 intro pins s σ H D I h;refine wpAny_For (thn (hi pins s σ H _ I h) λv s1 h1=>thn h1 λitv s2 h2=>?_) hs;obtain ⟨it,fp,tn,J,H2,e,I2,T,st2,f2,W,⟨m0,w0⟩,turn⟩:=h2;subst e;have stat:∀ {H':Hp},(∀ b∈fp,H' b=none)->∀ b∈fp,FpOk X pins H' b:=λhn b hb=>⟨hn b hb,(f2 b hb).2⟩;refine codeAny_forLoop_any (λn s'=>∃ i σ' H',Inv X pins σ' H' s'/\tn i s'.heap/\(∀ b∈fp,H' b=none)/\W i n σ' H') ?_ m0 ⟨0,σ,H2,I2,st2,λb hb=>(f2 b hb).1,w0⟩
 rintro n s3 ⟨i,σ3,H3,I3,st3,fr3,w3⟩
 rcases turn i n σ3 H3 w3 with ⟨stop,qn⟩|⟨go,N,hN,step⟩
 ·refine DZ hp (thn (T.done X rfl rfl rfl hc i pins s3 σ3 H3 X.xe I3 (stat fr3) st3 stop) λr s4 ⟨hr,I4⟩=>?_)
  subst hr;exact Fq ⟨σ3,H3,I4,qn⟩
 ·refine DZ hp (thn (T.item X rfl rfl rfl hc i pins s3 σ3 H3 X.xe I3 (stat fr3) st3 go) λr s4 ⟨u,hr,h4⟩=>?_)
  subst hr;refine DZ hp (thn h4 λ_ s5 ⟨x,H5,I5,r5,y5,st5,fr5⟩=>?_);have I5':=I5.pinned (stat fr5) (T.obj _ _ st5);refine DZ hp (thn (hg _ s5 σ3 H5 x u _ I5' r5 (step x H5 y5)) λ_ s6 ⟨σ6,H6,I6,q6⟩=>?_);refine DZ hp (thn (hb _ s6 σ6 H6 _ I6 q6) λf s7 q7=>?_);have again:∀ {σ7:St} {H7:Hp},Inv X (pins++kK fp s5.heap) σ7 H7 s7->N σ7 H7->∃ m,m<n/\∃ i σ' H',Inv X pins σ' H' s7/\tn i s7.heap/\(∀ b∈fp,H' b=none)/\W i m σ' H':=λ{σ7 H7} I7 n7=>by
   obtain ⟨m',hm,w7⟩:=hN σ7 H7 n7;refine ⟨m',hm,i+1,σ7,H7,I7.unpinned,T.keep _ _ _ st5 λb hb o e=>(I7.pin (b,o) (AN _ (AN _ (dQ hb e)))).1,λb hb=>?_,w7⟩;obtain ⟨o,e,d⟩:=T.obj _ _ st5 b hb;exact (I7.pin (b,o) (AN _ (AN _ (dQ hb e)))).2.1
  cases f with
  |next=>obtain ⟨σ7,H7,I7,n7⟩:=q7;exact again I7 n7
  |cont=>obtain ⟨σ7,H7,I7,n7⟩:=q7;exact again I7 n7
  |brk=>obtain ⟨σ7,H7,I7,q7⟩:=q7;exact ⟨σ7,H7,I7.unpinned,q7⟩
  |ret v=>obtain ⟨x7,σ7,H7,I7,r7,q7⟩:=q7;exact ⟨x7,σ7,H7,I7.unpinned,r7,q7⟩
end
def lT {K:Ab}{a:Addr}{xs:List V}{g:TG}{tb:TS}{D:Ends}{σ:St}{H:Hp}(Pv:Nat->St->Hp->Prop)(h0:Pv 0 σ H)(hl:∀ i σ H,i<=xs.length->Pv i σ H->SqL K H a xs)
  (hs:∀ i x σ H,xs[i]?=some x->Pv i σ H->g x σ H λσ2 H2=>tb { D with nx:=Pv (i+1),ct:=Pv (i+1),bk:=D.nx } σ2 H2) (hd:∀ σ H,Pv xs.length σ H->D.nx σ H) :
  ∃ W:Nat->Nat->St->Hp->Prop,(∃ m,W 0 m σ H)/\∀ i m σ H,W i m σ H ->
   ((Itl K a).stop i H/\D.nx σ H)\/((Itl K a).go i H/\∃ N:St->Hp->Prop,(∀ σ' H',N σ' H'->∃ m',m'<m/\W (i+1) m' σ' H')/\∀ x H',(Itl K a).yld i H x H'->g x σ H' λσ2 H2=>tb { D with nx:=N,ct:=N,bk:=D.nx } σ2 H2):=by
 refine ⟨λi m σ H=>m=xs.length-i/\i<=xs.length/\Pv i σ H,⟨xs.length,by simp,Bi _,h0⟩,?_⟩
 rintro i m σ H ⟨rfl,hi,p⟩
 have q:=hl i σ H hi p
 by_cases hlt:i<xs.length
 ·refine .inr ⟨⟨xs,xs[i],q,by simp [hlt]⟩,Pv (i+1),λσ' H' p'=>⟨xs.length-(i+1),by omega,rfl,hlt,p'⟩,λx H' y=>?_⟩
  obtain ⟨e,y⟩:=y;subst e;exact hs i x σ _ (y xs q) p
 ·have e:i=xs.length:=by omega
  subst e;exact .inl ⟨⟨xs,q,Aj _⟩,hd σ H p⟩
def lS {K:Ab}{a:Addr}{xs:List V}{g:TG}{tb:TS}{D:Ends}{σ:St}{H:Hp}(Pv:Nat->St->Hp->Prop)(h0:Pv 0 σ H)(hl:∀ i σ H,i<=xs.length->Pv i σ H->SqT K H a xs)
  (hs:∀ i x σ H,xs[i]?=some x->Pv i σ H->g x σ H λσ2 H2=>tb { D with nx:=Pv (i+1),ct:=Pv (i+1),bk:=D.nx } σ2 H2) (hd:∀ σ H,Pv xs.length σ H->D.nx σ H) :
  ∃ W:Nat->Nat->St->Hp->Prop,(∃ m,W 0 m σ H)/\∀ i m σ H,W i m σ H ->
   ((Itt K a).stop i H/\D.nx σ H)\/((Itt K a).go i H/\∃ N:St->Hp->Prop,(∀ σ' H',N σ' H'->∃ m',m'<m/\W (i+1) m' σ' H')/\∀ x H',(Itt K a).yld i H x H'->g x σ H' λσ2 H2=>tb { D with nx:=N,ct:=N,bk:=D.nx } σ2 H2):=by
 refine ⟨λi m σ H=>m=xs.length-i/\i<=xs.length/\Pv i σ H,⟨xs.length,by simp,Bi _,h0⟩,?_⟩
 rintro i m σ H ⟨rfl,hi,p⟩
 have q:=hl i σ H hi p
 by_cases hlt:i<xs.length
 ·refine .inr ⟨⟨xs,xs[i],q,by simp [hlt]⟩,Pv (i+1),λσ' H' p'=>⟨xs.length-(i+1),by omega,rfl,hlt,p'⟩,λx H' y=>?_⟩
  obtain ⟨e,y⟩:=y;subst e;exact hs i x σ _ (y xs q) p
 ·have e:i=xs.length:=by omega
  subst e;exact .inl ⟨⟨xs,q,Aj _⟩,hd σ H p⟩
def eJ {lo:Int}{n:Nat}{g:TG}{tb:TS}{D:Ends}{σ:St}{H:Hp}(Pv:Nat->St->Hp->Prop)(h0:Pv 0 σ H)
  (hs:∀ i σ H,i<n->Pv i σ H->g (.int (lo+i)) σ H λσ2 H2=>tb { D with nx:=Pv (i+1),ct:=Pv (i+1),bk:=D.nx } σ2 H2) (hd:∀ σ H,Pv n σ H->D.nx σ H) :
  ∃ W:Nat->Nat->St->Hp->Prop,(∃ m,W 0 m σ H)/\∀ i m σ H,W i m σ H ->
   ((Itr lo n).stop i H/\D.nx σ H)\/((Itr lo n).go i H/\∃ N:St->Hp->Prop,(∀ σ' H',N σ' H'->∃ m',m'<m/\W (i+1) m' σ' H')/\∀ x H',(Itr lo n).yld i H x H'->g x σ H' λσ2 H2=>tb { D with nx:=N,ct:=N,bk:=D.nx } σ2 H2):=by
 refine ⟨λi m σ H=>m=n-i/\i<=n/\Pv i σ H,⟨n,by simp,Bi _,h0⟩,?_⟩
 rintro i m σ H ⟨rfl,hi,p⟩
 by_cases hlt:i<n
 ·refine .inr ⟨hlt,Pv (i+1),λσ' H' p'=>⟨n-(i+1),by omega,rfl,hlt,p'⟩,λx H' y=>?_⟩
  obtain ⟨e,y⟩:=y;subst e y;exact hs i σ _ hlt p
 ·have e:i=n:=by omega
  subst e;exact .inl ⟨Aj _,hd σ H p⟩
def qM {σ:St}(Pv:St->Hp->Prop)(μ:St->Hp->Nat)(h0:Pv σ H)(hs:∀ σ H,Pv σ H->c σ H λb H1=>if b=true then tb { D with nx:=λσ' H'=>Pv σ' H'/\μ σ' H'<μ σ H,ct:=λσ' H'=>Pv σ' H'/\μ σ' H'<μ σ H,bk:=D.nx } σ H1 else D.nx σ H1)(mono:∀ σ H Q Q',(∀ b H1,Q b H1->Q' b H1)->c σ H Q->c σ H Q'):aCc c tb D σ H:=by
 refine ⟨λm σ H=>m=μ σ H/\Pv σ H,⟨_,rfl,h0⟩,?_⟩
 rintro m σ H ⟨rfl,p⟩
 refine mono σ H _ _ (λb H1 q=>?_) (hs σ H p);cases b with
 |true=>exact ⟨_,λσ' H' ⟨p',l⟩=>⟨_,l,rfl,p'⟩,q⟩
 |false=>exact q
abbrev R2:=V->V->Hp->VK->Prop
def OpR (X:Cx)(f:Value->Value->Sem Value)(r:R2):Prop:=
 ∀ (pins:List (Addr×Obj)) (s:Shared) (σ:St) (H:Hp) (x y:V) (v u:Value) (Q:VK),Inv X pins σ H s->RelV x v->RelV y u->r x y H Q ->
  wpAny (model X.prog X.w) X.A (f v u) (EP X pins σ Q) X.xe s
def UnR (X:Cx)(f:Value->Sem Value)(r:V->Hp->VK->Prop):Prop:=
 ∀ (pins:List (Addr×Obj)) (s:Shared) (σ:St) (H:Hp) (x:V) (v:Value) (Q:VK),Inv X pins σ H s->RelV x v->r x H Q ->
  wpAny (model X.prog X.w) X.A (f v) (EP X pins σ Q) X.xe s
def fG (X:Cx)(f:Value)(r:List V->Hp->VK->Prop):Prop:=
 ∀ (pins:List (Addr×Obj)) (s:Shared) (σ:St) (H:Hp) (xs:List V) (us:List Value) (Q:VK),Inv X pins σ H s->Vals xs us->r xs H Q ->
  wpAny (model X.prog X.w) X.A (call f us) (EP X pins σ Q) X.xe s
def TruR (X:Cx)(r:V->Hp->(Bool->Hp->Prop)->Prop):Prop:=
 ∀ (pins:List (Addr×Obj)) (s:Shared) (σ:St) (H:Hp) (x:V) (v:Value) (Q:Bool->Hp->Prop),Inv X pins σ H s->RelV x v->r x H Q ->
  wpAny (model X.prog X.w) X.A (truthy v) (TP X pins σ Q) X.xe s
def tOp (r:R2)(ta tb:TE):TE:=λσ H Q=>ta σ H λx H1=>tb σ H1 λy H2=>r x y H2 Q
def tUn (r:V->Hp->VK->Prop)(ta:TE):TE:=λσ H Q=>ta σ H λx H1=>r x H1 Q
inductive rI (C:Int->Int->Prop)(g:Int->Int->V)(x y:V)(H:Hp)(Q:VK):Prop
 |mk (i j:Int) (e:x=.int i) (e':y=.int j) (c:C i j) (h:Q (g i j) H)
inductive rI0 (g:Int->Int->V)(x y:V)(H:Hp)(Q:VK):Prop
 |mk (i j:Int) (e:x=.int i) (e':y=.int j) (h:Q (g i j) H)
def rU (g:Int->V):V->Hp->VK->Prop:=λx H Q=>∃ i,x=.int i/\Q (g i) H
section
variable {X:Cx}{a b c:Expr}{ta tb tc:TE}{pos:Pos}
def binT (ha:PE X a ta)(hb:PE X b tb){pins:List (Addr×Obj)}{s:Shared}{σ:St}{H:Hp}{R:V->V->Hp->Prop}(I:Inv X pins σ H s)
  (h:ta σ H λx H1=>tb σ H1 λy H2=>R x y H2) {Q:Value->Shared->Prop} {f:Value->Value->Sem Value}
  (hf:∀ v u s2 x y H2,Inv X pins σ H2 s2->RelV x v->RelV y u->R x y H2->wpAny (model X.prog X.w) X.A (f v u) Q X.xe s2) :
  wpAny (model X.prog X.w) X.A (eval a X.env) (λv s₁=>wpAny (model X.prog X.w) X.A (eval b X.env) (λu s₂=>wpAny (model X.prog X.w) X.A (f v u) Q X.xe s₂) X.xe s₁) X.xe s:=by
 refine thn (ha pins s σ H _ I h) λv s1 ⟨x,H1,I1,r1,q1⟩=>?_;refine thn (hb pins s1 σ H1 _ I1 q1) λu s2 ⟨y,H2,I2,r2,q2⟩=>?_;exact hf v u s2 x y H2 I2 r1 r2 q2
def aP {op:Operator}{r:R2}(ho:OpR X (Em op) r)(ha:PE X a ta)(hb:PE X b tb):PE X (.BinOp a op b pos) (tOp r ta tb):=by
 intro pins s σ H Q I h;exact wpAny_BinOp (binT ha hb I h λv u s2 x y H2 I2 rx ry q=>ho pins s2 σ H2 x y v u Q I2 rx ry q)
def aI2 {r:V->Hp->VK->Prop}(ho:UnR X (unaryOp op) r)(ha:PE X a ta):PE X (.UnaryOp op a pos) (tUn r ta):=by
 intro pins s σ H Q I h;exact UnaryOp_ (thn (ha pins s σ H _ I h) λv s1 ⟨x,H1,I1,r1,q1⟩=>ho pins s1 σ H1 x v Q I1 r1 q1)
def opI {C:Int->Int->Prop}{g:Int->Int->Int}(rule:∀ (i j:Int) (t u:Tok) (s:Shared) (Q:Value->Shared->Prop) (E:Value->Shared->Prop),C i j->Q (.int (g i j) s.toks) { s with toks:=s.toks+1 }->wpAny (model X.prog X.w) X.A (f (.int i t) (.int j u)) Q E s) :
  OpR X f (rI C λi j=>.int (g i j)):=by
 intro pins s σ H x y v u Q I rx ry h;obtain ⟨i,j,rfl,rfl,hc,q⟩:=h;obtain ⟨t,rfl⟩:=rx;obtain ⟨t',rfl⟩:=ry;exact rule i j t t' s _ _ hc ⟨.int (g i j),H,I.tok _,⟨_,rfl⟩,q⟩
def opI0 {g:Int->Int->Int}(rule:∀ (i j:Int) (t u:Tok) (s:Shared) (Q:Value->Shared->Prop) (E:Value->Shared->Prop),Q (.int (g i j) s.toks) { s with toks:=s.toks+1 }->wpAny (model X.prog X.w) X.A (f (.int i t) (.int j u)) Q E s) :
  OpR X f (rI0 λi j=>.int (g i j)):=by
 intro pins s σ H x y v u Q I rx ry h;obtain ⟨i,j,rfl,rfl,q⟩:=h;obtain ⟨t,rfl⟩:=rx;obtain ⟨t',rfl⟩:=ry;exact rule i j t t' s _ _ ⟨.int (g i j),H,I.tok _,⟨_,rfl⟩,q⟩
def opB0 {g:Int->Int->Bool}(rule:∀ (i j:Int) (t u:Tok) (s:Shared) (Q:Value->Shared->Prop) (E:Value->Shared->Prop),Q (.bool (g i j)) s->wpAny (model X.prog X.w) X.A (f (.int i t) (.int j u)) Q E s) :
  OpR X f (rI0 λi j=>.bl (g i j)):=by
 intro pins s σ H x y v u Q I rx ry h;obtain ⟨i,j,rfl,rfl,q⟩:=h;obtain ⟨t,rfl⟩:=rx;obtain ⟨t',rfl⟩:=ry;exact rule i j t t' s _ _ ⟨.bl (g i j),H,I,rfl,q⟩
def CDiv (i j:Int):Prop:=0<j/\j<1073741824
def CDivN (i j:Int):Prop:=j≠0/\j.natAbs<1073741824
def CPow (i j:Int):Prop:=0<=j/\j<=1000000/\i.natAbs<2^64
def CMul (i j:Int):Prop:=(-(2^64)<i/\i<2^64)\/(-(2^64)<j/\j<2^64)
def bP:OpR X (Em .Add) (rI0 λi j=>.int (i+j)):=opI0 λ_ _ _ _ _ _ _ q=>add_int q
def rL:OpR X (Em .Sub) (rI0 λi j=>.int (i-j)):=opI0 λ_ _ _ _ _ _ _ q=>sub_int q
def bQ:OpR X (Em .Mod) (rI (λ_ j=>0<j) λi j=>.int (i%j)):=opI λi j _ _ _ _ _ hc q=>by
 have h1:(0:Int)<j:=hc;exact mod_int' (by omega) (by rw [Int.fmod_eq_emod_of_nonneg i (by omega)];exact q)
def unI {g:Int->Int}(rule:∀ (i:Int) (t:Tok) (s:Shared) (Q:Value->Shared->Prop) (E:Value->Shared->Prop),Q (.int (g i) s.toks) { s with toks:=s.toks+1 }->wpAny (model X.prog X.w) X.A (f (.int i t)) Q E s) :
  UnR X f (rU λi=>.int (g i)):=by
 intro pins s σ H x v Q I rx h;obtain ⟨i,rfl,q⟩:=h;obtain ⟨t,rfl⟩:=rx;exact rule i t s _ _ ⟨.int (g i),H,I.tok _,⟨_,rfl⟩,q⟩
def aF1:UnR X (unaryOp .USub) (rU λi=>.int (-i)):=unI λ_ _ _ _ _ q=>neg_int q
end
def scal:V->V->Bool
 |.non,.non=>true|.non,.int _=>true|.int _,.non=>true|.non,.bl _=>true|.bl _,.non=>true|.non,.str _=>true|.str _,.non=>true
 |.int _,.int _=>true|.bl _,.bl _=>true|.str _,.str _=>true|.byt _,.byt _=>true
 |.int _,.str _=>true|.str _,.int _=>true|.bl _,.str _=>true|.str _,.bl _=>true
 |_,_=>false
def rEq:R2:=λx y H Q=>scal x y=true/\Q (.bl (decide (x=y))) H
def rNe:R2:=λx y H Q=>scal x y=true/\Q (.bl (!decide (x=y))) H
def zD {i j:Int}:decide (V.int i=V.int j)=(i==j):=by
 rw [CC];simp
def aC7 {i j:Bool}:decide (V.bl i=V.bl j)=(i==j):=by
 rw [CC];simp
def zC :decide (V.str i=V.str j)=(i==j):=by
 rw [CC];simp
def zE :decide (V.byt i=V.byt j)=(i.toList==j.toList):=by
 rw [CC];cases i;cases j;simp
section
variable {X:Cx}{a b c:Expr}{ta tb tc:TE}{pos:Pos}
def bL {σ:St}{k k':Bool}(I:Inv X pins σ H s)(q:Q (.bl k) H)(e:k=k'):EP X pins σ Q (.bool k') s:=by
 subst e;exact ⟨.bl k,H,I,rfl,q⟩
def dD:OpR X (Bl .Eq) rEq:=by
 intro pins s σ H x y v u Q I rx ry h;obtain ⟨hs,q⟩:=h;cases x with
 |non=>
  cases rx;cases y with
  |non=>cases ry;exact PySem.EqNone.eq_none_none (bL I q (by simp))
  |bl j=>cases ry;exact PySem.EqNone.eq_none_bool (bL I q (by simp))
  |int j=>obtain ⟨t',rfl⟩:=ry;exact PySem.EqNone.eq_none_int (bL I q (by simp))
  |str j=>obtain ⟨t',rfl⟩:=ry;exact PySem.EqNone.eq_none_str (bL I q (by simp))
  |_=>exact absurd (show false=true from hs) AB
 |bl i=>
  cases rx;cases y with
  |non=>cases ry;exact PySem.EqNone.eq_bool_none (bL I q (by simp))
  |bl j=>cases ry;exact eq_bool (bL I q aC7)
  |str j=>obtain ⟨t',rfl⟩:=ry;exact PySem.EqMixed.eq_bool_str (bL I q (by simp))
  |_=>exact absurd (show false=true from hs) AB
 |int i=>
  obtain ⟨t,rfl⟩:=rx;cases y with
  |non=>cases ry;exact PySem.EqNone.eq_int_none (bL I q (by simp))
  |int j=>obtain ⟨t',rfl⟩:=ry;exact eq_int (bL I q zD)
  |str j=>obtain ⟨t',rfl⟩:=ry;exact PySem.EqMixed.eq_int_str (bL I q (by simp))
  |_=>exact absurd (show false=true from hs) AB
 |str i=>
  obtain ⟨t,rfl⟩:=rx;cases y with
  |non=>cases ry;exact PySem.EqNone.eq_str_none (bL I q (by simp))
  |bl j=>cases ry;exact PySem.EqMixed.eq_str_bool (bL I q (by simp))
  |int j=>obtain ⟨t',rfl⟩:=ry;exact PySem.EqMixed.eq_str_int (bL I q (by simp))
  |str j=>obtain ⟨t',rfl⟩:=ry;exact eq_str (bL I q zC)
  |_=>exact absurd (show false=true from hs) AB
 |byt i=>
  obtain ⟨t,rfl⟩:=rx;cases y with
  |byt j=>obtain ⟨t',rfl⟩:=ry;exact PySem.W.eq_bytes (bL I q zE)
  |_=>exact absurd (show false=true from hs) AB
 |_=>cases y<;>exact absurd (show false=true from hs) AB
def pP:OpR X (Bl .NotEq) rNe:=by
 intro pins s σ H x y v u Q I rx ry h;obtain ⟨hs,q⟩:=h;cases x with
 |non=>
  cases rx;cases y with
  |non=>cases ry;exact PySem.EqNone.ne_none_none (bL I q (by simp))
  |bl j=>cases ry;exact PySem.EqNone.ne_none_bool (bL I q (by simp))
  |int j=>obtain ⟨t',rfl⟩:=ry;exact PySem.EqNone.ne_none_int (bL I q (by simp))
  |str j=>obtain ⟨t',rfl⟩:=ry;exact PySem.EqNone.ne_none_str (bL I q (by simp))
  |_=>exact absurd (show false=true from hs) AB
 |bl i=>
  cases rx;cases y with
  |non=>cases ry;exact PySem.EqNone.ne_bool_none (bL I q (by simp))
  |bl j=>cases ry;exact ne_bool (bL I q (congrArg not aC7))
  |str j=>obtain ⟨t',rfl⟩:=ry;exact PySem.EqMixed.ne_bool_str (bL I q (by simp))
  |_=>exact absurd (show false=true from hs) AB
 |int i=>
  obtain ⟨t,rfl⟩:=rx;cases y with
  |non=>cases ry;exact PySem.EqNone.ne_int_none (bL I q (by simp))
  |int j=>obtain ⟨t',rfl⟩:=ry;exact ne_int (bL I q (congrArg not zD))
  |str j=>obtain ⟨t',rfl⟩:=ry;exact PySem.EqMixed.ne_int_str (bL I q (by simp))
  |_=>exact absurd (show false=true from hs) AB
 |str i=>
  obtain ⟨t,rfl⟩:=rx;cases y with
  |non=>cases ry;exact PySem.EqNone.ne_str_none (bL I q (by simp))
  |bl j=>cases ry;exact PySem.EqMixed.ne_str_bool (bL I q (by simp))
  |int j=>obtain ⟨t',rfl⟩:=ry;exact PySem.EqMixed.ne_str_int (bL I q (by simp))
  |str j=>obtain ⟨t',rfl⟩:=ry;exact ne_str (bL I q (congrArg not zC))
  |_=>exact absurd (show false=true from hs) AB
 |byt i=>
  obtain ⟨t,rfl⟩:=rx;cases y with
  |byt j=>obtain ⟨t',rfl⟩:=ry;exact PySem.W.ne_bytes (bL I q (congrArg not zE))
  |_=>exact absurd (show false=true from hs) AB
 |_=>cases y<;>exact absurd (show false=true from hs) AB
def wV:OpR X (Bl .Lt) (rI0 λi j=>.bl (decide (i<j))):=opB0 λ_ _ _ _ _ _ _ q=>lt_int q
def aA2:OpR X (Bl .LtE) (rI0 λi j=>.bl (decide (i<=j))):=opB0 λ_ _ _ _ _ _ _ q=>le_int q
def aG6:OpR X (Bl .Gt) (rI0 λi j=>.bl (decide (j<i))):=opB0 λ_ _ _ _ _ _ _ q=>gt_int q
def aEt:OpR X (Bl .GtE) (rI0 λi j=>.bl (decide (j<=i))):=opB0 λ_ _ _ _ _ _ _ q=>ge_int q
def wX:OpR X (Bl .In) (λx y H Q=>∃ i j,x=.str i/\y=.str j/\Q (.bl (!(AI.Str.occurrences j i 0 j.length 1).isEmpty)) H):=by
 intro pins s σ H x y v u Q I rx ry h;obtain ⟨i,j,rfl,rfl,q⟩:=h;obtain ⟨t,rfl⟩:=rx;obtain ⟨t',rfl⟩:=ry;exact in_str (bL I q rfl)
def wW:OpR X (Bl .Is) (λx y H Q=>y=.non/\Q (.bl (decide (x=.non))) H):=by
 intro pins s σ H x y v u Q I rx ry h;obtain ⟨rfl,q⟩:=h;cases ry;refine is_none_gen (bL I q ?_);cases x<;>first
  |(cases rx;rfl)
  |(obtain ⟨t,rfl⟩:=rx;rfl)
def wO:OpR X (Bl .IsNot) (λx y H Q=>y=.non/\Q (.bl (!decide (x=.non))) H):=by
 intro pins s σ H x y v u Q I rx ry h;obtain ⟨rfl,q⟩:=h;cases ry;refine isnot_none_gen (bL I q ?_);cases x<;>first
  |(cases rx;rfl)
  |(obtain ⟨t,rfl⟩:=rx;rfl)
def isObj:HO->Bool
 |.lst _=>true
 |.ins _ _ _=>true
 |_=>false
def aV (b:Expr)(h:op≠.In:=by decide)(h2:op≠.NotIn:=by decide):behindInMarks op b=false:=by
 have e1:(op==CmpOp.In)=false:=by cases op<;>first|rfl|exact absurd rfl h
 have e2:(op==CmpOp.NotIn)=false:=by cases op<;>first|rfl|exact absurd rfl h2
 cases b<;>simp [behindInMarks,e1,e2]
def dB {op:CmpOp}{r:R2}(ho:OpR X (Bl op) r)(ha:PE X a ta)(hb:PE X b tb)(hm:behindInMarks op b=false):PE X (.Compare a [op] [b] pos) (tOp r ta tb):=by
 intro pins s σ H Q I h;exact wpAny_Compare1 (binT ha hb I h λv u s2 x y H2 I2 rx ry q=>ho pins s2 σ H2 x y v u Q I2 rx ry q) hm
def aIi (t:TE):TT:=λσ H Q=>t σ H (RB Q)
def aM {r:R2}(ho:OpR X (Bl op) r)(ha:PE X a ta)(hb:PE X b tb)(hm:behindInMarks op b=false):PT X (.Compare a [op] [b] pos) (aIi (tOp r ta tb)):=by
 intro pins s σ H Q I h;refine wpAny_isTrue_Compare1 (thn (ha pins s σ H _ I h) λv s1 ⟨x,H1,I1,r1,q1⟩=>thn (hb pins s1 σ H1 _ I1 q1) λu s2 ⟨y,H2,I2,r2,q2⟩=>
  thn (ho pins s2 σ H2 x y v u _ I2 r1 r2 q2) λc s3 ⟨z,H3,I3,r3,k,e,q3⟩=>?_) hm
 subst e;cases r3;exact Dy ⟨H3,I3,q3⟩
def aGc (r r':R2)(ta tb tc:TE):TE:=λσ H Q=>ta σ H λx H1=>tb σ H1 λy H2=>r x y H2 λz H3=>RIf z (tc σ H3 λw' H4=>r' y w' H4 Q) (Q (.bl false) H3)
def rH {r r':R2}(ho:OpR X (Bl op) r)(ho':OpR X (Bl op') r')(ha:PE X a ta)(hb:PE X b tb)(hc:PE X c tc)(hm:lastMarks [op,op'] [b,c]=false:=by with_unfolding_all rfl):PE X (.Compare a [op,op'] [b,c] pos) (aGc r r' ta tb tc):=by
 intro pins s σ H Q I h;refine Compare_chain (thn (ha pins s σ H _ I h) λv s1 ⟨x,H1,I1,r1,q1⟩=>chain_link (thn (hb pins s1 σ H1 _ I1 q1) λu s2 ⟨y,H2,I2,r2,q2⟩=>
  thn (ho pins s2 σ H2 x y v u _ I2 r1 r2 q2) λd s3 ⟨z,H3,I3,r3,k,e,q3⟩=>?_)) hm
 subst e;cases r3;refine Dy ?_;cases k with
 |false=>exact ite_ff ⟨.bl false,H3,I3,rfl,q3⟩
 |true=>exact ite_tt (chain_last (thn (hc pins s3 σ H3 _ I3 q3) λw' s4 ⟨z',H4,I4,r4,q4⟩=>ho' pins s4 σ H4 y z' u w' Q I4 r2 r4 q4))
def TruV (K:Ab)(x:V)(H:Hp)(k:Bool):Prop:=
 match x with
 |.non=>k=false
 |.bl b=>k=b
 |.int i=>k=(i != 0)
 |.str y=>y.length<=Au/\k=((y.length:Int) != 0)
 |.byt y=>y.size<=Au/\k=((y.size:Int) != 0)
 |.ref p=>(∃ xs,SqL K H p xs/\k=!xs.isEmpty)\/(∃ xs,SqT K H p xs/\k=!xs.isEmpty)\/∃ kvs,H p=some (.dK kvs)/\k=!kvs.isEmpty
 |_=>False
def kQ:(Au:Nat)<2^63:=by rw [sizeLine_eq];decide
def fU:OpR X (Em .Add) (λx y H Q=>∃ i j,x=.str i/\y=.str j/\i.length+j.length<=Au/\Q (.str (i++j)) H):=by
 intro pins s σ H x y v u Q I rx ry h;obtain ⟨i,j,rfl,rfl,hz,q⟩:=h;obtain ⟨t,rfl⟩:=rx;obtain ⟨t',rfl⟩:=ry;exact add_str (λt' tk=>⟨.str (i++j),H,I.tok _,⟨_,rfl⟩,q⟩) hz
def PlainIxT (b:Expr):Prop:=∀ o i,subscripted b false o i=operate [o,i] (getItem o i)
def vals1 (r:Vals [x] us):∃ u,us=[u]/\RelV x u:=by
 cases r with
 |cons r1 r2=>cases r2;exact ⟨_,rfl,r1⟩
def vals2 (r:Vals [x,y] us):∃ u w',us=[u,w']/\RelV x u/\RelV y w':=by
 cases r with
 |cons r1 r2=>
  cases r2 with
  |cons r3 r4=>cases r4;exact ⟨_,_,rfl,r1,r3⟩
def gR:fG X (.builtin "abs") (λxs H Q=>∃ i,xs=[.int i]/\Q (.int (if i<0 then -i else i)) H):=by
 intro pins s σ H xs us Q I r h;obtain ⟨i,rfl,q⟩:=h;obtain ⟨u,rfl,t,rfl⟩:=vals1 r;exact call_abs_int λu tk=>⟨.int (if i<0 then -i else i),H,I.tok _,⟨_,rfl⟩,q⟩
def zO (hc:X.calm=true):fG X (.builtin "min") (λxs H Q=>∃ i j,xs=[.int i,.int j]/\Q (.int (if j<i then j else i)) H):=by
 intro pins s σ H xs us Q I r h;obtain ⟨i,j,rfl,q⟩:=h;obtain ⟨u,w',rfl,⟨t,rfl⟩,⟨t',rfl⟩⟩:=vals2 r;refine min_two_ints (I.ok.hd hc) λh' tk k=>⟨_,H,I.kept k,?_,q⟩
 by_cases hj:j<i
 ·rw [if_pos hj,if_pos hj];exact ⟨_,rfl⟩
 ·rw [if_neg hj,if_neg hj];exact ⟨_,rfl⟩
def zQ:fG X (.type "int") (λxs H Q=>(∃ i,xs=[.int i]/\Q (.int i) H)\/∃ k,xs=[.bl k]/\Q (.int (if k then 1 else 0)) H):=by
 intro pins s σ H xs us Q I r h
 rcases h with ⟨i,rfl,q⟩|⟨k,rfl,q⟩
 ·obtain ⟨u,rfl,t,rfl⟩:=vals1 r
  exact call_int_int ⟨.int i,H,I,⟨_,rfl⟩,q⟩
 ·obtain ⟨u,rfl,r1⟩:=vals1 r
  cases r1;exact call_int_bool ⟨.int (if k then 1 else 0),H,I.tok _,⟨_,rfl⟩,q⟩
def LenV (K:Ab)(x:V)(H:Hp)(n:Nat):Prop:=
 match x with
 |.str y=>y.length<=Au/\n=y.length
 |.byt y=>y.size<=Au/\n=y.size
 |.ref p=>(∃ xs,SqL K H p xs/\n=xs.length)\/∃ xs,SqT K H p xs/\n=xs.length
 |_=>False
end
structure ObjM (h:Heap)(x dx C:Addr)(mA:Str->Option Value):Prop where
 obj:h.get? x=some (Dp C dx)
 ns:h.Ns1 dx mA
 ne:dx≠x
def yB {h:Heap}{dx:Addr}{mA:Str->Option Value}(n:h.Ns1 dx mA):∃ od,h.get? dx=some od/\∀ name,PySem.W.lookIn name od=some (mA name):=by
 obtain ⟨o,es,ep,ho,hd,hk,_,hm⟩:=n;refine ⟨o,ho,λname=>?_⟩;have e:=hm name;unfold nsFind findBy at e;rw [<- Array.find?_toList] at e;unfold PySem.W.lookIn;rw [hd];dsimp only;split
 ·rename_i y q
  rw [q] at e;exact congrArg some e
 ·rename_i q
  rw [q] at e;have a:es.toList.any (·.refKey)=false:=by
   rw [List.any_eq_false];intro y hy;obtain ⟨z,t,hkey⟩:=hk y (Array.mem_toList_iff.mp hy);simp [DictEntry.refKey,hkey]
  have a':¬ es.toList.any (·.refKey)=true:=by rw [a];exact AB
  rw [if_neg a'];exact congrArg some e
def ObjM.look (I:ObjM h x dx C mA):∃ od,PySem.W.InstAt h x (Dp C dx) C (some od)/\∀ name,PySem.W.lookIn name od=some (mA name):=
 let ⟨od,ho,hl⟩:=yB I.ns
 ⟨od,⟨I.obj,rfl,rfl,ho⟩,hl⟩
section
variable {prog:Av}{w:World}{A:Around}{E:Value->Shared->Prop}{s:Shared}{K:Ab}{x dx C f:Addr}{mA:Str->Option Value}{name:Str}{v:Value}
def get_map {expr:Bool}(X:K.In s.heap)(I:ObjM s.heap x dx C mA)(hg:PySem.W.plainGet K C name=true)(hh:PySem.W.hasDictIn K C=true)(ha:BP K (.ref C) name=some none)(hv:mA name=some v)(hv':PySem.W.handedIn v=true)(h:Q v { s with toks:=s.toks+1 }) :
  wpAny (model prog w) A (getAttr (.ref x) name expr) Q E s:=by
 obtain ⟨od,J,hl⟩:=I.look;exact PySem.W.get_value X J (PySem.W.plainGet_of hg).1 (PySem.W.findObj_own hh ha rfl (by rw [hl,hv])) hv' h
def aBu (X:K.In s.heap)(I:ObjM s.heap x dx C mA)(hg:PySem.W.plainGet K C name=true)(hf:BP K (.ref C) name=some (some (.ref f)))(ht:PySem.W.isFn K (.ref f)=true)(hv:mA name=none)(h:Q (.ref f,[.ref x]) s) :
  wpAny (model prog w) A (getMethod (.ref x) name pl) Q E s:=by
 obtain ⟨od,J,hl⟩:=I.look;exact PySem.W.method_fn X J (PySem.W.plainGet_of hg).1 (PySem.W.plainGet_of hg).2 hf (beq_iff_eq.mp ht) (by show (PySem.W.lookIn name od).map (·.isSome)=some false;rw [hl,hv];rfl) h
def aDt (X:K.In s.heap)(I:ObjM s.heap x dx C mA)(hs:BP K (.ref C) "__setattr__" = some (some (.builtin "object.__setattr__")))(hp:PySem.W.plainOver K C=true)(ht:PySem.W.takerIn K C name=some none)(hh:PySem.W.hasDictIn K C=true)(hw:PySem.Within mA ns)(hsz:ns.length<=Au)(h:∀ h',ObjM h' x dx C (λy=>if y=name then some v else mA y)->Cj dx s.heap h'->Q () { s with heap:=h',toks:=s.toks+2 }) :
  wpAny (model prog w) A (setAttr (.ref x) name v) Q E s:=by
 obtain ⟨od,J,hl⟩:=I.look;refine PySem.W.set_plain X J hs (PySem.W.osa_open (s:={ s with toks:=s.toks+1 }) (r:=none) X J hp ht λb=>?_);obtain ⟨cd,hc,hd'⟩:=PySem.W.any_some hh;have hx:s.heap.get? x=some ⟨.ref C,some dx,.plain,#[]⟩:=I.obj;refine Aa (Ag (Aa (Aa (wpAny_loadPart hx (Aa (PySem.W.Looks.here (s:={ s with toks:=s.toks+1 }) (PySem.W.looks_clsIn X hc) ?_))))));rw [hd'];refine Ag (a:=some dx) (Aa (Ag (Aa ?_)));refine wpAny_nsSet1 (s:={ s with toks:=s.toks+1 }) I.ns λh' hn2 hs2=>?_;obtain ⟨oD,esD,epD,hoD,hdD,hcD⟩:=hn2.count (PySem.Within.cons name v hw);refine Aa (wpAny_lookBehind hoD (by rw [hdD];exact pastItsLine_dict (AU hcD (by rw [AZ];omega))) ?_);exact Ag (h _ ⟨(hs2.2 _ (Bg I.ne)).trans I.obj,hn2,I.ne⟩ hs2)
def aBo (X:K.In s.heap)(hm:PySem.W.makesIn K C=true)(hi:BP K (.ref C) "__init__" = some (some (.ref f)))(hf:PySem.W.typeIn K (.ref f)=some (.type "function"))(h:Ew (model prog w) (A.under (.builtin "type.__call__" ⟨.ref C::vs,kw⟩)) (.call (.ref f) ⟨.ref (s.heap.objs.size+1)::vs,kw⟩) (PySem.W.InitBack (s.heap.objs.size+1) R)
   { s with heap:=(s.heap.push Cv).push (Dp C s.heap.objs.size) }) :
  Ew (model prog w) A (.call (.ref C) ⟨vs,kw⟩) R s:=by
 obtain ⟨hh,g,d,t,os⟩:=s;exact PySem.W.make_core (PySem.W.makes_of X hm) (PySem.W.looks_findIn X hi) (λself=>PySem.W.bind_fn X self hf) (.inl rfl) h
end
def putF (f:Str)(v:V):List (Str×V)->List (Str×V)
  |[]=>[(f,v)]
  |(g,x)::r=>if g=f then (g,v)::r else (g,x)::putF f v r
theorem bG (f g:Str)(v:V):∀ fs:List (Str×V),(putF f v fs).lookup g=if g=f then some v else fs.lookup g
  |[]=>by
    show Dx g [(f,v)]=_
    by_cases h:g=f
    · have hb:(g==f)=true:=beq_iff_eq.mpr h;simp only [Dx,hb,if_pos h]
    · have hb:(g==f)=false:=beq_eq_false_iff_ne.mpr h;simp only [Dx,hb,if_neg h]
  |(k,x)::r=>by
    have ih:=bG f g v r;rw [show putF f v ((k,x)::r)=(if k=f then (k,v)::r else (k,x)::putF f v r) from rfl]
    by_cases hk:k=f
    · rw [if_pos hk]
      by_cases h:g=k
      · have hb:(g==k)=true:=beq_iff_eq.mpr h;simp only [Dx,hb,if_pos (h.trans hk)]
      · have hb:(g==k)=false:=beq_eq_false_iff_ne.mpr h;simp only [Dx,hb,if_neg (λe:g=f=>h (e.trans hk.symm))]
    · rw [if_neg hk]
      by_cases h:g=k
      · have hb:(g==k)=true:=beq_iff_eq.mpr h;simp only [Dx,hb,if_neg (λe:g=f=>hk (h.symm.trans e))]
      · have hb:(g==k)=false:=beq_eq_false_iff_ne.mpr h;simp only [Dx,hb];exact ih
theorem jR (f:Str)(v:V):∀ fs:List (Str×V),f∈(putF f v fs).map (·.1)/\∀ g,g∈fs.map (·.1)->g∈(putF f v fs).map (·.1)
  |[]=>⟨by simp [putF],λg h=>by simp at h⟩
  |(k,x)::r=>by
    obtain ⟨i1,i2⟩:=jR f v r;rw [show putF f v ((k,x)::r)=(if k=f then (k,v)::r else (k,x)::putF f v r) from rfl]
    by_cases hk:k=f
    · rw [if_pos hk];subst hk;exact ⟨by simp,λg h=>by simpa using h⟩
    · rw [if_neg hk];refine ⟨?_,λg h=>?_⟩
      · rw [An];exact Ah _ i1
      · rw [An] at h ⊢
        rcases AA.mp h with e|e
        · exact AA.mpr (.inl e)
        · exact Ah _ (i2 g e)
theorem jQ (f:Str)(v:V):∀ fs:List (Str×V),(putF f v fs).length<=fs.length+1
  |[]=>by simp [putF]
  |(k,x)::r=>by
    have ih:=jQ f v r;rw [show putF f v ((k,x)::r)=(if k=f then (k,v)::r else (k,x)::putF f v r) from rfl]
    by_cases hk:k=f
    · rw [if_pos hk,AZ,AZ];omega
    · rw [if_neg hk,AZ,AZ];omega
def RelO.some_of (r:RelO (some v) o):∃ u,o=some u/\RelV v u:=by
 cases o with
 |none=>exact (show False from r).elim
 |some u=>exact ⟨u,rfl,r⟩
def RelO.none_of (r:RelO none o):o=none:=by
 cases o with
 |none=>rfl
 |some u=>exact (show False from r).elim
def yO (r:RelV v u):PySem.W.handedIn u=true:=by
 cases v with
 |non=>cases (show u=BV from r);rfl
 |bl b=>cases (show u=Value.bool b from r);rfl
 |int i=>obtain ⟨t,e⟩:=(show ∃ t,u=Value.int i t from r);cases e;rfl
 |str x=>obtain ⟨t,e⟩:=(show ∃ t,u=Value.str x t from r);cases e;rfl
 |byt b=>obtain ⟨t,e⟩:=(show ∃ t,u=Value.bytes b t from r);cases e;rfl
 |flt b=>obtain ⟨t,e⟩:=(show ∃ t,u=Value.float b t from r);cases e;rfl
 |ref a=>cases (show u=AC a from r);rfl
 |ty n=>cases (show u=Dd n from r);rfl
section
variable {P:Av}{w:World}{H H':Hp}{h h':Heap}{a C dx:Addr}{fs fs':List (Str×V)}
def pZ (hok:HOk P w H h)(e:H a=some (.ins C dx fs)):∃ mA,ObjM h a dx C mA/\(∀ f,RelO (fs.lookup f) (mA f))/\PySem.Within mA (fs.map (·.1))/\fs.length<=1000/\H dx=some (.own a):=by
 obtain ⟨d,z,ne,ob,mA,n,r,q⟩:=(show ObjOk P w H h a (.ins C dx fs) from hok a _ e);exact ⟨mA,⟨ob,n,ne⟩,r,q,z,d⟩
end
structure Cls (K:Ab)(C:Addr):Prop where
 pg:PySem.W.plainGet K C Str.empty=true
 hd:PySem.W.hasDictIn K C=true
 po:PySem.W.plainOver K C=true
 sa:BP K (.ref C) "__setattr__" = some (some (.builtin "object.__setattr__"))
theorem Cls.get {K:Ab}{C:Addr}(c:Cls K C)(f:Str):PySem.W.plainGet K C f=true:=c.pg
def NoAttr (K:Ab)(C:Addr)(f:Str):Prop:=BP K (.ref C) f=some none
def NoAttr.taker {K:Ab}{C:Addr}{f:Str}(n:NoAttr K C f):PySem.W.takerIn K C f=some none:=by
 unfold PySem.W.takerIn;rw [show BP K (.ref C) f=some none from n];rfl
structure Con (K:Ab)(C:Addr)(f:Str)(v:V)(u:Value):Prop where
 at_:BP K (.ref C) f=some (some u)
 rel:RelV v u
 get:PySem.W.specialIn K u "__get__" = some none
 cp:PySem.W.copiedNames.contains f=false
structure Meth (K:Ab)(C:Addr)(m:Str)(f:Addr):Prop where
 at_:BP K (.ref C) m=some (some (.ref f))
 fn:PySem.W.isFn K (.ref f)=true
 kp:CN K (.ref f)=true
section
variable {X:Cx}{pins:List (Addr×Obj)}{σ:St}{H:Hp}{s:Shared}{a C dx:Addr}{fs:List (Str×V)}{f:Str}{v:V}{A:Around}{E:Value->Shared->Prop}
def uH {b:Bool}(I:Inv X pins σ H s)(e:H a=some (.ins C dx fs))(c:Cls X.K C)(n:NoAttr X.K C f)(l:fs.lookup f=some v)(h:∀ u s',Inv X pins σ H s'->RelV v u->Q u s'):wpAny (model X.prog X.w) A (getAttr (.ref a) f b) Q E s:=by
 obtain ⟨mA,O,r,_,_,_⟩:=pZ I.hok e;obtain ⟨u,hu,ru⟩:=RelO.some_of (v:=v) (o:=mA f) (by rw [<- l];exact r f);exact get_map I.kIn O (c.get f) c.hd n hu (yO ru) (h u _ (I.tok _) ru)
def uG (I:Inv X pins σ H s)(e:H a=some (.ins C dx fs))(c:Cls X.K C)(k:Meth X.K C m g)(l:fs.lookup m=none)(h:Q (.ref g,[.ref a]) s):wpAny (model X.prog X.w) A (getMethod (.ref a) m pl) Q E s:=by
 obtain ⟨mA,O,r,_,_,_⟩:=pZ I.hok e;have hn:mA m=none:=RelO.none_of (by rw [<- l];exact r m);exact aBu I.kIn O (c.get m) k.at_ k.fn hn h
def tI (I:Inv X pins σ H s)(e:H a=some (.ins C dx fs))(c:Cls X.K C)(n:NoAttr X.K C f)(hl:fs.length<1000)(ry:RelV y u)(h:∀ s',Inv X pins σ (upd H a (.ins C dx (putF f y fs))) s'->Q () s'):wpAny (model X.prog X.w) A (setAttr (.ref a) f u) Q E s:=by
 obtain ⟨mA,O,r,wi,_,ho⟩:=pZ I.hok e;have hz:(fs.map (·.1)).length<=Au:=by rw [Af,sizeLine_eq];omega
 refine aDt I.kIn O c.sa c.po n.taker c.hd wi hz λh' O' sb=>h _ ?_;have hd:∃ o,h'.get? dx=some o:=let ⟨o,_,_,e',_⟩:=O'.ns;⟨o,e'⟩;refine I.write (x:=a) (e:=dx) (by rw [e];exact Ds) (.inr ho) (λb q hb z=>(sb.2 b hb).trans z) hd ?_;refine ⟨by rw [aI O.ne];exact ho,?_,O.ne,O'.obj,_,O'.ns,λg=>?_,λg hg=>?_⟩
 ·have:=jQ f y fs;omega
 ·show RelO ((putF f y fs).lookup g) (if g=f then some u else mA g)
  rw [bG]
  by_cases q:g=f
  ·rw [if_pos q,if_pos q];exact ry
  ·rw [if_neg q,if_neg q];exact r g
 ·by_cases q:g=f
  ·rw [q];exact (jR f y fs).1
  ·refine (jR f y fs).2 g (wi g λz=>hg ?_)
   show (if g=f then some u else mA g)=none;rw [if_neg q];exact z
def Inv.made (I:Inv X pins σ H s):Inv X pins σ (upd (upd H s.heap.objs.size (.own (s.heap.objs.size+1))) (s.heap.objs.size+1) (.ins C s.heap.objs.size []))
  { s with heap:=(s.heap.push Cv).push (Dp C s.heap.objs.size) }:=by
 have e1:(s.heap.push Cv).get? s.heap.objs.size=some Cv:=Ai s.heap rfl;have e2:((s.heap.push Cv).push (Dp C s.heap.objs.size)).get? (s.heap.objs.size+1)=some (Dp C s.heap.objs.size):=by
  have:=Ai (s.heap.push Cv) (o:=Dp C s.heap.objs.size) rfl;rwa [BL] at this
 have e3:(s.heap.push Cv).Ns s.heap.objs.size (λ_=>none):=⟨Cv,#[],_,e1,rfl,(λe he=>absurd he (by simp)),λ_=>rfl⟩;have I1:=I.laid (a:=s.heap.objs.size) (o:=.own (s.heap.objs.size+1)) (h':=s.heap.push Cv) (t':=s.toks) (λb u q=>Ad _ q) (Aj _) ⟨_,e1⟩;refine I1.laid (a:=s.heap.objs.size+1) (o:=.ins C s.heap.objs.size []) (t':=s.toks) (λb u q=>Ad _ q) (Nat.le_of_eq (BL _ _)) ?_;have ne:s.heap.objs.size≠s.heap.objs.size+1:=As (Cg _);refine ⟨by rw [aI ne,aB],Bi _,ne,e2,λ_=>none,(Heap.Ns1.of_empty e3).at λo q=>Ad _ q,λ_=>Ds,λy hy=>absurd rfl hy⟩
def aFp {w:World}(hb:EJ e f env (eval e env)=eval e env)(h:wpAny (model prog w) A (eval e env) (λo s₁=>wpAny (model prog w) A (getAttr o f true) Q E s₁) E s):wpAny (model prog w) A (eval (.Attribute e f pos) env) Q E s:=
 Attribute_any_ h (by rw [arm_eval_Attribute,hb])
end
inductive RFld (K:Ab)(f:Str)(Q:VK)(x:V)(H1:Hp):Prop
 |mk (a C dx:Addr) (fs:List (Str×V)) (v:V) (e:x=.ref a) (i:H1 a=some (.ins C dx fs)) (c:Cls K C) (n:NoAttr K C f) (l:fs.lookup f=some v) (h:Q v H1)
def tFld (K:Ab)(ta:TE)(f:Str):TE:=λσ H Q=>ta σ H (RFld K f Q)
def tCon (K:Ab)(ta:TE)(f:Str):TE:=λσ H Q=>ta σ H λx H1=>∃ a C dx fs v u,x=.ref a/\H1 a=some (.ins C dx fs)/\Cls K C/\Con K C f v u/\fs.lookup f=none/\Q v H1
def sFld (K:Ab)(ta tv:TE)(f:Str):TS:=λD σ H=>tv σ H λy H1=>ta σ H1 λx H2=>∃ a C dx fs,x=.ref a/\H2 a=some (.ins C dx fs)/\Cls K C/\NoAttr K C f/\fs.length<1000 /\
 D.nx σ (upd H2 a (.ins C dx (putF f y fs)))
def InOp (X:Cx)(op:Operator)(rd:V->V->Hp->VK->Prop):Prop:=
 ∀ (pins:List (Addr×Obj)) (s:Shared) (σ:St) (H:Hp) (x y:V) (u v:Value) (Q:VK),Inv X pins σ H s->RelV x u->RelV y v->rd x y H Q->wpAny (model X.prog X.w) X.A (inplaceOp op u v) (EP X pins σ Q) X.xe s
def sFldAug (K:Ab)(ta tv:TE)(rd:V->V->Hp->VK->Prop)(f:Str):TS:=λD σ H=>ta σ H λx H1=>∃ a C dx fs v,x=.ref a/\H1 a=some (.ins C dx fs)/\Cls K C/\NoAttr K C f/\fs.lookup f=some v /\
 tv σ H1 λy H2=>rd v y H2 λz H3=>∃ dx' fs',H3 a=some (.ins C dx' fs')/\fs'.length<1000/\D.nx σ (upd H3 a (.ins C dx' (putF f z fs')))
section
variable {X:Cx}{o e value:Expr}{f:Str}{pos pos' tpos:Pos}{ta tv:TE}
def cZ (he:PE X e ta)(hb:EJ e f X.env (eval e X.env)=eval e X.env):PE X (.Attribute e f pos) (tFld X.K ta f):=by
 intro pins s σ H Q I h;refine aFp hb (thn (he pins s σ H _ I h) λu s1 ⟨x,H1,I1,rx,a,C,dx,fs,v,ex,ea,c,n,l,q⟩=>?_);subst ex;obtain rfl:u=AC a:=rx;exact uH I1 ea c n l λu' s2 I2 ru=>⟨v,H1,I2,ru,q⟩
def fM (ha:PE X o ta)(hv:PE X value tv)(hs:swapsWith value (some (.Attribute o f pos')) pos.line X.env=pure false):PS X (.Assign [.Attribute o f pos'] value pos) (sFld X.K ta tv f):=by
 intro pins s σ H D I h;refine EU (thn (hv pins s σ H _ I h) λu s1 ⟨y,H1,I1,ry,q⟩=>thn (ha pins s1 σ H1 _ I1 q) λov s2 ⟨x,H2,I2,rx,a,C,dx,fs,ex,ea,c,n,l,q2⟩=>?_) hs;subst ex;obtain rfl:ov=AC a:=rx;exact tI I2 ea c n l ry λs3 I3=>⟨σ,_,I3,q2⟩
def rAdd:V->V->Hp->VK->Prop:=λx y H Q=>∃ i j,x=.int i/\y=.int j/\Q (.int (i+j)) H
def rSub:V->V->Hp->VK->Prop:=λx y H Q=>∃ i j,x=.int i/\y=.int j/\Q (.int (i-j)) H
end
section
variable {X:Cx}{pins:List (Addr×Obj)}{σ:St}{H:Hp}{s:Shared}{A:Around}{E:Value->Shared->Prop}{Q:Value->Shared->Prop}{c:Value}{b:Bool}
inductive TyOf (K:Ab)(H:Hp):V->Value->Prop where
 |non:TyOf K H .non (.type "NoneType")
 |bl (x:Bool):TyOf K H (.bl x) (.type "bool")
 |int (i:Int):TyOf K H (.int i) (.type "int")
 |str (x:Str):TyOf K H (.str x) (.type "str")
 |flt (x:UInt64):TyOf K H (.flt x) (.type "float")
 |lst {a:Addr} {xs:List V} (e:H a=some (.lst xs)):TyOf K H (.ref a) (.type "list")
 |frz {a:Addr} {o:Obj} {xs:List V} (e:H a=some (.frz o (.lst xs))):TyOf K H (.ref a) (.type "list")
 |tup {a:Addr} {xs:List V} (e:H a=some (.tup xs)):TyOf K H (.ref a) (.type "tuple")
 |dK {a:Addr} {kvs:List (Key×V)} (e:H a=some (.dK kvs)):TyOf K H (.ref a) (.type "dict")
 |dT {a:Addr} {kvs:List (List Key×V)} (e:H a=some (.dT kvs)):TyOf K H (.ref a) (.type "dict")
 |ins {a C dx:Addr} {fs:List (Str×V)} (e:H a=some (.ins C dx fs)) (cl:Cls K C) (ha:BP K (.ref C) "__class__" = some (some (.builtin "object.__class__")))
   (hn:PySem.W.specialIn K (.builtin "object.__class__") "__get__" = some (some (.builtin "getset_descriptor.__get__"))) (htk:PySem.W.takesIn K (.builtin "object.__class__")=some true)
   (hm:PySem.W.mroIn K C (.type "object")=some true):TyOf K H (.ref a) (.ref C)
end
structure Room (k:Nat)(A:Around):Prop where
 hd:A.handled=none
 dp:A.depth+3*k+5<recursionLimit
 un:A.units+16*k+200<cLine
 gd:A.guards=some []
def Room.mono {j k:Nat}(r:Room k A)(h:j<=k):Room j A:=⟨r.hd,by have:=r.dp;omega,by have:=r.un;omega,r.gd⟩
def Room.deeper {k:Nat}(r:Room (k+1) A)(env:Env):Room k (A.deeper env):=
 ⟨r.hd,by have:=r.dp;show A.depth+1+3*k+5<_;omega,by have:=r.un;show A.units+3+16*k+200<_;omega,r.gd⟩
theorem tZ {A:Around}{C:Addr}{us:List Value}{kw:List (Str×Value)}:(A.under (.builtin "type.__call__" ⟨.ref C::us,kw⟩)).depth=A.depth+1:=by
 first|rfl|simp [Around.under,Code.weight,Code.isCreation,Code.isGuard,Code.isCaller,Code.frames,Code.isFrame,guardIds]
theorem tY {A:Around}{C:Addr}{us:List Value}{kw:List (Str×Value)}:(A.under (.builtin "type.__call__" ⟨.ref C::us,kw⟩)).units=A.units+1:=by
 first|rfl|simp [Around.under,Code.cUnits,Code.frames,Code.isFrame]
theorem pU {A:Around}{C:Addr}{us:List Value}{kw:List (Str×Value)}:(A.under (.builtin "type.__call__" ⟨.ref C::us,kw⟩)).guards=A.guards:=by
 first|rfl|(cases h:A.guards<;>simp [Around.under,Code.guards,Code.isGuard,guardIds,pushGuards,h])
def Room.make {k:Nat}{A:Around}(r:Room (k+1) A)(C:Addr)(us:List Value)(kw:List (Str×Value)):Room k (A.under (.builtin "type.__call__" ⟨.ref C::us,kw⟩)):=
 ⟨r.hd,by have:=r.dp;rw [tZ];omega,by have:=r.un;rw [tY];omega,by rw [pU];exact r.gd⟩
theorem Room.depth {k:Nat}(r:Room k A):A.depth<recursionLimit:=by have:=r.dp;omega
def Room.units {k:Nat}(r:Room k A):A.units+64<cLine:=by have:=r.un;omega
def tNil:TA:=λ_ H Q=>Q [] H
def aAj (ta:TE)(tr:TA):TA:=λσ H Q=>ta σ H λx H1=>tr σ H1 λxs H2=>Q (x::xs) H2
section
variable {X:Cx}{e:Expr}{es:List Expr}{te:TE}{t:TA}{pos:Pos}
def aC:PA X [] tNil:=λ_ _ _ _ H Q I h=>EC ⟨[],H,I,.nil,h⟩
def aA (ha:PE X e te)(hr:PA X es t)(hs:AQ (e::es) X.env=(false,eval e X.env)::AQ es X.env:=by rfl):PA X (e::es) (aAj te t):=by
 intro pos pins s σ H Q I h;rw [hs];show wpAny _ _ (spliced ((false,eval e X.env)::backTo pos (AQ es X.env))) _ _ s;refine DF (thn (ha pins s σ H _ I h) λu s1 ⟨x,H1,I1,r1,q1⟩=>?_);exact thn (hr pos pins s1 σ H1 _ I1 q1) λus s2 ⟨xs,H2,I2,r2,q2⟩=>⟨x::xs,H2,I2,.cons r1 r2,q2⟩
def tTup (t:TA):TE:=λσ H Q=>t σ H λxs H1=>xs.length<=Au/\∀ p,H1 p=none->Q (.ref p) (upd H1 p (.tup xs))
def tLst (t:TA):TE:=λσ H Q=>t σ H λxs H1=>xs.length<=Au/\∀ p,H1 p=none->Q (.ref p) (upd H1 p (.lst xs))
def aW {x1}(h:PA X es t):PE X (.Tuple es x1 pos) (tTup t):=by
 intro pins s σ H Q I hq;refine wpAny_Tuple_spliced (thn (h pos pins s σ H _ I hq) λus s1 ⟨xs,H1,I1,r,z,q⟩=>⟨by rw [<- r.length];exact z,?_⟩);have hf:H1 s1.heap.objs.size=none:=I1.hok.fresh (Aj _);refine ⟨.ref s1.heap.objs.size,upd H1 s1.heap.objs.size (.tup xs),I1.laid (t':=s1.toks) (λb u e=>Ad _ e) (Aj _) ?_,rfl,q _ hf⟩;exact ⟨⟨z,_,Ai _ rfl,rfl⟩,us,r,⟨_,Ai _ rfl,rfl,_,rfl⟩⟩
def dP (h:PA X es t):PE X (.List es pos) (tLst t):=by
 intro pins s σ H Q I hq;refine wpAny_List_spliced (thn (h pos pins s σ H _ I hq) λus s1 ⟨xs,H1,I1,r,z,q⟩=>⟨by rw [<- r.length];exact z,?_⟩);have hf:H1 s1.heap.objs.size=none:=I1.hok.fresh (Aj _);refine ⟨.ref s1.heap.objs.size,upd H1 s1.heap.objs.size (.lst xs),I1.laid (t':=s1.toks) (λb u e=>Ad _ e) (Aj _) ?_,rfl,q _ hf⟩;exact ⟨z,us,0,r,Ai _ rfl⟩
end
abbrev Sp:=List V->Hp->VK->XK->Prop
abbrev CXT:=List Env->Hp->Shared->XK->Value->Shared->Prop
structure Env0 (P:Av)(w:World)(K:Ab)(mg:Str->Option Value)(base:Heap)(A:Around)(outer:List Env)(s:Shared)(H:Hp):Prop where
 frames:A.frames=some outer
 mod:Mod K mg base
 bs:∀ b o,base.get? b=some o->s.heap.get? b=some o/\H b=none
 bsz:base.objs.size<=s.heap.objs.size
 funs:s.heap.FunFrames base outer
 frf:∀ b∈frs outer,H b=none
 hok:HOk P w H s.heap
 bare:AllBare s.gens
def CE (outer:List Env)(P:Av)(w:World)(H:Hp)(s:Shared)(Q:VK)(u:Value)(s':Shared):Prop:=
 ∃ v H',s'.os=s.os/\AllBare s'.gens/\Un (frs outer) [] H H' s.heap s'.heap/\HOk P w H' s'.heap/\RelV v u/\Q v H'
def CR (CX:CXT)(outer:List Env)(P:Av)(w:World)(H:Hp)(s:Shared)(Q:VK)(E:XK)(r:Result)(s':Shared):Prop:=
 match r with
 |.ok (.ret u)=>CE outer P w H s Q u s'
 |.ok _=>False
 |.error e=>CX outer H s E e s'
structure FnOk (P:Av)(w:World)(K:Ab)(mg:Str->Option Value)(base:Heap)(CX:CXT)(k:Nat)(f:Addr)(fd:Az)(ps:List Str)(sp:Sp):Prop where
 len:∀ vs H Q E,sp vs H Q E->vs.length=ps.length
 run:∀ (A:Around) (outer:List Env) (s:Shared) (H:Hp) (args:Args) (us:List Value) (vs:List V) (Q:VK) (E:XK),Room k A->Env0 P w K mg base A outer s H->BindsTo s fd args (ps.zip us)->Vals vs us->sp vs H Q E ->
  Ew (model P w) A (.call (.ref f) args) (CR CX outer P w H s Q E) s
def FnOk.mono {P:Av}{w:World}{K:Ab}{mg:Str->Option Value}{base:Heap}{CX:CXT}{j k:Nat}{f:Addr}{fd:Az}{ps:List Str}{sp:Sp}(F:FnOk P w K mg base CX j f fd ps sp)(h:j<=k) :
  FnOk P w K mg base CX k f fd ps sp:=⟨F.len,λA outer s H args us vs Q E hr=>F.run A outer s H args us vs Q E (hr.mono h)⟩
def Env0.make {P:Av}{w:World}{K:Ab}{mg:Str->Option Value}{base:Heap}{A:Around}{outer:List Env}{s:Shared}{H:Hp}(e:Env0 P w K mg base A outer s H)(C:Addr)(us:List Value)(kw:List (Str×Value)) :
    Env0 P w K mg base (A.under (.builtin "type.__call__" ⟨.ref C::us,kw⟩)) outer s H:=⟨by first|exact e.frames|(simpa [Around.under,Code.envs,Code.isFrame,pushEnvs] using e.frames),e.mod,e.bs,e.bsz,e.funs,e.frf,e.hok,e.bare⟩
section
variable {X:Cx}{pins:List (Addr×Obj)}{σ:St}{H:Hp}{s s':Shared}
def Inv.env0 (I:Inv X pins σ H s):Env0 X.prog X.w X.K X.mg X.base X.A X.stack s H:=
 ⟨I.ok.frames,I.ok.mod,I.bs,AU I.ok.bsz I.sz,I.stack,I.stkFree,I.hok,I.bare⟩
def Inv.after (I:Inv X pins σ H s)(h:CE X.stack X.prog X.w H s Q u s'):EP X pins σ Q u s':=by
 obtain ⟨v,H',os,bare,un,hok,r,q⟩:=h;obtain ⟨hh,g,d,t,os'⟩:=s';obtain rfl:os'=s.os:=os;exact ⟨v,H',I.call (h':=hh) (g':=g) (d':=d) (t':=t) (ch:=[]) un hok bare (λb z=>absurd z (by simp)),r,q⟩
end
def aDm (sp:Sp)(dvs:List V)(E:XK)(t:TA):TE:=λσ H Q=>t σ H λvs H1=>sp (vs++dvs) H1 Q E
def tMeth (C:Addr)(m:Str)(sp:Sp)(dvs:List V)(E:XK)(ta:TE)(t:TA):TE:=λσ H Q=>ta σ H λx H1=>∃ a dx fs,x=.ref a/\H1 a=some (.ins C dx fs)/\fs.lookup m=none /\
 t σ H1 λvs H2=>sp (x::(vs++dvs)) H2 Q E
def aIm (C:Addr)(sp:Sp)(dvs:List V)(E:XK)(t:TA):TE:=λσ H Q=>t σ H λvs H1=>∀ x dx,H1 x=none->H1 dx=none->dx≠x ->
 sp (.ref x::(vs++dvs)) (upd (upd H1 dx (.own x)) x (.ins C dx [])) (λv H2=>v=.non/\Q (.ref x) H2) E
def Binds (K:Ab)(fd:Az)(ps:List Str)(ds:List Value):Prop:=
 ∀ (s:Shared) (us:List Value),K.In s.heap->(us++ds).length=ps.length->BindsTo s fd ⟨us,[]⟩ (ps.zip (us++ds))
theorem Binds.all {K:Ab}{fd:Az}{ps:List Str}(h:∀ us:List Value,us.length=ps.length->bindArgs fd ⟨us,[]⟩=pure (ps.zip us)):Binds K fd ps []:=λs us _ hl=>by
 rw [Cc] at hl ⊢;exact .of_eq (h us hl)
def gU (CX:CXT)(X:Cx)(E:XK):Prop:=∀ (pins:List (Addr×Obj)) (σ:St) (H:Hp) (s:Shared) (e:Value) (s':Shared),Inv X pins σ H s->CX X.stack H s E e s'->X.xe e s'
section
variable {X:Cx}{CX:CXT}{k:Nat}{f C:Addr}{fd:Az}{ps:List Str}{sp:Sp}{dvs:List V}{ds:List Value}{E:XK}{x m:Str}{p pos apos:Pos}{e o:Expr}{es:List Expr}{ta:TE}{t:TA}
def aCn {σ:St}(F:FnOk X.prog X.w X.K X.mg X.base CX k f fd ps sp)(hr:Room k X.A)(hb:Binds X.K fd ps ds)(hd:Vals dvs ds)(hx:gU CX X E)(I:Inv X pins σ H s)(r:Vals vs us)(h:sp (vs++dvs) H Q E):wpAny (model X.prog X.w) X.A (call (.ref f) us) (EP X pins σ Q) X.xe s:=by
 have r2:Vals (vs++dvs) (us++ds):=r.append hd;have hl:(us++ds).length=ps.length:=by rw [<- r2.length];exact F.len _ _ _ _ h
 refine Ez (Cn (F.run X.A X.stack s H ⟨us,[]⟩ (us++ds) (vs++dvs) Q E hr I.env0 (hb s us I.kIn hl) r2 h) λr s' hq=>?_);cases r with
 |error e=>exact hx pins σ H s e s' I hq
 |ok fl=>
  cases fl with
  |ret u=>exact I.after hq
  |next=>exact CH hq
  |brk=>exact CH hq
  |cont=>exact CH hq
def aEo (F:FnOk X.prog X.w X.K X.mg X.base CX k f fd ps sp)(hr:Room k X.A)(hg:Gl X x)(hm:X.mg x=some (.ref f))(hk:CN X.K (.ref f)=true)(hb:Binds X.K fd ps ds)(hd:Vals dvs ds)(hx:gU CX X E)
  (ha:PA X (e::es) t) (hdb:(x==("__debug__":Str))=false:=by decide) (he:AQ (e::es) X.env=(false,eval e X.env)::AQ es X.env:=by rfl) (hpl:(backTo pos (AQ es X.env)).any (·.1)=false:=by rfl) :
  PE X (.Call (.Name x p) (e::es) [] pos) (aDm sp dvs E t):=by
 intro pins s σ H Q I h;refine CQ (fR I hg hm ?_ hdb);refine Ei (h₀:=X.base) I.ok.mod.kin hk (thn (ha pos pins s σ H _ I h) λus s1 ⟨vs,H1,I1,r,q⟩=>⟨I1.kIn,?_⟩) he hpl;exact aCn F hr hb hd hx I1 r q
structure Mk (K:Ab)(C f:Addr):Prop where
 makes:PySem.W.makesIn K C=true
 init:BP K (.ref C) "__init__" = some (some (.ref f))
 fn:PySem.W.isFn K (.ref f)=true
 kp:CN K (.ref C)=true
def aAv {σ:St}(M:Mk X.K C f)(F:FnOk X.prog X.w X.K X.mg X.base CX k f fd ps sp)(hr:Room (k+1) X.A)(hb:Binds X.K fd ps ds)(hd:Vals dvs ds)(hx:gU CX X E)(I:Inv X pins σ H s)(r:Vals vs us)(h:∀ x dx,H x=none->H dx=none->dx≠x->sp (.ref x::(vs++dvs)) (upd (upd H dx (.own x)) x (.ins C dx [])) (λv H2=>v=.non/\Q (.ref x) H2) E) :
  wpAny (model X.prog X.w) X.A (call (.ref C) us) (EP X pins σ Q) X.xe s:=by
 have hq:=h (s.heap.objs.size+1) s.heap.objs.size (I.hok.fresh (Dq _)) (I.hok.fresh (Aj _)) (As (Cg _));have I2:=Inv.made (C:=C) I;have r2:Vals (V.ref (s.heap.objs.size+1)::(vs++dvs)) (AC (s.heap.objs.size+1)::(us++ds)):=.cons rfl (r.append hd);have hl:(AC (s.heap.objs.size+1)::us++ds).length=ps.length:=by
  have e:=r2.length;rw [F.len _ _ _ _ hq] at e;exact e.symm
 refine Ez (aBo (f:=f) I.kIn M.makes M.init (beq_iff_eq.mp M.fn) (Cn (F.run _ X.stack _ _ ⟨AC (s.heap.objs.size+1)::us,[]⟩ (AC (s.heap.objs.size+1)::(us++ds)) _ _ E (hr.make C us [])
  (I2.env0.make C us []) (hb _ (AC (s.heap.objs.size+1)::us) I2.kIn hl) r2 hq) λr s' hq'=>?_))
 cases r with
 |error e=>exact hx pins σ _ _ e s' I2 hq'
 |ok fl=>
  cases fl with
  |ret u=>
   obtain ⟨v,H',I3,rv,ev,q3⟩:=I2.after hq';subst ev;exact ⟨rv,⟨V.ref (s.heap.objs.size+1),H',I3,rfl,q3⟩⟩
  |next=>exact CH hq'
  |brk=>exact CH hq'
  |cont=>exact CH hq'
def jH (M:Mk X.K C f)(F:FnOk X.prog X.w X.K X.mg X.base CX k f fd ps sp)(hr:Room (k+1) X.A)(hg:Gl X x)(hm:X.mg x=some (.ref C))(hb:Binds X.K fd ps ds)(hd:Vals dvs ds)(hx:gU CX X E)
  (ha:PA X (e::es) t) (hdb:(x==("__debug__":Str))=false:=by decide) (he:AQ (e::es) X.env=(false,eval e X.env)::AQ es X.env:=by rfl) (hpl:(backTo pos (AQ es X.env)).any (·.1)=false:=by rfl) :
  PE X (.Call (.Name x p) (e::es) [] pos) (aIm C sp dvs E t):=by
 intro pins s σ H Q I h;refine CQ (fR I hg hm ?_ hdb);refine Ei (h₀:=X.base) I.ok.mod.kin M.kp (thn (ha pos pins s σ H _ I h) λus s1 ⟨vs,H1,I1,r,q⟩=>⟨I1.kIn,?_⟩) he hpl;exact aAv M F hr hb hd hx I1 r q
end
def PK (X:Cx)(kws:List Keyword)(t:TA):Prop:=
 ∀ (pos:Pos) (pins:List (Addr×Obj)) (s:Shared) (σ:St) (H:Hp) (Q:List V->Hp->Prop),Inv X pins σ H s->t σ H Q->wpAny (model X.prog X.w) X.A (evalAll ((backToKw pos (keywordEach kws X.env)).map (·.2))) (AP X pins σ Q) X.xe s
section
variable {X:Cx}{CX:CXT}{k:Nat}{f C:Addr}{fd:Az}{ps ks:List Str}{sp:Sp}{E:XK}{x m:Str}{p pos apos kpos:Pos}{e o:Expr}{es:List Expr}{kws:List Keyword}{te ta:TE}{t tk:TA}{nm:Option Str}
structure KBinds (K:Ab)(fd:Az)(ps ks:List Str)(g:List Value->List Value->List Value)(gV:List V->List V->List V):Prop where
 to:∀ (s:Shared) (us ws:List Value),K.In s.heap->(g us ws).length=ps.length->BindsTo s fd ⟨us,ks.zip ws⟩ (ps.zip (g us ws))
 rel:∀ {vs:List V} {us:List Value} {zs:List V} {ws:List Value},Vals vs us->Vals zs ws->Vals (gV vs zs) (g us ws)
def tCallK (sp:Sp)(gV:List V->List V->List V)(E:XK)(t tk:TA):TE:=λσ H Q=>t σ H λvs H1=>tk σ H1 λzs H2=>sp (gV vs zs) H2 Q E
variable {g:List Value->List Value->List Value}{gV:List V->List V->List V}
end
structure FnScope (N P:List Str)(sc:Scope):Prop where
 kind:sc.kind=.function
 co:sc.isCoroutine=false
 gen:sc.isGenerator=false
 nd:N.Nodup
 pre:N.take P.length=P
 par:∀ x∈P,sc.names.lookup x=some .local\/sc.names.lookup x=some .cell
 nofree:∀ y∈sc.names,y.2≠.free
def fnScOk {N P:List Str}{sc:Scope}(h:(sc.kind==.function&&!sc.isCoroutine&&!sc.isGenerator&&decide N.Nodup&&decide (N.take P.length=P)&&P.all (λx=>sc.names.lookup x==some .local||sc.names.lookup x==some .cell)&&sc.names.all λy=>y.2!=.free)=true):FnScope N P sc:=by
 simp only [BU,decide_eq_true_eq,Cf,Bool.or_eq_true,beq_iff_eq,bne_iff_ne,Bool.not_eq_true'] at h
 exact ⟨h.1.1.1.1.1.1,h.1.1.1.1.1.2,h.1.1.1.1.2,h.1.1.1.2,h.1.1.2,h.1.2,h.2⟩
theorem oE {kindOf:Str->Option Bd}{x:Str}:∀ {binds:List (Str×Value)} {m:Str->Option Value},(∀ v,(x,v)∉binds)->bindL kindOf binds m x=m x
  |[],_,_=>rfl
  |(n,v)::r,m,h=>by
    unfold bindL;rw [oE λw hw=>h w (Ah _ hw)];split
    · have:x≠n:=by rintro rfl;exact h v Ar
      simp [this]
    · rfl
theorem oG {kindOf:Str->Option Bd}{x:Str}:∀ {binds:List (Str×Value)} {m:Str->Option Value},(∀ v,(x,v)∉binds)->bindC kindOf binds m x=m x
  |[],_,_=>rfl
  |(n,v)::r,m,h=>by
    unfold bindC;rw [oG λw hw=>h w (Ah _ hw)];split
    · rfl
    · have:x≠n:=by rintro rfl;exact h v Ar
      simp [this]
theorem oF {kindOf:Str->Option Bd}{x:Str}{v:Value}:∀ {P:List Str} {vs:List Value} {i:Nat} {m:Str->Option Value},P.Nodup->P[i]?=some x->vs[i]?=some v->kindOf x=some .local ->
  bindL kindOf (P.zip vs) m x=some v
 |[],_,_,_,_,h,_,_=>by simp at h
 |_::_,[],_,_,_,_,h,_=>by simp at h
 |p::P,w::vs,0,m,nd,h1,h2,hk=>by
  simp at h1 h2;subst h1;subst h2;show bindL kindOf ((p,w)::P.zip vs) m p=_;unfold bindL;rw [oE λv hv=>(Bo.mp nd).1 (En hv).1,if_pos hk];simp
 |p::P,w::vs,i+1,m,nd,h1,h2,hk=>by
  show bindL kindOf ((p,w)::P.zip vs) m x=_;unfold bindL;exact oF (i:=i) (Bo.mp nd).2 (by simpa using h1) (by simpa using h2) hk
theorem oH {kindOf:Str->Option Bd}{x:Str}{v:Value}:∀ {P:List Str} {vs:List Value} {i:Nat} {m:Str->Option Value},P.Nodup->P[i]?=some x->vs[i]?=some v->kindOf x≠some .local ->
  bindC kindOf (P.zip vs) m x=some v
 |[],_,_,_,_,h,_,_=>by simp at h
 |_::_,[],_,_,_,_,h,_=>by simp at h
 |p::P,w::vs,0,m,nd,h1,h2,hk=>by
  simp at h1 h2;subst h1;subst h2;show bindC kindOf ((p,w)::P.zip vs) m p=_;unfold bindC;rw [oG λv hv=>(Bo.mp nd).1 (En hv).1,if_neg hk];simp
 |p::P,w::vs,i+1,m,nd,h1,h2,hk=>by
  show bindC kindOf ((p,w)::P.zip vs) m x=_;unfold bindC;exact oH (i:=i) (Bo.mp nd).2 (by simpa using h1) (by simpa using h2) hk
def start (N:List Str)(vs:List V):St:=vs.map some++Co (N.length-vs.length) none
def cxOf (CX:CXT)(P:Av)(w:World)(K:Ab)(mg:Str->Option Value)(base:Heap)(N:List Str)(qual:Str)(scope:Scope)(f:Addr)(cd:Value)(A:Around)(outer:List Env)(s:Shared)(H:Hp)(E:XK):Cx where
 prog:=P
 w:=w
 K:=K
 mg:=mg
 base:=base
 A:=A.deeper (envOfC qual scope s.heap.objs.size f cd)
 N:=N
 s₀:=s
 H₀:=H
 env:=envOfC qual scope s.heap.objs.size f cd
 outer:=outer
 stack:=envOfC qual scope s.heap.objs.size f cd::outer
 ex:=[]
 calm:=true
 fn:=λ_=>true
 pn:=[]
 xe:=λe s'=>wpAny (model P w) (A.deeper (envOfC qual scope s.heap.objs.size f cd)) (leaving (envOfC qual scope s.heap.objs.size f cd) e) (λ_ s''=>CX outer H s E e s'') (λe' s''=>CX outer H s E e' s'') s'
def sV {sc:Scope}{n:Nat}{x:Str}(h:sc.names.lookup x=some .cell):∃ c,(cellsFrom n sc.names []).lookup x=some c:=by
 have q:=PySem.W.cellsFrom_some sc.names n [] (.inl h);exact Option.isSome_iff_exists.mp q
def yK {CX:CXT}{P:Av}{w:World}{K:Ab}{mg:Str->Option Value}{base:Heap}{N ps:List Str}{qual:Str}{scope:Scope}{f:Addr}{cd:Value}{A:Around}{outer:List Env}{s s1:Shared}{H:Hp}{E:XK}{us:List Value}{vs:List V}
  (S:FnScope N ps scope) (hd:A.handled=none) (e0:Env0 P w K mg base A outer s H) (hl:vs.length=ps.length) (r:Vals vs us)
  (x:InCallC s s.heap.objs.size (bindL (envOfC qual scope s.heap.objs.size f cd).kindOf (ps.zip us) λ_=>none) (cellsFrom (s.heap.objs.size+1) scope.names []) (bindC (envOfC qual scope s.heap.objs.size f cd).kindOf (ps.zip us) λ_=>none) s1) :
  Inv (cxOf CX P w K mg base N qual scope f cd A outer s H E) [] (start N vs) H s1:=by
 have hpl:ps.length<=N.length:=by have:=congrArg List.length S.pre;rw [DD] at this;omega
 obtain ⟨h1,tk,rfl,hk⟩:=x.done;have noA:∀ b:Addr,b∉(cxOf CX P w K mg base N qual scope f cd A outer s H E).ex:=λb z=>absurd (show b∈([]:List Addr) from z) (by simp);refine ⟨⟨e0.mod,S.kind,rfl,rfl,Aj _,λy z c h1 h2=>?_,λy hy=>?_,λy c _ h=>?_,λ_=>hd,Around.frames_deeper e0.frames,.inr ⟨rfl,rfl⟩,λb z=>absurd z (noA b),e0.bs,e0.bsz,λb _ _=>noA b,λb z=>absurd z (noA b),e0.funs,e0.frf⟩,
  rfl,e0.bare,Un.kept hk,⟨_,x.toInCall.ns,λi y v h1 h2 h3=>?_⟩,λy c h=>⟨_,x.cell y c h⟩,e0.hok.fresh (Aj _),λy c h=>?_,λp hp=>absurd (show p∈([]:List (Addr×Obj)) from hp) (by simp),e0.hok.kept hk,?_⟩
 ·exact name_of_addr x.apart (CV h1) (CV h2)
 ·have hy:scope.names.lookup y=some .cell\/scope.names.lookup y=some .free:=hy
  rcases hy with hy|hy
  ·exact sV hy
  ·exact absurd rfl (S.nofree _ (CV hy))
 ·exact Nat.le_of_lt (x.above y c (CV h))
 ·have hi:i<vs.length:=by
   unfold start at h2
   by_cases hi:i<vs.length
   ·exact hi
   ·rw [BH (by simpa using hi)] at h2
    rw [List.getElem?_replicate] at h2;split at h2<;>cases h2
  have ha:vs[i]?=some v:=by
   unfold start at h2;rw [Cb (by simpa using hi),Ao] at h2;cases e:vs[i]? with
   |none=>rw [e] at h2;cases h2
   |some a=>rw [e] at h2;cases h2;rfl
  obtain ⟨u,hu,rv⟩:=r.get ha;have hp:ps[i]?=some y:=by
   rw [<- S.pre,List.getElem?_take_of_lt (by omega)];exact h1
  have ndP:ps.Nodup:=by rw [<- S.pre];exact S.nd.sublist (List.take_sublist _ _)
  refine ⟨u,rv,?_⟩
  rcases S.par y (Al hp) with k|k
  ·exact .inl ⟨k,oF ndP hp hu k⟩
  ·obtain ⟨c,e⟩:=sV (n:=s.heap.objs.size+1) k
   refine .inr ⟨.inl k,c,e,?_⟩;have q:=x.cell y c e;rw [oH ndP hp hu (by show scope.names.lookup y≠_;rw [k];decide)] at q;exact q
 ·exact e0.hok.fresh (Nat.le_of_lt (x.above y c (CV h)))
 ·unfold start
  show _=N.length;rw [Ay,Af,List.length_replicate];omega
def aH0 {CX:CXT}{P:Av}{w:World}{K:Ab}{mg:Str->Option Value}{base:Heap}{k:Nat}{f:Addr}{name qual:Str}{params:Arguments}{body:List Stmt}{scope:Scope}{dV kV doc pm cdv ct oc:Value}{an od:Option Addr}
  {osl:Array (Option Value)} {N ps:List Str} {sp:Sp} (lk:K.lookup f=some ⟨oc,od,.func (Da name qual params body scope dV kV doc pm an cdv ct),osl⟩) (hcd:EA K cdv qual=true) (S:FnScope N ps scope)
  (len:∀ vs H Q E,sp vs H Q E->vs.length=ps.length)
  (hbody:∀ (A:Around) (outer:List Env) (s:Shared) (H:Hp) (vs:List V) (Q:VK) (E:XK),Room k (A.deeper (envOfC qual scope s.heap.objs.size f cdv))->sp vs H Q E ->
   ∃ t,PSs (cxOf CX P w K mg base N qual scope f cdv A outer s H E) body t/\t { nx:=λ_ H'=>Q .non H',rt:=Q } (start N vs) H) :
  FnOk P w K mg base CX (k+1) f (Da name qual params body scope dV kV doc pm an cdv ct) ps sp:=by
 refine ⟨len,λA outer s H args us vs Q E hr e0 hb r hsp=>?_⟩;have hl:=len _ _ _ _ hsp;have KX:K.In s.heap:=e0.mod.kin.keeps λb o e=>(e0.bs b o e).1;have lim:s.heap.NoLimit:=e0.mod.nolimit.keeps λb o e=>(e0.bs b o e).1;have hkind:∀ y∈ps.zip us,scope.names.lookup y.1=some .local\/(scope.names.lookup y.1=some .cell/\((cellsFrom (s.heap.objs.size+1) scope.names []).lookup y.1).isSome=true):=λ⟨n,v⟩ hy=>by
  rcases S.par n (En hy).1 with q|q
  ·exact .inl q
  ·exact .inr ⟨q,PySem.W.cellsFrom_some _ _ _ (.inl q)⟩
 refine codeAny_call_function hr.depth (KX _ _ lk) rfl S.co S.gen rfl (PySem.W.codeRec_of KX hcd) (hb _ _ _ _ ?_);refine wpAny_newFunctionEnv_cells S.kind hkind λenv he s1 x=>?_;subst he;refine ⟨lim.keeps x.toInCall.keep,codeAny_func ?_⟩;obtain ⟨t,ht,hq⟩:=hbody A outer s H vs Q E (hr.deeper _) hsp;have I:Inv (cxOf CX P w K mg base N qual scope f cdv A outer s H E) [] (start N vs) H s1:=yK S hr.hd e0 hl r x;refine BX (ht [] s1 (start N vs) H _ I hq) (λfl s' hs=>?_) λe s' hs=>hs;have fin:∀ {σ':St} {H':Hp} {v:V} {u:Value},Inv (cxOf CX P w K mg base N qual scope f cdv A outer s H E) [] σ' H' s'->RelV v u->Q v H'->CE outer P w H s Q u s':=
  λ{σ' H' v u} J rv q=>⟨v,H',J.os,J.bare,J.base,J.hok,rv,q⟩
 cases fl with
 |ret u=>
  obtain ⟨v,σ',H',J,rv,q⟩:=hs;exact fin J rv q
 |next=>
  obtain ⟨σ',H',J,q⟩:=hs;exact fin (v:=V.non) (u:=BV) J rfl q
 |brk=>
  obtain ⟨_,_,_,q⟩:=hs;exact CH q
 |cont=>
  obtain ⟨_,_,_,q⟩:=hs;exact CH q
section
variable {X:Cx}{x:Str}{p pos:Pos}{e:Expr}{es:List Expr}{t:TA}{id T:String}{r:List V->Hp->VK->Prop}
def tCB (r:List V->Hp->VK->Prop)(t:TA):TE:=λσ H Q=>t σ H λvs H1=>r vs H1 Q
def aU (hc:fG X (.builtin id) r)(hg:Gl X x)(hm:X.mg x=none)(hv:Ce x=some (.builtin id))(ha:PA X (e::es) t)(hn:x ≠ "__name__":=by decide)(hdb:(x==("__debug__":Str))=false:=by decide)
  (he:AQ (e::es) X.env=(false,eval e X.env)::AQ es X.env:=by rfl) (hpl:(backTo pos (AQ es X.env)).any (·.1)=false:=by rfl):PE X (.Call (.Name x p) (e::es) [] pos) (tCB r t):=by
 intro pins s σ H Q I h;refine CQ (fS I hg hm hv ?_ hn hdb);exact PyProof.Rows.callWith_builtin1 (thn (ha pos pins s σ H _ I h) λus s1 ⟨vs,H1,I1,r1,q1⟩=>hc pins s1 σ H1 vs us Q I1 r1 q1) he hpl
def aX (hc:fG X (.type T) r)(hg:Gl X x)(hm:X.mg x=none)(hv:Ce x=some (.type T))(ha:PA X (e::es) t)(hn:x ≠ "__name__":=by decide)(hdb:(x==("__debug__":Str))=false:=by decide)
  (he:AQ (e::es) X.env=(false,eval e X.env)::AQ es X.env:=by rfl) (hpl:(backTo pos (AQ es X.env)).any (·.1)=false:=by rfl):PE X (.Call (.Name x p) (e::es) [] pos) (tCB r t):=by
 intro pins s σ H Q I h;refine CQ (fS I hg hm hv ?_ hn hdb);exact Bw (thn (ha pos pins s σ H _ I h) λus s1 ⟨vs,H1,I1,r1,q1⟩=>hc pins s1 σ H1 vs us Q I1 r1 q1) he hpl
end
end L2
namespace HT
open PySem PyProof.Rows
def lexLt:List Int->List Int->Bool
 |[],[]=>false
 |[],_::_=>true
 |_::_,[]=>false
 |x::xs,y::ys=>if x=y then lexLt xs ys else decide (x<y)
section
open PySem.SeqAt
open PySem.AutoSeq1 (wpAny_loadPart')
open PySem.MeetsSeq PySem.MeetsSeq2 PySem.MeetsSeq3
end
section
variable {prog:Av}{w:World}{A:Around}{E:Value->Shared->Prop}{s:Shared}
def cat_tup (ht:IsTup s.heap t vs.toArray)(hb:IsTup s.heap b ws.toArray)(hv:vs≠[])(h1:ws=[]->Q (.ref t) s)(h2:ws≠[]->Q (.ref s.heap.objs.size) { s with heap:=s.heap.push { cls:=.type "tuple",data:=.seq (vs++ws).toArray } })(hsz:vs.length+ws.length<=Au):wpAny (model prog w) A (Em .Add (.ref t) (.ref b)) Q E s:=by
 obtain ⟨⟨cls,dd,data,sl⟩,ho,hc,n,hd⟩:=id ht;obtain ⟨⟨cls2,dd2,data2,sl2⟩,ho2,hc2,n2,hd2⟩:=id hb;simp only at hc hd hc2 hd2;subst hc hd hc2 hd2;have e:vs.toArray++ws.toArray=(vs++ws).toArray:=by simp
 by_cases hw:ws=[]
 ·exact concat_meets ⟨_,ho,rfl⟩ ⟨_,ho2,rfl⟩ noFill_tuple_add seq_tuple_add PySem.F.slot_tuple_add Fv (Fk _ _)
   (tuple_addW1 t b vs.toArray ws.toArray n n2 dd dd2 sl sl2 (by simpa using hv) (by simp [hw])) ⟨ho,ho2,h1 hw⟩
 ·refine concat_meets ⟨_,ho,rfl⟩ ⟨_,ho2,rfl⟩ noFill_tuple_add seq_tuple_add PySem.F.slot_tuple_add Fv (Fk _ _)
   (tuple_addW2 t b vs.toArray ws.toArray n n2 dd dd2 sl sl2 (by simpa using hv) (by simpa using hw) (by rw [Ak,Ak];exact hsz)) ⟨ho,ho2,?_⟩
  rw [e];exact h2 hw
def sIx (n d:Nat):Option Int->Nat
 |none=>d
 |some v=>if v<0 then (v+(n:Int)).toNat else min v.toNat n
theorem sIx_none (n d:Nat):sIx n d none=d:=rfl
theorem sIx_nat (n d k:Nat):sIx n d (some (k:Int))=min k n:=by
 show (if (k:Int)<0 then ((k:Int)+(n:Int)).toNat else min (k:Int).toNat n)=min k n;rw [if_neg (by omega),Cm]
def aGq (n d:Nat)(hd:d<=n)(o:Option Int):sIx n d o<=n:=by
 cases o with
 |none=>exact hd
 |some v=>
  show (if v<0 then (v+(n:Int)).toNat else min v.toNat n)<=n
  by_cases hv:v<0
  ·rw [if_pos hv];omega
  ·rw [if_neg hv];exact Nat.min_le_right _ _
def zJ (v:Int)(n d:Nat):(if v<0 then max (v+(n:Int)) 0 else min v (n:Int))=((sIx n d (some v):Nat):Int):=by
 show (if v<0 then max (v+(n:Int)) 0 else min v (n:Int))=(((if v<0 then (v+(n:Int)).toNat else min v.toNat n):Nat):Int)
 by_cases hv:v<0
 ·simp only [if_pos hv];omega
 ·simp only [if_neg hv];omega
theorem uP (lo hi:Option Int)(n:Nat):EO lo hi 1 (n:Int)=(((sIx n 0 lo:Nat):Int),((sIx n n hi:Nat):Int)):=by
 have h1:¬ ((1:Int)<0):=by omega
 unfold EO;simp only [h1,if_false];refine Prod.ext ?_ ?_
 ·cases lo with
  |none=>rfl
  |some v=>exact zJ v n 0
 ·cases hi with
  |none=>rfl
  |some v=>exact zJ v n n
theorem tQ (i j:Nat):DJ (i:Int) (j:Int) 1=j-i:=by
 unfold DJ;have h1:(1:Int) > 0:=by omega
 simp only [h1,if_true,Int.ediv_one];split<;>omega
def kE (p:IsPart v o)(h:Q o s):wpAny (model prog w) A (AI.Slice.slicePartIndex v) Q E s:=by
 cases p with
 |none=>exact slicePart_none h
 |int i t=>exact slicePart_int h
def fE {sl:Addr}{vl vu:Value}{lo hi:Option Int}{n:Nat}{Q:Int×Int×Nat->Shared->Prop}(hs:s.heap.IsSliceOf sl vl vu .none)(pl:IsPart vl lo)(pu:IsPart vu hi)
    (h:Q (((sIx n 0 lo:Nat):Int),1,sIx n n hi-sIx n 0 lo) s):wpAny (model prog w) A (AI.Slice.sliceApplied (.ref sl) (pure (n:Int))) Q E s:=by
  obtain ⟨os,hos,hcs,hds⟩:=id hs;unfold AI.Slice.sliceApplied AI.Slice.sliceFields;refine Aa (Aa (BO hos hds (x:=vl) rfl (Aa (BO hos hds (x:=vu) rfl (Aa (BO hos hds (x:=.none) rfl (Ag ?_)))))));refine Aa (slicePart_none ?_);show wpAny _ _ (if ((1:Int)==0)=true then _ else _) _ _ s;rw [if_neg (by decide)];refine Aa (kE pl (Aa (kE pu (Aa (Ag ?_)))));show wpAny _ _ (match EO lo hi 1 (n:Int) with|(lo,hi)=>pure (lo,(1:Int),DJ lo hi 1)) _ _ s;rw [uP lo hi n];show wpAny _ _ (pure (((sIx n 0 lo:Nat):Int),(1:Int),DJ ((sIx n 0 lo:Nat):Int) ((sIx n n hi:Nat):Int) 1)) _ _ s;rw [tQ];exact Ag h
theorem aAz (xs:Array Value)(i k:Nat):((AF k).filterMap λ(m:Nat)=>xs[((i:Int)+(m:Int)*1).toNat]?).toArray=((xs.toList.drop i).take k).toArray:=by
 have e:(λ(m:Nat)=>xs[((i:Int)+(m:Int)*1).toNat]?)=λm=>xs[i+m]?:=by
  funext m
  have:((i:Int)+(m:Int)*1).toNat=i+m:=by omega
  rw [this]
 rw [e];have:=pick_run xs i k;rw [List.filterMap_map] at this;have e2:((λx=>xs[x]?) ∘ λx=>i+x)=λm=>xs[i+m]?:=rfl;rw [e2] at this;rw [this]
def getItem_tuple_cut {t sl:Addr}{items:Array Value}{vl vu:Value}{lo hi:Option Int}{Q:Value->Shared->Prop}(ht:IsTup s.heap t items)(hs:s.heap.IsSliceOf sl vl vu .none)(pl:IsPart vl lo)(pu:IsPart vu hi)
  (hw:¬ (sIx items.size 0 lo=0/\sIx items.size items.size hi=items.size))
  (h:Q (.ref s.heap.objs.size) { s with heap:=s.heap.push { cls:=.type "tuple",data:=.seq ((items.toList.drop (sIx items.size 0 lo)).take (sIx items.size items.size hi-sIx items.size 0 lo)).toArray } })
  (hsz:items.size<=Au):wpAny (model prog w) A (getItem (.ref t) (.ref sl)) Q E s:=by
 have htake:sizeOk (.seq ((items.toList.drop (sIx items.size 0 lo)).take (sIx items.size items.size hi-sIx items.size 0 lo)).toArray):=by
  show ((items.toList.drop (sIx items.size 0 lo)).take (sIx items.size items.size hi-sIx items.size 0 lo)).toArray.size<=Au;rw [Ak,DD,List.length_drop,Bv];omega
 have hj:sIx items.size items.size hi<=items.size:=aGq _ _ (Aj _) hi;obtain ⟨os,hos,hcs,hds⟩:=id hs;have hTs:s.TypeIs (.ref sl) "slice":=⟨os,hos,hcs⟩;unfold getItem
 try with_reducible refine Bz ?_
 first|refine Aa (Ag ?_)|skip
 refine Aa (wpAny_sequenceKey ht.typeIs (by decide) ?_);refine Aa (BA (name:=CS "__getitem__") ht.typeIs BN
  (Bs BN ht.typeIs entry_tuple_getitem ?_ (args_tuple_getitem _ _)))
 show wpAny _ _ (AI.Tuple.tupleItemsOf (.ref t) >>= _) _ _ s;refine Aa (tupleItemsOf_ ht ?_);refine Aa (DY hTs ?_);rw [if_pos (by decide)];refine Aa (fE hs pl pu ?_);have hno:¬ ((((sIx items.size 0 lo:Nat):Int)==0&&(1:Int)==1&&(sIx items.size items.size hi-sIx items.size 0 lo)==items.size)=true):=by
  intro q;rw [BU,BU] at q;have q1:((sIx items.size 0 lo:Nat):Int)=0:=Ek q.1.1;have q2:sIx items.size items.size hi-sIx items.size 0 lo=items.size:=Ek q.2;exact hw ⟨by omega,by omega⟩
 show wpAny _ _ (if (((sIx items.size 0 lo:Nat):Int)==0&&(1:Int)==1&&(sIx items.size items.size hi-sIx items.size 0 lo)==items.size)=true then _ else _) _ _ s;rw [if_neg hno,aAz]
 first
  |exact Aa (m:=DP _) (Ba (Ag ⟨_,rfl,Ag h⟩) htake)
  |exact Aa (m:=DP _) (Ba (Aa (Ag (Ag ⟨_,rfl,Ag h⟩))) htake)
  |exact Aa (Aa (m:=DP _) (Ba (Ag (Ag ⟨_,rfl,Ag h⟩)) htake))
  |exact Aa (Aa (m:=DP _) (Ba (Ag ⟨_,rfl,Ag h⟩) htake))
end
end HT
namespace L2
open PySem PySem.Spec PyProof.Rows
abbrev TO:=St->Hp->(Option Int->Hp->Prop)->Prop
def PO (X:Cx)(e:Option Expr)(t:TO):Prop:=
 ∀ (pins:List (Addr×Obj)) (s:Shared) (σ:St) (H:Hp) (Q:Option Int->Hp->Prop),Inv X pins σ H s->t σ H Q ->
  wpAny (model X.prog X.w) X.A (evalPart e X.env) (λu s'=>∃ o H',Inv X pins σ H' s'/\IsPart u o/\Q o H') X.xe s
def aDl:TO:=λ_ H Q=>Q none H
def aIj (t:TE):TO:=λσ H Q=>t σ H λx H1=>∃ i,x=.int i/\Q (some i) H1
section
variable {X:Cx}{e:Expr}{te:TE}{lo hi:Option Expr}{tl th:TO}{pos p2:Pos}
def pM:PO X none aDl:=by
 intro pins s σ H Q I h;rw [evalPart_none];exact Ag ⟨none,H,I,.none,h⟩
def pL (h:PE X e te):PO X (some e) (aIj te):=by
 intro pins s σ H Q I hw;rw [evalPart_some];refine thn (h pins s σ H _ I hw) λu s1 ⟨x,H1,I1,r1,q1⟩=>?_;obtain ⟨i,rfl,q⟩:=q1;obtain ⟨t,rfl⟩:=r1;exact ⟨some i,H1,I1,.int i t,q⟩
def SlR (X:Cx)(r:V->Option Int->Option Int->Hp->VK->Prop):Prop:=
 ∀ (pins:List (Addr×Obj)) (s:Shared) (σ:St) (H:Hp) (x:V) (v vl vu:Value) (lo hi:Option Int) (sl:Addr) (Q:VK),Inv X pins σ H s->RelV x v->s.heap.IsSliceOf sl vl vu .none->IsPart vl lo->IsPart vu hi->r x lo hi H Q ->
  ∃ T id,typeLookup (.type T) "__getitem__" = pure (some (.builtin id))/\s.TypeIs v T/\wpAny (model X.prog X.w) X.A (getItem v (.ref sl)) (EP X pins σ Q) X.xe s
def tSl (r:V->Option Int->Option Int->Hp->VK->Prop)(te:TE)(tl th:TO):TE:=λσ H Q=>te σ H λx H1=>tl σ H1 λl H2=>th σ H2 λu H3=>r x l u H3 Q
def lP {r:V->Option Int->Option Int->Hp->VK->Prop}(hr:SlR X r)(he:PE X e te)(hl:PO X lo tl)(hu:PO X hi th):PE X (.Subscript e (.Slice lo hi none p2) pos) (tSl r te tl th):=by
 intro pins s σ H Q I h;refine Subscript_ (thn (he pins s σ H _ I h) λv s1 ⟨x,H1,I1,r1,q1⟩=>?_);refine wpAny_Slice (thn (hl pins s1 σ H1 _ I1 q1) λvl s2 ⟨l,H2,I2,pl,q2⟩=>thn (hu pins s2 σ H2 _ I2 q2) λvu s3 ⟨u,H3,I3,pu,q3⟩=>?_);rw [evalPart_none];refine Ag ?_;have I4:Inv X pins σ H3 { s3 with heap:=s3.heap.push { cls:=.type "slice",data:=.fields #[vl,vu,.none] } }:=I3.kept (t':=s3.toks) λb ob q=>Ad _ q;obtain ⟨T,id,hT,ht,hg⟩:=hr pins { s3 with heap:=s3.heap.push { cls:=.type "slice",data:=.fields #[vl,vu,.none] } } σ H3 x v vl vu l u s3.heap.objs.size Q I4 r1 (Heap.IsSliceOf.new ..) pl pu q3;show wpAny (model X.prog X.w) X.A (subscriptTail e (.Slice lo hi none p2) v (.ref s3.heap.objs.size)) (EP X pins σ Q) X.xe { s3 with heap:=s3.heap.push { cls:=.type "slice",data:=.fields #[vl,vu,.none] } };exact tail_any (ops:=[.ref s3.heap.objs.size,v]) ht hT hg (by with_unfolding_all rfl)
def cutV (xs:List V)(lo hi:Option Int):List V:=(xs.drop (HT.sIx xs.length 0 lo)).take (HT.sIx xs.length xs.length hi-HT.sIx xs.length 0 lo)
def jU (xs:List V)(lo hi:Option Int):(cutV xs lo hi).length<=xs.length:=by
 unfold cutV;rw [DD,List.length_drop];omega
def rSlT (K:Ab):V->Option Int->Option Int->Hp->VK->Prop:=λx lo hi H Q=>∃ a xs,x=.ref a/\SqT K H a xs /\
 ¬ (HT.sIx xs.length 0 lo=0/\HT.sIx xs.length xs.length hi=xs.length)/\∀ p,H p=none->Q (.ref p) (upd H p (.tup (cutV xs lo hi)))
def aGh:SlR X (rSlT X.K):=by
 intro pins s σ H x v vl vu lo hi sl Q I rx hs pl pu h;obtain ⟨a,xs,rfl,hx,hw,q⟩:=h;cases rx;obtain ⟨its,r,ht,hz⟩:=I.tuple hx;have hlen:its.toArray.size=xs.length:=by rw [Ak];exact r.length.symm
 refine ⟨"tuple",_,BN.lookup,ht.typeIs,?_⟩;refine HT.getItem_tuple_cut ht hs pl pu (by rw [hlen];exact hw) ?_ (by rw [hlen];exact hz);rw [hlen];refine ⟨.ref s.heap.objs.size,_,I.laid (t':=s.toks) (o:=.tup (cutV xs lo hi)) (λb ob q=>Ad _ q) (Aj _) ?_,rfl,q _ (I.hok.fresh (Aj _))⟩;exact ⟨⟨AU (jU xs lo hi) hz,_,Ai _ rfl,rfl⟩,_,(r.drop (HT.sIx xs.length 0 lo)).take (HT.sIx xs.length xs.length hi-HT.sIx xs.length 0 lo),IsTup.new _ _⟩
def rLtT (K:Ab):R2:=λx y H Q=>∃ a b ns ms,x=.ref a/\y=.ref b/\SqT K H a (ns.map V.int)/\SqT K H b (ms.map V.int)/\Q (.bl (HT.lexLt ns ms)) H
def aGx (K:Ab):R2:=λx y H Q=>∃ a b xs ys,x=.ref a/\y=.ref b/\SqT K H a xs/\SqT K H b ys/\xs≠[]/\xs.length+ys.length<=Au /\
 (ys=[]->Q (.ref a) H)/\(ys≠[]->∀ p,H p=none->Q (.ref p) (upd H p (.tup (xs++ys))))
def Vals.nil_iff (r:Vals xs us):us=[]↔xs=[]:=by
 cases r with
 |nil=>simp
 |cons _ _=>simp
def aEv:OpR X (Em .Add) (aGx X.K):=by
 intro pins s σ H x y v u Q I rx ry h;obtain ⟨a,b,xs,ys,rfl,rfl,ha,hb,hx,hz,q1,q2⟩:=h;cases rx;cases ry;obtain ⟨its,r1,p1,_⟩:=I.tuple ha;obtain ⟨its2,r2,p2,_⟩:=I.tuple hb;refine HT.cat_tup p1 p2 (λz=>hx (r1.nil_iff.mp z)) (λz=>⟨.ref a,H,I,rfl,q1 (r2.nil_iff.mp z)⟩) (λz=>?_) (by rw [<- r1.length,<- r2.length];exact hz);refine ⟨.ref s.heap.objs.size,_,I.laid (t':=s.toks) (o:=.tup (xs++ys)) (λb ob q=>Ad _ q) (Aj _) ?_,rfl,q2 (λw=>z (r2.nil_iff.mpr w)) _ (I.hok.fresh (Aj _))⟩;exact ⟨⟨by rw [Ay];exact hz,_,Ai _ rfl,rfl⟩,_,r1.append r2,IsTup.new _ _⟩
end
def ixN (n:Nat)(i:Int):Option Nat:=if 0<=i then (if i<n then some i.toNat else none) else if -(n:Int)<=i then some (i+n).toNat else none
def atI {α:Type}(xs:List α)(i:Int):Option α:=(ixN xs.length i).bind λj=>xs[j]?
def yJ {n:Nat}{i:Int}{j:Nat}(h:ixN n i=some j):seqIndex? i n=some j/\j<n/\-(n:Int)<=i/\i<n:=by
 unfold ixN at h
 by_cases h0:0<=i
 ·rw [if_pos h0] at h
  by_cases h1:i<n
  ·rw [if_pos h1] at h
   have e:i.toNat=j:=AG h;exact ⟨by rw [seqIndex_of h0 h1,e],by omega,by omega,h1⟩
  ·rw [if_neg h1] at h;cases h
 ·rw [if_neg h0] at h
  by_cases h1:-(n:Int)<=i
  ·rw [if_pos h1] at h
   have e:(i+n).toNat=j:=AG h;exact ⟨by rw [seqIndex_neg (by omega) h1,e],by omega,h1,by omega⟩
  ·rw [if_neg h1] at h;cases h
def qH {α:Type}{xs:List α}{i:Int}{v:α}(h:atI xs i=some v):∃ j,seqIndex? i xs.length=some j/\xs[j]?=some v/\j<xs.length/\-(xs.length:Int)<=i/\i<xs.length:=by
 unfold atI at h;cases e:ixN xs.length i with
 |none=>rw [e] at h;cases h
 |some j=>
  rw [e] at h;obtain ⟨h1,h2,h3,h4⟩:=yJ e;exact ⟨j,h1,h,h2,h3,h4⟩
def bA {α:Type}{xs:List α}{j:Nat}{v:α}(h:xs[j]?=some v):atI xs (j:Int)=some v:=by
 have hj:j<xs.length:=(Ae.mp h).1;have e:ixN xs.length (j:Int)=some j:=by
  unfold ixN;rw [if_pos (by omega),if_pos (by omega)];simp
 unfold atI;rw [e];exact h
def aFs (b:Expr):Prop:=∀ o i,subscripted b false o i=operate [o,i] (getItem o i)
def IxR (X:Cx)(r:R2):Prop:=
 ∀ (value slice:Expr) (pins:List (Addr×Obj)) (s:Shared) (σ:St) (H:Hp) (x y:V) (v u:Value) (Q:VK),Inv X pins σ H s->RelV x v->RelV y u->r x y H Q ->
  subscripted slice false v u=operate [v,u] (getItem v u)->wpAny (model X.prog X.w) X.A (subscriptTail value slice v u) (EP X pins σ Q) X.xe s
def MtR (X:Cx)(id:String)(r:V->List V->Hp->VK->Prop):Prop:=
 ∀ (pins:List (Addr×Obj)) (s:Shared) (σ:St) (H:Hp) (x:V) (xs:List V) (v:Value) (us:List Value) (Q:VK),Inv X pins σ H s->RelV x v->Vals xs us->r x xs H Q ->
  wpAny (model X.prog X.w) X.A (call (.builtin id) (v::us)) (EP X pins σ Q) X.xe s
section
variable {X:Cx}{a b:Expr}{ta tb:TE}{pos:Pos}
def bC {r:R2}(hr:IxR X r)(ha:PE X a ta)(hb:PE X b tb)(hs:aFs b):PE X (.Subscript a b pos) (tOp r ta tb):=by
 intro pins s σ H Q I h;exact Subscript_ (binT ha hb I h λv u s2 x y H2 I2 rx ry q=>hr a b pins s2 σ H2 x y v u Q I2 rx ry q (hs _ _))
inductive rIxL (K:Ab)(x y:V)(H:Hp)(Q:VK):Prop
 |mk (p:Addr) (xs:List V) (i:Int) (v:V) (e:x=.ref p) (e':y=.int i) (q:SqL K H p xs) (a:atI xs i=some v) (h:Q v H)
inductive rIxT (K:Ab)(x y:V)(H:Hp)(Q:VK):Prop
 |mk (p:Addr) (xs:List V) (i:Int) (v:V) (e:x=.ref p) (e':y=.int i) (q:SqT K H p xs) (a:atI xs i=some v) (h:Q v H)
def rIxS:R2:=λx y H Q=>∃ z i c,x=.str z/\y=.int i/\z.length<=Au/\atI z.cps.toList i=some c/\Q (.str ⟨#[c]⟩) H
def bB:IxR X (rIxL X.K):=by
 intro value slice pins s σ H x y v u Q I rx ry h hs;obtain ⟨p,xs,i,z,rfl,rfl,hq,he,q⟩:=h;cases rx;obtain ⟨t,rfl⟩:=ry;obtain ⟨its,r,pl,hz⟩:=I.list hq;obtain ⟨j,h1,h2,h3,h4,h5⟩:=qH he;obtain ⟨w,ew,rw'⟩:=r.get h2;have hl:=r.length;have hn:=kQ;have fin:EP X pins σ Q w s:=⟨z,H,I,rw',q⟩
 by_cases h0:0<=i
 ·have hj:i.toNat=j:=by
   rw [seqIndex_of h0 h5] at h1;exact AG h1
  exact item_listR pl.isList h0 (by omega) (by rw [hj];simpa using ew) fin hs
 ·have hj:(i+(its.toArray.size:Int)).toNat=j:=by
   rw [seqIndex_neg (by omega) h4] at h1;rw [Ak,<- hl];exact AG h1
  exact subscriptTail_builtinR (x:=w) pl.isList.typeIs slot_list_getitem.lookup
   (wpAny_getItem_list_neg (Q:=λr s'=>r=w/\EP X pins σ Q r s') pl.isList (by omega) (by rw [Ak]<;>omega) (by omega) (by rw [hj];simpa using ew) ⟨rfl,fin⟩) hs
def cV:IxR X (rIxT X.K):=by
 intro value slice pins s σ H x y v u Q I rx ry h hs;obtain ⟨p,xs,i,z,rfl,rfl,hq,he,q⟩:=h;cases rx;obtain ⟨t,rfl⟩:=ry;obtain ⟨its,r,pl,hz⟩:=I.tuple hq;obtain ⟨j,h1,h2,h3,h4,h5⟩:=qH he;obtain ⟨w,ew,rw'⟩:=r.get h2;have hl:=r.length;have hn:=kQ;have fin:EP X pins σ Q w s:=⟨z,H,I,rw',q⟩;exact subscriptTail_builtinR (x:=w) pl.typeIs slot_tuple_getitem.lookup
  (getItem_tuple (j:=j) (Q:=λr s'=>r=w/\EP X pins σ Q r s') pl (by omega) (by omega) (by rw [Ak,<- hl];exact h1) (by simpa using ew) ⟨rfl,fin⟩) hs
def yI:IxR X rIxS:=by
 intro value slice pins s σ H x y v u Q I rx ry h hs;obtain ⟨z,i,c,rfl,rfl,hz,he,q⟩:=h;obtain ⟨t,rfl⟩:=rx;obtain ⟨t',rfl⟩:=ry;obtain ⟨j,h1,h2,h3,h4,h5⟩:=qH he;have hl:z.cps.toList.length=z.length:=by simp [Str.length]
 rw [hl] at h1 h4 h5;have hn:=kQ;exact tail_any (typeIs_str s z t) slot_str_getitem.lookup (getItem_str (c:=c) (by
  have e1:decide (i < -(2^63:Int))=false:=decide_eq_false (by omega);have e2:decide (i ≥ 2^63)=false:=decide_eq_false (by omega);rw [e1,e2,Bool.or_false]) (by rw [h1];simpa using h2) ⟨.str ⟨#[c]⟩,H,I.tok _,⟨_,rfl⟩,q⟩) hs
def rIx (K:Ab):R2:=λx y H Q=>rIxL K x y H Q\/rIxT K x y H Q\/rIxS x y H Q
def tX (its:List Value)(n j:Nat)(u:Value):DV (·.setIfInBounds j u) { cls:=.type "list",data:=.seq its.toArray n }={ cls:=.type "list",data:=.seq (its.set j u).toArray n }:=by
 simp [DV]
theorem Inv.lst {σ:St}{p:Addr}(I:Inv X pins σ H s)(h:H p=some (.lst xs)) :
  ∃ (its:List Value) (n:Nat),Vals xs its/\s.heap.get? p=some { cls:=.type "list",data:=.seq its.toArray n }/\xs.length<=Au:=by
 obtain ⟨z,its,n,r,e⟩:=I.hok p _ h;exact ⟨its,n,r,e,z⟩
def Inv.lstUpd {pins:List (Addr×Obj)}{σ:St}{H:Hp}{s:Shared}{p:Addr}{xs ys:List V}{its its':List Value}{n n':Nat}{f:Obj->Obj}(I:Inv X pins σ H s)(h:H p=some (.lst xs))
  (ho:s.heap.get? p=some { cls:=.type "list",data:=.seq its.toArray n }) (hf:f { cls:=.type "list",data:=.seq its.toArray n }={ cls:=.type "list",data:=.seq its'.toArray n' }) (r:Vals ys its') (hz:ys.length<=Au) (t:Nat) :
  Inv X pins σ (upd H p (.lst ys)) { s with heap:=s.heap.update p f,toks:=t }:=by
 have e:(s.heap.update p f).get? p=some { cls:=.type "list",data:=.seq its'.toArray n' }:=by
  rw [BR f ho (by rw [hf]<;>rfl),hf]
 refine I.write (x:=p) (e:=p) (by rw [h];trivial) (.inl rfl) (λb u hb q=>(AY _ _ (Bg hb)).trans q) ⟨_,e⟩ ?_;exact ⟨hz,its',n',r,e⟩
def aIy:V->V->V->Hp->(Hp->Prop)->Prop:=λo i v H Q=>∃ p xs k j,o=.ref p/\i=.int k/\H p=some (.lst xs)/\ixN xs.length k=some j/\Q (upd H p (.lst (xs.set j v)))
def set_list:PSet X aIy:=by
 intro pins s σ H o i v ov iv u Q I ro ri rv h;obtain ⟨p,xs,k,j,rfl,rfl,hp,hj,q⟩:=h;cases ro;obtain ⟨t,rfl⟩:=ri;obtain ⟨its,n,r,ho,hz⟩:=I.lst hp;obtain ⟨h1,h2,h3,h4⟩:=yJ hj;have hl:=r.length;have hn:=kQ;have I':Inv X pins σ (upd H p (.lst (xs.set j v))) { s with heap:=s.heap.update p (DV (·.setIfInBounds j u)) }:=
  I.lstUpd hp ho (tX its n j u) (r.set rv j) (by rw [CB];exact hz) s.toks
 by_cases h0:0<=k
 ·have hk:k.toNat=j:=by
   rw [seqIndex_of h0 h4] at h1;exact AG h1
  exact PySem.W.ki_setAt ho h0 (by omega) (by rw [Ak,<- hl];exact h4) (by rw [hk];exact ⟨_,I',q⟩)
 ·have hk:(k+(its.toArray.size:Int)).toNat=j:=by
   rw [seqIndex_neg (by omega) h3] at h1;rw [Ak,<- hl];exact AG h1
  exact PySem.W.ki_setBack ho (by omega) (by rw [Ak,<- hl];exact h3) (by omega) (by rw [hk];exact ⟨_,I',q⟩)
def mI (lo hi:Option Int)(n:Nat):(sliceBounds lo hi none n).1=((HT.sIx n 0 lo:Nat):Int)/\(sliceBounds lo hi none n).2.1=((HT.sIx n n hi:Nat):Int)/\(sliceBounds lo hi none n).2.2=1:=by
 refine ⟨?_,?_,rfl⟩
 ·cases lo with
  |none=>simp [sliceBounds,HT.sIx]
  |some i=>
   simp only [sliceBounds,HT.sIx,Option.getD_none,show (1:Int) > 0 by decide,if_true]
   by_cases h:i<0
   ·simp only [h,if_true]<;>omega
   ·simp only [h,if_false]<;>omega
 ·cases hi with
  |none=>simp [sliceBounds,HT.sIx]
  |some i=>
   simp only [sliceBounds,HT.sIx,Option.getD_none,show (1:Int) > 0 by decide,if_true]
   by_cases h:i<0
   ·simp only [h,if_true]<;>omega
   ·simp only [h,if_false]<;>omega
theorem lE (its:List Value)(lo hi:Option Int):slicePick its.toArray lo hi none=((its.drop (HT.sIx its.length 0 lo)).take (HT.sIx its.length its.length hi-HT.sIx its.length 0 lo)).toArray:=by
 obtain ⟨h1,h2,h3⟩:=mI lo hi its.toArray.size;unfold slicePick;rw [h1,h2,h3];simp only [sliceRange_one,pick_run,Ak]<;>rfl
def rSlL (K:Ab):V->Option Int->Option Int->Hp->VK->Prop:=λx lo hi H Q=>∃ a xs,x=.ref a/\SqL K H a xs/\∀ p,H p=none->Q (.ref p) (upd H p (.lst (cutV xs lo hi)))
def vF:SlR X (rSlL X.K):=by
 intro pins s σ H x v vl vu lo hi sl Q I rx hs pl pu h;obtain ⟨a,xs,rfl,hx,q⟩:=h;cases rx;obtain ⟨its,r,ht,hz⟩:=I.list hx;have hlen:=r.length;refine ⟨"list",_,slot_list_getitem.lookup,ht.isList.typeIs,?_⟩;refine wpAny_getItem_list_slice ht.isList hs pl pu .none (by simp) ?_ (by rw [Ak]<;>omega);rw [lE,<- hlen];refine ⟨.ref s.heap.objs.size,_,I.laid (t':=s.toks) (o:=.lst (cutV xs lo hi)) (λb ob q=>Ad _ q) (Aj _) ?_,rfl,q _ (I.hok.fresh (Aj _))⟩;exact ⟨AU (jU xs lo hi) hz,_,0,(r.drop (HT.sIx xs.length 0 lo)).take (HT.sIx xs.length xs.length hi-HT.sIx xs.length 0 lo),Ai _ rfl⟩
def eW:V->Bool
 |.non=>true
 |.bl _=>true
 |.int _=>true
 |.str _=>true
 |_=>false
def eqV:V->V->Bool
 |.non,.non=>true
 |.bl a,.bl b=>a==b
 |.bl a,.int b=>(if a then 1 else 0)==b
 |.int a,.bl b=>a==(if b then 1 else 0)
 |.int a,.int b=>a==b
 |.str a,.str b=>a==b
 |_,_=>false
def aC3 (ry:RelV y u)(rx:RelV x v)(fy:eW y=true)(fx:eW x=true):Bj A s u v (eqV y x):=by
 cases y with
 |non=>
  cases ry;cases x with
  |non=>cases rx;exact Bj.same _
  |bl b=>cases rx;exact Bj.none_bool b
  |int b=>obtain ⟨t,rfl⟩:=rx;exact Bj.none_int b t
  |str b=>obtain ⟨t,rfl⟩:=rx;exact Bj.none_str b t
  |_=>exact absurd (show false=true from fx) AB
 |bl a=>
  cases ry;cases x with
  |non=>cases rx;exact Bj.bool_none a
  |bl b=>cases rx;exact Bj.bool_bool a b
  |int b=>obtain ⟨t,rfl⟩:=rx;exact Bj.bool_int a b t
  |str b=>obtain ⟨t,rfl⟩:=rx;exact Bj.bool_str a b t
  |_=>exact absurd (show false=true from fx) AB
 |int a=>
  obtain ⟨t',rfl⟩:=ry;cases x with
  |non=>cases rx;exact Bj.int_none a t'
  |bl b=>cases rx;exact Bj.int_bool a t' b
  |int b=>obtain ⟨t,rfl⟩:=rx;exact Bj.int_int a t' b t
  |str b=>obtain ⟨t,rfl⟩:=rx;exact Bj.int_str a t' b t
  |_=>exact absurd (show false=true from fx) AB
 |str a=>
  obtain ⟨t',rfl⟩:=ry;cases x with
  |non=>cases rx;exact Bj.str_none a t'
  |bl b=>cases rx;exact Bj.str_bool a t' b
  |int b=>obtain ⟨t,rfl⟩:=rx;exact Bj.str_int a t' b t
  |str b=>obtain ⟨t,rfl⟩:=rx;exact Bj.str_str a t' b t
  |_=>exact absurd (show false=true from fx) AB
 |_=>exact absurd (show false=true from fy) AB
def eqU (x:V)(u:Value):Bool:=match u with
 |.none=>eqV .non x
 |.bool b=>eqV (.bl b) x
 |.int i _=>eqV (.int i) x
 |.str z _=>eqV (.str z) x
 |_=>false
theorem aC2 (r:RelV y u)(f:eW y=true):eqU x u=eqV y x:=by
 cases y with
 |non=>cases r;rfl
 |bl b=>cases r;rfl
 |int i=>obtain ⟨t,rfl⟩:=r;rfl
 |str z=>obtain ⟨t,rfl⟩:=r;rfl
 |_=>exact absurd (show false=true from f) AB
theorem jX :∀ {xs:List V} {us:List Value},Vals xs us->xs.all eW=true->us.any (eqU x)=xs.any λy=>eqV y x
 |_,_,.nil,_=>rfl
 |y::xs,u::us,.cons r t,f=>by
  rw [List.all_cons,BU] at f;rw [List.any_cons,List.any_cons,aC2 r f.1,jX t f.2]
theorem gN (rx:RelV x v)(fx:eW x=true):∀ {xs:List V} {us:List Value},Vals xs us->xs.all eW=true->∀ u∈us,Bj A s u v (eqU x u)
 |_,_,.nil,_=>λu hu=>by cases hu
 |y::xs,u::us,.cons r t,f=>λu' hu=>by
  rw [List.all_cons,BU] at f
  rcases AA.mp hu with rfl|hu
  ·rw [aC2 r f.1];exact aC3 r rx f.1 fx
  ·exact gN rx fx t f.2 u' hu
def inV (x:V)(xs:List V):Bool:=xs.any λy=>eqV y x
inductive rIn (K:Ab)(neg:Bool)(x y:V)(H:Hp)(Q:VK):Prop
 |mk (p:Addr) (xs:List V) (e:y=.ref p) (q:SqL K H p xs\/SqT K H p xs) (f:eW x=true) (g:xs.all eW=true) (h:Q (.bl (if neg then !inV x xs else inV x xs)) H)
def eT:OpR X (Bl .In) (rIn X.K false):=by
 intro pins s σ H x y v u Q I rx ry h;obtain ⟨p,xs,rfl,hq,fx,fs,q⟩:=h;cases ry
 rcases hq with hq|hq
 ·obtain ⟨its,r,pl,hz⟩:=I.list hq
  refine SeqAt.in_listAt (eqU x) pl.isList (λw hw=>gN rx fx r fs w (by simpa using hw)) ⟨.bl _,H,I,rfl,?_⟩;rw [show its.toArray.any (eqU x)=its.any (eqU x) by simp,jX r fs];exact q
 ·obtain ⟨its,r,pl,hz⟩:=I.tuple hq
  refine SeqAt.in_tupleAt (eqU x) pl (λw hw=>gN rx fx r fs w (by simpa using hw)) ⟨.bl _,H,I,rfl,?_⟩;rw [show its.toArray.any (eqU x)=its.any (eqU x) by simp,jX r fs];exact q
def nE:OpR X (Bl .NotIn) (rIn X.K true):=by
 intro pins s σ H x y v u Q I rx ry h;obtain ⟨p,xs,rfl,hq,fx,fs,q⟩:=h;cases ry
 rcases hq with hq|hq
 ·obtain ⟨its,r,pl,hz⟩:=I.list hq
  refine SeqAt.notIn_listAt (eqU x) pl.isList (λw hw=>gN rx fx r fs w (by simpa using hw)) ⟨.bl _,H,I,rfl,?_⟩;rw [show its.toArray.any (eqU x)=its.any (eqU x) by simp,jX r fs];exact q
 ·obtain ⟨its,r,pl,hz⟩:=I.tuple hq
  refine SeqAt.notIn_tupleAt (eqU x) pl (λw hw=>gN rx fx r fs w (by simpa using hw)) ⟨.bl _,H,I,rfl,?_⟩;rw [show its.toArray.any (eqU x)=its.any (eqU x) by simp,jX r fs];exact q
inductive rLen (K:Ab)(xs:List V)(H:Hp)(Q:VK):Prop
 |mk (p:Addr) (ys:List V) (e:xs=[.ref p]) (q:SqL K H p ys\/SqT K H p ys) (h:Q (.int ys.length) H)
def aY:fG X (.builtin "len") (rLen X.K):=by
 intro pins s σ H xs us Q I r h;obtain ⟨p,ys,rfl,hq,q⟩:=h;obtain ⟨u,rfl,rx⟩:=vals1 r;cases rx;have hn:=kQ
 rcases hq with hq|hq
 ·obtain ⟨its,r',pl,hz⟩:=I.list hq
  have hlen:=r'.length;exact Calls.call_len_list pl.isList (by simp only [Ak]<;>omega) ⟨.int ys.length,H,I.tok _,⟨s.toks+1,by rw [Ak,hlen]⟩,q⟩
 ·obtain ⟨its,r',pl,hz⟩:=I.tuple hq
  have hlen:=r'.length;exact len_tuple pl (by simp only [Ak]<;>omega) ⟨.int ys.length,H,I.tok _,⟨s.toks+1,by rw [Ak,hlen]⟩,q⟩
def nV:fG X (.builtin "len") (λxs H Q=>∃ z,xs=[.str z]/\z.length<=Au/\Q (.int z.length) H):=by
 intro pins s σ H xs us Q I r h;obtain ⟨z,rfl,hz,q⟩:=h;obtain ⟨u,rfl,t,rfl⟩:=vals1 r;have hn:=kQ;exact len_str (by omega) ⟨.int z.length,H,I.tok _,⟨_,rfl⟩,q⟩
inductive rLstOf (K:Ab)(xs:List V)(H:Hp)(Q:VK):Prop
 |mk (p:Addr) (ys:List V) (e:xs=[.ref p]) (q:SqL K H p ys\/SqT K H p ys) (h:∀ l,H l=none->Q (.ref l) (upd H l (.lst ys)))
def bJ:fG X (.type "list") (rLstOf X.K):=by
 intro pins s σ H xs us Q I r h;obtain ⟨p,ys,rfl,hq,q⟩:=h;obtain ⟨u,rfl,rx⟩:=vals1 r;cases rx;have fin:∀ (its:List Value),Vals ys its->ys.length<=Au->∀ (h':Heap) (c':Nat),(∀ b o',s.heap.get? b=some o'->h'.get? b=some o') ->
   h'.get? s.heap.objs.size=some { cls:=.type "list",dict:=none,data:=.seq its.toArray c',slots:=#[] }->EP X pins σ Q (.ref s.heap.objs.size) { s with heap:=h' }:=λits r' hz h' c' kp e=>
  ⟨.ref s.heap.objs.size,_,I.laid (t':=s.toks) kp (Aj _) (show ObjOk X.prog X.w _ h' _ (.lst ys) from ⟨hz,its,c',r',e⟩),rfl,q _ (I.hok.fresh (Aj _))⟩
 rcases hq with hq|hq
 ·obtain ⟨its,r',pl,hz⟩:=I.list hq
  have hlen:=r'.length;obtain ⟨o,ho,hc,n,hd⟩:=pl.isList;exact call_list_seq p (.inl rfl) ho hc hd (λh' c' kp e=>fin its r' hz h' c' kp e) (by simp only [Ak]<;>omega)
 ·obtain ⟨its,r',pl,hz⟩:=I.tuple hq
  have hlen:=r'.length;obtain ⟨o,ho,hc,n,hd⟩:=pl;exact call_list_seq p (.inr rfl) ho hc hd (λh' c' kp e=>fin its r' hz h' c' kp e) (by simp only [Ak]<;>omega)
def bH:fG X (.type "tuple") (λxs H Q=>∃ p ys,xs=[.ref p]/\((SqL X.K H p ys/\∀ l,H l=none->Q (.ref l) (upd H l (.tup ys)))\/(SqT X.K H p ys/\Q (.ref p) H))):=by
 intro pins s σ H xs us Q I r h;obtain ⟨p,ys,rfl,h⟩:=h;obtain ⟨u,rfl,rx⟩:=vals1 r;cases rx
 rcases h with ⟨hq,q⟩|⟨hq,q⟩
 ·obtain ⟨its,r',pl,hz⟩:=I.list hq
  have hlen:=r'.length;refine call_tuple_list pl.isList (λh' kp=>?_) (by simp only [Ak]<;>omega);have I1:Inv X pins σ H { s with heap:=h' }:=I.kept (t':=s.toks) kp;have I2:Inv X pins σ (upd H h'.objs.size (.tup ys)) { s with heap:=h'.push { cls:=.type "tuple",data:=.seq its.toArray } }:=
   I1.laid (t':=s.toks) (λb o e=>Ad _ e) (Aj _) (show ObjOk X.prog X.w _ _ _ (.tup ys) from ⟨⟨hz,_,Ai _ rfl,rfl⟩,its,r',IsTup.new _ _⟩)
  exact ⟨.ref h'.objs.size,_,I2,rfl,q _ (I1.hok.fresh (Aj _))⟩
 ·obtain ⟨its,r',pl,hz⟩:=I.tuple hq
  exact call_tuple_same pl ⟨.ref p,H,I,rfl,q⟩
def tyV (K:Ab)(T:String)(x:V)(H:Hp):Prop:=match x with
 |.str _=>T = "str"
 |.int _=>T = "int"
 |.ref p=>(T = "list" /\ ∃ xs,SqL K H p xs)\/(T = "tuple" /\ ∃ o,K.lookup p=some o/\o.cls=.type "tuple" /\ o.dict=none) \/
   (T = "dict" /\ ((∃ kvs,H p=some (.dK kvs))\/∃ kvs,H p=some (.dT kvs)))\/(T = "set" /\ ∃ S n,H p=some (.set S n))
 |_=>False
def aF2 {σ:St}(I:Inv X pins σ H s)(r:RelV x v)(ty:tyV X.K T x H) :
  s.TypeIs v T/\∀ a,v=.ref a->∃ ob,s.heap.get? a=some ob/\ob.dict=none:=by
 cases x with
 |str z=>
  obtain ⟨t,rfl⟩:=r;cases (show T = "str" from ty);exact ⟨typeIs_str s z t,λ_ e=>nomatch e⟩
 |int i=>
  obtain ⟨t,rfl⟩:=r;cases (show T = "int" from ty);exact ⟨typeIs_int s i t,λ_ e=>nomatch e⟩
 |ref p=>
  cases r
  rcases ty with ⟨rfl,xs,hq⟩|⟨rfl,o,hk,hc,hd⟩|⟨rfl,hk⟩|⟨rfl,S,n,hk⟩
  ·obtain ⟨its,_,pl,_⟩:=I.list hq
   refine ⟨pl.isList.typeIs,λa e=>?_⟩;cases e;obtain ⟨o,n,e,c,hd,_⟩:=pl;exact ⟨o,e,hd⟩
  ·refine ⟨⟨o,I.kIn p o hk,hc⟩,λa e=>?_⟩
   cases e;exact ⟨o,I.kIn _ o hk,hd⟩
  ·have z:∃ o,s.heap.get? p=some o/\o.ExactDict:=by
    rcases hk with ⟨kvs,hk⟩|⟨kvs,hk⟩
    ·obtain ⟨_,_,_,_,o,_,_,e,ex,_⟩:=I.hok p _ hk
     exact ⟨o,e,ex⟩
    ·obtain ⟨_,_,_,_,o,_,_,e,ex,_⟩:=I.hok p _ hk
     exact ⟨o,e,ex⟩
   obtain ⟨o,e,ex⟩:=z;refine ⟨⟨o,e,ex.1⟩,λa e2=>?_⟩;cases e2;exact ⟨o,e,ex.2.1⟩
  ·obtain ⟨o,_,_,_,e,ex,_⟩:=I.hok p _ hk
   refine ⟨⟨o,e,ex.1⟩,λa e2=>?_⟩;cases e2;exact ⟨o,e,ex.2.1⟩
 |_=>exact CH ty
def tBM0 (K:Ab)(T:String)(r:V->List V->Hp->VK->Prop)(to:TE):TE:=λσ H Q=>to σ H λx H1=>tyV K T x H1/\r x [] H1 Q
def tBM (K:Ab)(T:String)(r:V->List V->Hp->VK->Prop)(to:TE)(t:TA):TE:=λσ H Q=>to σ H λx H1=>tyV K T x H1/\t σ H1 λxs H2=>r x xs H2 Q
variable {o e:Expr}{es:List Expr}{to:TE}{t:TA}{name:Str}{apos cpos:Pos}{T id:String}{r:V->List V->Hp->VK->Prop}
def lQ (pa:PlainAttrs T)(slot:Slot T name id)(hty:typeOf (.builtin id)=pure (.type "method_descriptor"))(hm:MtR X id r)(ho:PE X o to)(ha:PA X (e::es) t)
  (hbase:EJ o name X.env (eval o X.env)=eval o X.env:=by rfl)
  (hfew:((backTo cpos (AQ (e::es) X.env)).all (λx=>!x.1)&&(backToKw cpos (keywordEach [] X.env)).all (λx=>x.1.isSome)
   && decide ((e::es).length+([]:List Keyword).length+(if ([]:List Keyword).isEmpty then 0 else 1)<30))=true:=by rfl)
  (hline:(apos.endLine==cpos.line)=true:=by rfl) (hs:AQ (e::es) X.env=(false,eval e X.env)::AQ es X.env:=by rfl) (hplain:(backTo cpos (AQ es X.env)).any (·.1)=false:=by rfl) :
  PE X (.Call (.Attribute o name apos) (e::es) [] cpos) (tBM X.K T r to t):=by
 intro pins s σ H Q I h;refine wpAny_Call_method_late hbase hfew hline rfl (thn (ho pins s σ H _ I h) λv s1 ⟨x,H1,I1,r1,ty,q1⟩=>?_);obtain ⟨h1,h2⟩:=aF2 I1 r1 ty;refine ⟨T,id,pa,slot,hty,h1,h2,?_⟩;have hA:=ha cpos pins s1 σ H1 _ I1 q1;rw [hs] at hA ⊢;refine DE (by show (false||(backTo cpos (AQ es X.env)).any (·.1))=false;rw [hplain]<;>rfl) (ES ?_);exact thn hA λus s2 ⟨vs,H2,I2,r2,q2⟩=>hm pins s2 σ H2 x vs v us Q I2 r1 r2 q2
end
def MtM (X:Cx)(id:String)(r:V->List V->Hp->VK->Prop):Prop:=
 ∀ (pins:List (Addr×Obj)) (s:Shared) (σ:St) (H:Hp) (x:V) (xs:List V) (v:Value) (us:List Value) (Q:VK),Inv X pins σ H s->RelV x v->Vals xs us->r x xs H Q ->
  wpAny (model X.prog X.w) X.A (call (.builtin id) (v::us)) (EP X pins σ Q) X.xe s
def Vals.one:∀ {x:V} {us:List Value},Vals [x] us->∃ u,us=[u]/\RelV x u
 |_,_,.cons r .nil=>⟨_,rfl,r⟩
def Vals.two:∀ {x y:V} {us:List Value},Vals [x,y] us->∃ u v,us=[u,v]/\RelV x u/\RelV y v
 |_,_,_,.cons r (.cons q .nil)=>⟨_,_,rfl,r,q⟩
section
variable {X:Cx}{pins:List (Addr×Obj)}{σ:St}{H:Hp}{s:Shared}{l b:Addr}{xs ys zs:List V}
def Inv.lset {its its':List Value}{n:Nat}{f:Array Value->Array Value}{t':Nat}(I:Inv X pins σ H s)(hH:H l=some (.lst xs))
  (e:s.heap.get? l=some { cls:=.type "list",data:=.seq its.toArray n }) (hf:f its.toArray=its'.toArray) (hv:Vals ys its') (hz:ys.length<=Au) :
  Inv X pins σ (upd H l (.lst ys)) { s with heap:=s.heap.update l (DV f),toks:=t' }:=by
 have q:=PySem.IsL.update e f;rw [hf] at q;refine I.write (x:=l) (e:=l) (by rw [hH];exact trivial) (.inl rfl) (λb' u hb hu=>(AY s.heap (DV f) (Bg hb)).trans hu) ⟨_,q⟩ ?_;exact ⟨hz,its',_,hv,q⟩
def Inv.lnew {t':Nat}(I:Inv X pins σ H s)(hv:Vals ys its)(hz:ys.length<=Au) :
  Inv X pins σ (upd H s.heap.objs.size (.lst ys)) { s with heap:=s.heap.push { cls:=.type "list",data:=.seq its.toArray },toks:=t' }:=
 I.laid (λ_ _ q=>Ad _ q) (Aj _) ⟨hz,its,0,hv,Ai _ rfl⟩
theorem Inv.fresh (I:Inv X pins σ H s):H s.heap.objs.size=none:=I.hok.fresh (Aj _)
def Inv.lstM (I:Inv X pins σ H s)(hH:H l=some (.lst xs)):xs.length<=Au/\∃ (its:List Value) (n:Nat),Vals xs its/\xs.length=its.length/\s.heap.get? l=some { cls:=.type "list",data:=.seq its.toArray n }:=by
 obtain ⟨z,its,n,r,e⟩:=I.hok l _ hH;exact ⟨z,its,n,r,r.length,e⟩
end
section
variable {X:Cx}
inductive rAppend (x:V)(vs:List V)(H:Hp)(Q:VK):Prop
 |mk (l:Addr) (xs:List V) (y:V) (e:x=.ref l) (e':vs=[y]) (i:H l=some (.lst xs)) (z:xs.length<Au) (h:Q .non (upd H l (.lst (xs++[y]))))
def cQ:MtM X "list.append" rAppend:=by
 intro pins s σ H x vs v us Q I rx rv h;obtain ⟨l,xs,y,rfl,rfl,hH,hz,q⟩:=h;cases rx;obtain ⟨u,rfl,ru⟩:=rv.one;obtain ⟨z,its,n,r,hl,e⟩:=I.lstM hH;refine call_meets F.slot_list_append ⟨_,e,rfl⟩ F.entry_list_append (F.args_list_append_2 _ _) (PySem.list_append l its.toArray n u (by rw [Ak];omega)) ⟨e,?_⟩;refine ⟨.non,_,I.lset (its':=its++[u]) hH e (by simp) (r.append (.cons ru .nil)) ?_,rfl,q⟩;rw [Ay,DM];omega
def rExtend:V->List V->Hp->VK->Prop:=λx vs H Q=>∃ l b xs zs,x=.ref l/\vs=[.ref b]/\H l=some (.lst xs)/\H b=some (.lst zs)/\xs.length+zs.length<=Au/\Q .non (upd H l (.lst (xs++zs)))
def rPop:V->List V->Hp->VK->Prop:=λx vs H Q=>∃ l xs y,x=.ref l/\vs=[]/\H l=some (.lst xs)/\xs[xs.length-1]?=some y/\Q y (upd H l (.lst xs.dropLast))
def rPopAt:V->List V->Hp->VK->Prop:=λx vs H Q=>∃ l xs i k y,x=.ref l/\vs=[.int i]/\H l=some (.lst xs)/\-(2^63)<=i/\i<2^63/\seqIndex? i xs.length=some k/\xs[k]?=some y/\Q y (upd H l (.lst (xs.eraseIdx k)))
def rReverse:V->List V->Hp->VK->Prop:=λx vs H Q=>∃ l xs,x=.ref l/\vs=[]/\H l=some (.lst xs)/\Q .non (upd H l (.lst xs.reverse))
def rClear:V->List V->Hp->VK->Prop:=λx vs H Q=>∃ l xs,x=.ref l/\vs=[]/\H l=some (.lst xs)/\Q .non (upd H l (.lst []))
def rCat:R2:=λx y H Q=>∃ l b xs zs,x=.ref l/\y=.ref b/\H l=some (.lst xs)/\H b=some (.lst zs)/\xs.length+zs.length<=Au/\∀ p,H p=none->Q (.ref p) (upd H p (.lst (xs++zs)))
def xA:OpR X (Em .Add) rCat:=by
 intro pins s σ H x y v u Q I rx ry h;obtain ⟨l,b,xs,zs,rfl,rfl,hH,hB,hz,q⟩:=h;cases rx;cases ry;obtain ⟨z,its,n,r,hl,e⟩:=I.lstM hH;obtain ⟨z2,its2,n2,r2,hl2,e2⟩:=I.lstM hB;refine PySem.P.add_list e e2 ?_ (by rw [Ak,Ak];omega);have ea:its.toArray++its2.toArray=(its++its2).toArray:=by simp
 rw [ea];exact ⟨.ref _,_,I.lnew (t':=s.toks) (r.append r2) (by rw [Ay];omega),rfl,q _ I.fresh⟩
def rRep:R2:=λx y H Q=>∃ l k xs,x=.ref l/\y=.int k/\H l=some (.lst xs)/\-(2^63)<=k/\k<2^63/\xs.length*k.toNat<=Au /\
 ∀ p,H p=none->Q (.ref p) (upd H p (.lst (Co k.toNat xs).flatten))
end
section
variable {prog:Av}{w:World}{A:Around}{E:Value->Shared->Prop}{s:Shared}
set_option maxRecDepth 100000 in
end
section
variable {X:Cx}
end
end L2
namespace Att
open PySem PySem.W PySem.Calls PyProof.Rows
def jT :∀ (ns:List Int) (vs:List Value),WellAll P h vs (ns.map WData.int)->IntsAre vs ns:=by
 intro ns
 induction ns with
 |nil=>
  intro vs w;rw [List.map_nil] at w;cases w;exact .nil
 |cons n ns ih=>
  intro vs w;rw [An] at w;cases w with
  |cons a b=>
   cases a;exact .cons _ _ (ih _ b)
def vI {l:OpenLaw}{n:Nat}(hn:l.most=some n){P:Params}{h:Heap}{args:List WData}{vals:List Value}
  (hpre:l.row.toRowW.claim.pre args=true) (hwl:WellAll P h vals args) :
  ∃ a vs ns,vals=[AC a]/\args=[WData.list (ns.map WData.int)]/\h.get? a=some { cls:=.type "list",data:=.seq vs.toArray }/\IntsAre vs ns/\ns.length<=n:=by
 have hsh:WShape.hasAll [] args [.list .int]=true:=(pre_splitW hpre).1;have hc:l.pre.holds [] { args:=args }=true:=(pre_splitW hpre).2;obtain ⟨d,r,rfl,h1,h2⟩:=hasAllW_cons hsh;obtain rfl:=hasAllW_nil h2;obtain ⟨xs,rfl,h3⟩:=hasW_list h1;obtain ⟨ns,rfl⟩:=items_int h3;have hlen:ns.length<=n:=by
  unfold OpenLaw.pre at hc;have h4:(WTm.not (.lt (.lit (.int (n:Int))) (.len (.arg 0)))).holds [] { args:=[.list (ns.map .int)] }=true:=by
   have h4:=(holds_andW hc).1;rw [hn] at h4;exact h4
  have h5:=condW_of h4 (w_not (w_lt w_lit (w_len_list (w_arg rfl))));rw [Af] at h5;refine Nat.le_of_not_lt λq=>?_;have q':(n:Int)<((ns.length:Nat):Int):=by omega
  first
   |(rw [decide_eq_true q'] at h5;exact absurd h5 (by decide))
   |(simp at h5;omega)
 cases hwl with
 |cons w1 w2=>
  cases w2;cases w1 with
  |list ho hall=>exact ⟨_,_,ns,rfl,rfl,ho,jT ns _ hall,hlen⟩
def wD (l:OpenLaw)(args:List WData):l.row.toRowW.claim.post args (.bool true) args=true:=
 postW_of (r:=l.row.toRowW) (X:=(true==true))
  (show WShape.has [] (.bool true) .bool=true by first|rfl|decide|simp [WShape.has,WShape.arms,WShape.armsAll])
  (show (WTm.eq .res (.lit (.bool true))).value [] { args:=args,res:=some (.bool true),after:=args }=some (.bool (true==true)) from w_eq_bool (w_res rfl) w_lit) rfl
def attach_call {l:OpenLaw}{n:Nat}{q:Av}{loose:List Str}{XP:(Str->Option Value)->Heap->Prop}{YP:World->Heap->Prop}{d:DefRec}
  (hn:l.most=some n) (hdf:d.params.defaults=[])
  (call:∀ (w:World) (s₀ s₁:Shared) (mg mb:Str->Option Value) (fa:Addr) (o:Obj) (pm cd doc:Value) (a:Addr) (vs:List Value) (ns:List Int),
   Ground q loose [] XP w s₀ mg mb s₁.heap->YP w s₁.heap ->
   s₁.heap.get? fa=some o->o.data=.func (docDef d.name d.params d.body d.scope pm cd doc)->s₁.heap.CodeRec cd d.name->mg d.name=some (.ref fa) ->
   s₁.heap.get? a=some { cls:=.type "list",data:=.seq vs.toArray }->IntsAre vs ns->ns.length<=n->s₁.gens=#[] ->
   Ew (model l.prog w) callerA (.call (.ref fa) ⟨[.ref a],[]⟩) (λr s'=>r=.ok (.ret (.bool true))/\OldK s₁.heap s'.heap/\s'.os=s₁.os/\AllBare s'.gens) s₁) :
  WalkO q loose XP YP l.row.toRowW d [] (λf vs=>PySem.call f vs):=by
 intro w s₀ s₁ mg mb G Y fa o pm cd doc dV kV ho hd hcd hD hmg hg args vals as hpre hlay hrd hwl hlo;obtain rfl:dV=.none:=Dflts.none hD hdf;obtain rfl:kV=.none:=Dflts.noKw hD;obtain ⟨a,vs,ns,rfl,rfl,hobj,hints,hlen⟩:=vI hn hpre hwl;refine enter_call (Cn (call w s₀ s₁ mg mb fa o pm cd doc a vs ns G Y ho (fd_plain hd) hcd hmg hobj hints hlen hg) λr s' hq=>?_);obtain ⟨rfl,h2,h3,h4⟩:=hq;exact ⟨.inl ⟨.bool true,.bool true,[],rfl,λ_=>rfl,.bool true,wD l _,λ_=>⟨List.Pairwise.nil,λ_ hm=>(nomatch hm)⟩⟩,h2,h3,h4⟩
section
variable {prog:Av}{w:World}{A:Around}{E:Value->Shared->Prop}{s:Shared}{K:Frag}
def noObjs (h:Heap):Heap:={ h with objs:=#[] }
def ledger (h:Heap)(L d:Addr):List (Addr×Obj):=(AF h.objs.size).filterMap λa=>if a=L\/a=d then none else (h.get? a).map λo=>(a,o)
end
end Att
namespace L2
open PySem PySem.Spec PyProof.Rows
theorem mE:∀ {vs:List Value} {ns:List Int},IntsAre vs ns->Vals (ns.map V.int) vs
 |_,_,.nil=>.nil
 |_,_,.cons n t h=>.cons ⟨t,rfl⟩ (mE h)
def Only (H:Hp):Prop:=∀ b,H b=none\/∃ o xs,H b=some (.frz o (.lst xs))
def aBp {P:Av}{w:World}{K:Ab}{mg mb:Str->Option Value}{CX:CXT}{k:Nat}{fa a:Addr}{fd:Az}{x:Str}{sp:Sp}{s₁:Shared}{vs:List Value}{ns:List Int}
  (KX:K.In s₁.heap) (hns:s₁.heap.Ns AD mg) (hb:s₁.heap.Ns builtinsNs mb) (hbb:∀ x:Str,x ≠ "__name__" -> mb x=Ce x) (hlim:s₁.heap.NoLimit) (hg:s₁.gens=#[])
  (ha:s₁.heap.get? a=some { cls:=.type "list",data:=.seq vs.toArray }) (hi:IntsAre vs ns) (hl:ns.length<=Au) (hr:Room k callerA)
  (F:∀ base:Heap,K.In base->base.Ns AD mg->FnOk P w K mg base CX k fa fd [x] sp) (hbind:∀ (s:Shared) (u:Value),BindsTo s fd ⟨[u],[]⟩ [(x,u)])
  (hsp:∀ H:Hp,Only H->SqL K H a (ns.map V.int)->sp [.ref a] H (λv _=>v=.bl true) λ_ _ _=>False)
  (hCX:∀ H e s',CX [] H s₁ (λ_ _ _=>False) e s'->False) :
  Ew (model P w) callerA (.call (.ref fa) ⟨[.ref a],[]⟩) (λr s'=>r=.ok (.ret (.bool true))/\OldK s₁.heap s'.heap/\s'.os=s₁.os/\AllBare s'.gens) s₁:=by
 have rv:=mE hi;have lenV:=hi.length;have core:∀ H:Hp,Only H->SqL K H a (ns.map V.int)->HOk P w H s₁.heap->(∀ b,H b≠none->b=a)->(H a≠none->K.lookup a=none) ->
   Ew (model P w) callerA (.call (.ref fa) ⟨[.ref a],[]⟩) (λr s'=>r=.ok (.ret (.bool true))/\OldK s₁.heap s'.heap/\s'.os=s₁.os/\AllBare s'.gens) s₁:=by
  intro H hO hS hok hA hK;have base_of:∀ {b:Addr} {o:Obj},s₁.heap.get? b=some o->H b=none->(hidT s₁.heap H).get? b=some o:=λe n=>aBt e n;have noA:∀ {b:Addr} {o:Obj} {es:Array DictEntry} {ep:Nat},s₁.heap.get? b=some o->o.data=.dict es ep->H b=none:=λ{b o es ep} e d=>by
   cases q:H b with
   |none=>rfl
   |some u=>
    have e':b=a:=hA b (by rw [q];simp);subst e';rw [ha] at e;cases e;have d':Data.seq vs.toArray _=Data.dict es ep:=d;cases d'
  have nsK:∀ {b:Addr} {m:Str->Option Value},s₁.heap.Ns b m->(hidT s₁.heap H).Ns b m:=λ{b m} ⟨o,es,ep,e,d,r⟩=>⟨o,es,ep,base_of e (noA e d),d,r⟩;have hKb:K.In (hidT s₁.heap H):=λb o e=>base_of (KX b o e) (by
   cases q:H b with
   |none=>rfl
   |some u=>
    have e':b=a:=hA b (by rw [q];simp);subst e';rw [hK (by rw [q];simp)] at e;cases e)
  have hM:Mod K mg (hidT s₁.heap H):=⟨hKb,nsK hns,⟨mb,nsK hb,hbb⟩,let ⟨mc,h1,h2⟩:=hlim;⟨mc,nsK h1,h2⟩⟩;have e0:Env0 P w K mg (hidT s₁.heap H) callerA [] s₁ H:=⟨rfl,hM,λb o e=>aE7 e,Nat.le_of_eq (yN _ _),trivial,λb hb=>absurd (show b∈([]:List Addr) from hb) (by simp),hok,.of_eq hg⟩;refine Cn ((F _ hKb (nsK hns)).run callerA [] s₁ H ⟨[.ref a],[]⟩ [.ref a] [.ref a] _ _ hr e0 (hbind s₁ (.ref a)) (.cons rfl .nil) (hsp H hO hS)) λr s' h=>?_;cases r with
  |error e=>exact (hCX H e s' h).elim
  |ok fl=>
   cases fl with
   |next=>exact CH h
   |brk=>exact CH h
   |cont=>exact CH h
   |ret u=>
    obtain ⟨v,H',os,bare,un,hok',r',q⟩:=h;have q':v=.bl true:=q;subst q';obtain rfl:u=Value.bool true:=r';refine ⟨rfl,OldK.of_keep λb o e=>?_,os,bare⟩;cases q:H b with
    |none=>exact un.keep b o e q (by intro z;exact absurd (show b∈([]:List Addr) from z) (by simp)) (by simp)
    |some u=>
     rcases hO b with z|⟨ob,xs,z⟩
     ·rw [q] at z;cases z
     ·have z2:=un.frzs b ob _ z
      obtain ⟨e1,_⟩:=hok b _ z;obtain ⟨e2,_⟩:=hok' b _ z2;rw [e] at e1;cases e1;exact e2
 cases hk:K.lookup a with
 |some o=>
  have e:=KX a o hk;rw [ha] at e;cases e;refine core (λ_=>none) (λ_=>.inl rfl) (.inr ⟨_,vs.toArray,_,hk,rfl,rfl,rfl,by rw [Ak,lenV];exact hl,by simpa using rv⟩) (λb u z=>by have z':(none:Option HO)=some u:=z;cases z') (λb z=>absurd rfl z) λz=>absurd rfl z
 |none=>
  refine core (λb=>if b=a then some (.frz { cls:=.type "list",data:=.seq vs.toArray } (.lst (ns.map V.int))) else none) (λb=>?_) (.inl (.inr ⟨{ cls:=.type "list",data:=.seq vs.toArray },if_pos rfl⟩)) (λb u z=>?_) (λb z=>?_) λ_=>hk
  ·by_cases hb:b=a
   ·exact .inr ⟨_,_,if_pos hb⟩
   ·exact .inl (if_neg hb)
  ·by_cases hb:b=a
   ·have z':=(if_pos hb).symm.trans z
    cases z';subst hb;exact ⟨ha,by rw [Af];exact hl,vs,_,rv,ha⟩
   ·have z':=(if_neg hb).symm.trans z
    cases z'
  ·by_cases hb:b=a
   ·exact hb
   ·exact absurd (if_neg hb) z
abbrev KOf {K:Ab}{h:Heap}(_:K.In h):Ab:=K
def walk_of {l:PySem.W.OpenLaw}{n k:Nat}{q:Av}{loose:List Str}{XP:(Str->Option Value)->Heap->Prop}{YP:World->Heap->Prop}{d:DefRec}{K:Params->Ab}{CX:World->CXT}{sp:World->Sp}{x:Str}
  (hn:l.most=some n) (hn2:n<=Au) (hdf:d.params.defaults=[]) (hr:Room k callerA)
  (hY:∀ (w:World) (h:Heap),YP w h->(K w.params).In h)
  (F:∀ (w:World) (mg:Str->Option Value) (fa:Addr) (h:Heap),(K w.params).In h->h.Ns AD mg->mg d.name=some (.ref fa) ->
   ∃ fd:Az,(∀ (s:Shared) (u:Value),BindsTo s fd ⟨[u],[]⟩ [(x,u)]) /\
    ∀ base:Heap,(K w.params).In base->base.Ns AD mg->FnOk l.prog w (K w.params) mg base (CX w) k fa fd [x] (sp w))
  (hsp:∀ (w:World) (H:Hp) (a:Addr) (ns:List Int),ns.length<=n->Only H->SqL (K w.params) H a (ns.map V.int)->sp w [.ref a] H (λv _=>v=.bl true) λ_ _ _=>False)
  (hCX:∀ (w:World) (H:Hp) (s:Shared) (e:Value) (s':Shared),CX w [] H s (λ_ _ _=>False) e s'->False) :
  PySem.W.WalkO q loose XP YP l.row.toRowW d [] (λf vs=>PySem.call f vs):=by
 refine Att.attach_call hn hdf λw s₀ s₁ mg mb fa o pm cd doc a vs ns G Y ho hd hcd hmg hobj hints hlen hg=>?_;have KX:=hY w _ Y;obtain ⟨fd,hb,hF⟩:=F w mg fa _ KX G.T.g hmg;exact aBp KX G.T.g G.T.b G.T.builtins G.T.nolimit hg hobj hints (AU hlen hn2) hr hF hb (λH hO hS=>hsp w H a ns hlen hO hS) λH e s'=>hCX w H s₁ e s'
def walk_ofK {l:PySem.W.OpenLaw}{n k:Nat}{q:Av}{loose:List Str}{XP:(Str->Option Value)->Heap->Prop}{YP:World->Heap->Prop}{d:DefRec}{K:Params->Ab}{CX:CXT}{sp:Ab->Sp}{x:Str}
  (hn:l.most=some n) (hn2:n<=Au) (hdf:d.params.defaults=[]) (hr:Room k callerA)
  (hY:∀ (w:World) (h:Heap),YP w h->(K w.params).In h)
  (F:∀ (w:World) (mg:Str->Option Value) (fa:Addr) (h:Heap),(K w.params).In h->h.Ns AD mg->mg d.name=some (.ref fa) ->
   ∃ fd:Az,(∀ (s:Shared) (u:Value),BindsTo s fd ⟨[u],[]⟩ [(x,u)]) /\
    ∀ base:Heap,(K w.params).In base->base.Ns AD mg->FnOk l.prog w (K w.params) mg base CX k fa fd [x] (sp (K w.params)))
  (hsp:∀ (K:Ab) (H:Hp) (a:Addr) (ns:List Int),ns.length<=n->Only H->SqL K H a (ns.map V.int)->sp K [.ref a] H (λv _=>v=.bl true) λ_ _ _=>False)
  (hCX:∀ (H:Hp) (s:Shared) (e:Value) (s':Shared),CX [] H s (λ_ _ _=>False) e s'->False) :
  PySem.W.WalkO q loose XP YP l.row.toRowW d [] (λf vs=>PySem.call f vs):=
 walk_of (K:=K) (CX:=λ_=>CX) (sp:=λw=>sp (K w.params)) hn hn2 hdf hr hY F (λw H a ns h1 h2 h3=>hsp (K w.params) H a ns h1 h2 h3) λ_ H s e s'=>hCX H s e s'
def inClass (s:Stmt)(j:Nat):Stmt:=match s with
 |.ClassDef _ _ _ body _ _ _ _ _ _ _=>body.getD j (.Pass ⟨0,0,0,0⟩)
 |_=>.Pass ⟨0,0,0,0⟩
def fD (s:Stmt):Arguments:=match s with
 |.FunctionDef _ a _ _ _ _ _ _ _ _=>a
 |_=>{ posonlyargs:=[],args:=[],vararg:=none,kwonlyargs:=[],kw_defaults:=[],kwarg:=none,defaults:=[] }
def eL (s:Stmt):List Stmt:=match s with
 |.FunctionDef _ _ b _ _ _ _ _ _ _=>b
 |_=>[]
def aG (s:Stmt):Scope:=match s with
 |.FunctionDef _ _ _ _ _ _ sc _ _ _=>sc
 |_=>{ kind:=.function,names:=[],isGenerator:=false,isCoroutine:=false }
abbrev CX0:CXT:=λ_ _ _ _ _ _=>False
abbrev E0:XK:=λ_ _ _=>False
def aR :gU CX0 X E0:=λ_ _ _ _ _ _ _ h=>h.elim
structure Fun (K:Ab)(x qual:Str)(st:Stmt)(f:Addr)(fd:Az):Prop where
 ex:∃ (oc:Value) (od:Option Addr) (kV doc pm:Value) (an:Option Addr) (cdv ct:Value) (osl:Array (Option Value)),
  fd=Da x qual (fD st) (eL st) (aG st) .none kV doc pm an cdv ct/\K.lookup f=some ⟨oc,od,.func fd,osl⟩/\EA K cdv qual=true
 kp:CN K (.ref f)=true
section
variable {P:Av}{w:World}{K:Ab}{mg:Str->Option Value}{base:Heap}
def Fun.ok {x qual:Str}{st:Stmt}{f:Addr}{fd:Az}{N ps:List Str}{k:Nat}{sp:Sp}(F:Fun K x qual st f fd)(S:FnScope N ps (aG st))(len:∀ vs H Q E,sp vs H Q E->vs.length=ps.length)
  (hbody:∀ (cdv:Value) (A:Around) (outer:List Env) (s:Shared) (H:Hp) (vs:List V) (Q:VK) (E:XK),Room k (A.deeper (envOfC qual (aG st) s.heap.objs.size f cdv))->sp vs H Q E ->
   ∃ t,PSs (cxOf CX0 P w K mg base N qual (aG st) f cdv A outer s H E).nox (eL st) t/\t { nx:=λ_ H'=>Q .non H',rt:=Q } (start N vs) H):FnOk P w K mg base CX0 (k+1) f fd ps sp:=by
 obtain ⟨oc,od,kV,doc,pm,an,cdv,ct,osl,rfl,lk,hcd⟩:=F.ex;refine aH0 lk hcd S len λA outer s H vs Q E hr hsp=>?_;obtain ⟨t,h,q⟩:=hbody cdv A outer s H vs Q E hr hsp;exact ⟨t,h.nox,q⟩
def aHy {x qual:Str}{st:Stmt}{f:Addr}{oc:Value}{od an:Option Addr}{osl:Array (Option Value)}{kV doc pm cdv ct:Value}(l:K.lookup f=some ⟨oc,od,.func (Da x qual (fD st) (eL st) (aG st) .none kV doc pm an cdv ct),osl⟩)
  (c:EA K cdv qual=true) (k:CN K (.ref f)=true):Fun K x qual st f (Da x qual (fD st) (eL st) (aG st) .none kV doc pm an cdv ct):=⟨⟨oc,od,kV,doc,pm,an,cdv,ct,osl,rfl,l,c⟩,k⟩
end
def kC {k:Nat}(hr:Room k A):A.units+1<cLine:=Dl (Nat.add_le_add_left (by decide:1<=64) _) hr.units
def bU {n:Nat}(h:n<=1000):n<Au:=Dl h (by decide)
section
variable {X:Cx}
def pv (i:Nat)(hN:X.N[i]?=some x:=by rfl)(hv:Vis X.env.scope x:=by first|exact Or.inl rfl|exact Or.inr (Or.inl rfl)|exact Or.inr (Or.inr rfl))(hd:(x==("__debug__":Str))=false:=by decide)(hcd:(x==("__classdict__":Str))=false:=by decide):PE X (.Name x pos) (tVar i):=aCt hN hv hd hcd
end
def iteF {A B:Prop}(h:B):if false=true then A else B:=by
 rw [if_neg AB];exact h
def iteT {A B:Prop}(h:A):if true=true then A else B:=by
 rw [if_pos rfl];exact h
def ite2 {c A B:Prop}[Decidable c](h1:c->A)(h2:¬ c->B):if c then A else B:=by
 by_cases h:c
 ·rw [if_pos h]
  exact h1 h
 ·rw [if_neg h]
  exact h2 h
def Same (H H':Hp):Prop:=∀ b o,H b=some o->H' b=some o
def Same.refl (H:Hp):Same H H:=λ_ _ h=>h
theorem Same.trans (a:Same H H1)(b:Same H1 H2):Same H H2:=λc o h=>b c o (a c o h)
def Same.seq {K:Ab}{H H':Hp}{a:Addr}{xs:List V}(e:Same H H')(h:SqL K H a xs):SqL K H' a xs:=by
 rcases h with (h|⟨o,h⟩)|h
 ·exact .inl (.inl (e _ _ h))
 ·exact .inl (.inr ⟨o,e _ _ h⟩)
 ·exact .inr h
end L2
namespace GM
def G (a b:Int):Int:=(Int.gcd a b:Int)
theorem aDe {a:Int}(h:0<=a):G a 0=a:=by
 unfold G;rw [Int.gcd_zero_right];omega
theorem aIc (a b:Int):G b (a%b)=G a b:=by
 unfold G
 congr 1
 have e:a%b=a-b*(a/b):=by
  have:=Int.emod_add_mul_ediv a b;omega
 rw [e,Int.gcd_sub_mul_left_right,Int.gcd_comm]
def qK {a b:Int}(h:0<b):0<G a b:=by
 unfold G;have:0<Int.gcd a b:=Int.gcd_pos_of_ne_zero_right a (by omega);omega
def aAa (a b:Int):G a b∣a:=Int.gcd_dvd_left a b
def qL (a b:Int):G a b∣b:=Int.gcd_dvd_right a b
def zZ {a b:Int}(h:0<b):G a b<=b:=Int.le_of_dvd h (qL a b)
structure Amt (t b:Int):Prop where
 t0:0<=t
 b1:1<=b
 g:G t b=1
def jO {t b:Int}(h0:0<=t)(h1:1<=b):Amt (t/G t b) (b/G t b):=by
 have gp:=qK (a:=t) (b:=b) (by omega);refine ⟨Int.ediv_nonneg h0 (by omega),Int.ediv_pos_of_pos_of_dvd (by omega) (by omega) (qL t b),?_⟩;unfold G at *
 have:=Int.gcd_ediv_gcd_ediv_gcd (i:=t) (j:=b) (by omega);omega
def aHq (t b:Int):t/G t b*G t b=t:=Int.ediv_mul_cancel (aAa t b)
def aHp (t b:Int):b/G t b*G t b=b:=Int.ediv_mul_cancel (qL t b)
def yX {t b x:Int}(h:Amt t b)(d:b∣t*x):b∣x:=by
 have g1:Int.gcd b t=1:=by have:=h.g;unfold G at this;rw [Int.gcd_comm];omega
 have:=Int.dvd_gcd_mul_iff_dvd_mul.mpr d;rw [g1] at this
 simpa using this
def uO {t b t' b':Int}(h:Amt t b)(h':Amt t' b')(e:t*b'=t'*b):t=t'/\b=b':=by
 have d1:b∣b':=yX h ⟨t',by rw [e,BJ]⟩;have d2:b'∣b:=yX h' ⟨t,by rw [<- e,BJ]⟩;have p:=h.b1;have p':=h'.b1;have eb:b=b':=Int.dvd_antisymm (by omega) (by omega) d1 d2;subst eb;exact ⟨Bm (by omega) e,rfl⟩
def gO (t b:Int):t/G t b*b=t*(b/G t b):=by
 have e1:=aHq t b;have e2:=aHp t b
 calc t/G t b*b=t/G t b*(b/G t b*G t b):=by rw [e2]
  _=t/G t b*G t b*(b/G t b):=by rw [BJ (b/G t b),BM]
  _=t*(b/G t b):=by rw [e1]
def aFq {t:Int}(h:0<=t):Amt t 1:=by
 refine ⟨h,by omega,?_⟩;unfold G;rw [Int.gcd_one_right];rfl
def kP {t b x y:Int}(h0:0<=t)(h1:1<=b)(h:Amt x y)(e:x*b=t*y):t/G t b=x/\b/G t b=y:=by
 have a:=jO h0 h1;refine uO a h ?_;have c:=gO t b;have gp:=qK (a:=t) (b:=b) (by omega);have e1:=aHq t b;have e2:=aHp t b;refine Bm (a:=G t b) (by omega) ?_
 calc t/G t b*y*G t b=t/G t b*G t b*y:=by rw [BM,BJ y,<- BM]
  _=x*b:=by rw [e1,e]
  _=x*(b/G t b)*G t b:=by rw [BM,e2]
end GM
namespace L2
open PySem PySem.Spec PyProof.Rows
inductive Isi (K:Ab)(H:Hp):V->String->Bool->Prop where
 |int_int {n}:Isi K H (.int n) "int" true
 |int_bool {n}:Isi K H (.int n) "bool" false
 |int_tuple {n}:Isi K H (.int n) "tuple" false
 |int_str {n}:Isi K H (.int n) "str" false
 |int_list {n}:Isi K H (.int n) "list" false
 |bl_int {b}:Isi K H (.bl b) "int" true
 |bl_bool {b}:Isi K H (.bl b) "bool" true
 |bl_tuple {b}:Isi K H (.bl b) "tuple" false
 |bl_str {b}:Isi K H (.bl b) "str" false
 |str_int {x}:Isi K H (.str x) "int" false
 |str_bool {x}:Isi K H (.str x) "bool" false
 |str_tuple {x}:Isi K H (.str x) "tuple" false
 |str_str {x}:Isi K H (.str x) "str" true
 |non_int:Isi K H .non "int" false
 |non_str:Isi K H .non "str" false
 |non_tuple:Isi K H .non "tuple" false
 |tup_tuple {a xs}:SqT K H a xs->Isi K H (.ref a) "tuple" true
 |tup_int {a xs}:SqT K H a xs->Isi K H (.ref a) "int" false
 |tup_str {a xs}:SqT K H a xs->Isi K H (.ref a) "str" false
 |tup_list {a xs}:SqT K H a xs->Isi K H (.ref a) "list" false
 |lst_tuple {a xs}:SqL K H a xs->Isi K H (.ref a) "tuple" false
 |lst_int {a xs}:SqL K H a xs->Isi K H (.ref a) "int" false
 |lst_str {a xs}:SqL K H a xs->Isi K H (.ref a) "str" false
 |lst_list {a xs}:SqL K H a xs->Isi K H (.ref a) "list" true
section
variable {X:Cx}
inductive rIsi (K:Ab)(xs:List V)(H:Hp)(Q:VK):Prop
 |mk (x:V) (T:String) (b:Bool) (e:xs=[x,.ty T]) (q:Isi K H x T b) (h:Q (.bl b) H)
def dX:fG X (.builtin "isinstance") (rIsi X.K):=by
 intro pins s σ H xs us Q I r h;obtain ⟨x,T,b,rfl,hi,q⟩:=h;obtain ⟨u,w',rfl,rx,ry⟩:=vals2 r;cases ry;have f1:EP X pins σ Q (.bool b) s:=⟨.bl b,H,I,rfl,q⟩;have f2:EP X pins σ Q (.bool b) { s with toks:=s.toks+1 }:=⟨.bl b,H,I.tok _,rfl,q⟩;cases hi with
 |int_int=>obtain ⟨t,rfl⟩:=rx;exact IsiPair.int_int f1
 |int_bool=>obtain ⟨t,rfl⟩:=rx;exact IsiPair.int_bool f2
 |int_tuple=>obtain ⟨t,rfl⟩:=rx;exact IsiPair.int_tuple f2
 |int_str=>obtain ⟨t,rfl⟩:=rx;exact IsiPair.int_str f2
 |int_list=>obtain ⟨t,rfl⟩:=rx;exact IsiPair.int_list f2
 |bl_int=>cases rx;exact IsiPair.bool_int f1
 |bl_bool=>cases rx;exact IsiPair.bool_bool f1
 |bl_tuple=>cases rx;exact IsiPair.bool_tuple f2
 |bl_str=>cases rx;exact IsiPair.bool_str f2
 |str_int=>obtain ⟨t,rfl⟩:=rx;exact IsiPair.str_int f2
 |str_bool=>obtain ⟨t,rfl⟩:=rx;exact IsiPair.str_bool f2
 |str_tuple=>obtain ⟨t,rfl⟩:=rx;exact IsiPair.str_tuple f2
 |str_str=>obtain ⟨t,rfl⟩:=rx;exact IsiPair.str_str f1
 |non_int=>cases rx;exact IsiPair.NoneType_int f2
 |non_str=>cases rx;exact IsiPair.NoneType_str f2
 |non_tuple=>cases rx;exact IsiPair.NoneType_tuple f2
 |tup_tuple hq=>cases rx;obtain ⟨its,_,⟨o,e,c,_⟩,_⟩:=I.tuple hq;exact IsiPair.tuple_tuple e c f1
 |tup_int hq=>cases rx;obtain ⟨its,_,⟨o,e,c,_⟩,_⟩:=I.tuple hq;exact IsiPair.tuple_int e c f2
 |tup_str hq=>cases rx;obtain ⟨its,_,⟨o,e,c,_⟩,_⟩:=I.tuple hq;exact IsiPair.tuple_str e c f2
 |tup_list hq=>cases rx;obtain ⟨its,_,⟨o,e,c,_⟩,_⟩:=I.tuple hq;exact IsiPair.tuple_list e c f2
 |lst_tuple hq=>cases rx;obtain ⟨its,_,⟨o,n,e,c,_⟩,_⟩:=I.list hq;exact IsiPair.list_tuple e c f2
 |lst_int hq=>cases rx;obtain ⟨its,_,⟨o,n,e,c,_⟩,_⟩:=I.list hq;exact IsiPair.list_int e c f2
 |lst_str hq=>cases rx;obtain ⟨its,_,⟨o,n,e,c,_⟩,_⟩:=I.list hq;exact IsiPair.list_str e c f2
 |lst_list hq=>cases rx;obtain ⟨its,_,⟨o,n,e,c,_⟩,_⟩:=I.list hq;exact IsiPair.list_list e c f1
inductive DEq (K:Ab)(H:Hp):Nat->V->V->Bool->Prop where
 |flat {n x y}:eW x=true->eW y=true->DEq K H n x y (eqV x y)
 |same {n a}:DEq K H n (.ref a) (.ref a) true
 |tup {n a b xs ys} {e:Nat->Bool}:a≠b->SqT K H a xs->SqT K H b ys->(∀ (j:Nat) x y,xs[j]?=some x->ys[j]?=some y->DEq K H n x y (e j)) ->
   DEq K H (n+1) (.ref a) (.ref b) ((AF (min xs.length ys.length)).all e&&xs.length==ys.length)
 |lst {n a b xs ys} {e:Nat->Bool}:a≠b->SqL K H a xs->SqL K H b ys->(∀ (j:Nat) x y,xs[j]?=some x->ys[j]?=some y->DEq K H n x y (e j)) ->
   DEq K H (n+1) (.ref a) (.ref b) ((AF (min xs.length ys.length)).all e&&xs.length==ys.length)
def uW {σ:St}(I:Inv X pins σ H s)(hx:SqT X.K H a xs)(hy:SqT X.K H b ys)(hu:A.units<cLine)(hd:∀ (j:Nat) x y u v,xs[j]?=some x->ys[j]?=some y->RelV x u->RelV y v->Bj A.in1 s u v (e j)) :
  SeqAt.RcAt A s (.ref a) (.ref b) ((AF (min xs.length ys.length)).all e&&xs.length==ys.length):=by
 obtain ⟨its,r,tx,_⟩:=I.tuple hx;obtain ⟨its',r',ty,_⟩:=I.tuple hy;have l1:=r.length;have l2:=r'.length;have q:=SeqAt.RcAt.tuples (A:=A) (e:=e) tx ty hu (λj h1 h2=>?_)
 ·rw [Ak,Ak,<- l1,<- l2] at q
  exact q
 ·rw [Ak] at h1 h2
  obtain ⟨x,hxj⟩:∃ x,xs[j]?=some x:=⟨_,Ac (by omega)⟩;obtain ⟨y,hyj⟩:∃ y,ys[j]?=some y:=⟨_,Ac (by omega)⟩;obtain ⟨u1,hu1,ru1⟩:=r.get hxj;obtain ⟨u2,hu2,ru2⟩:=r'.get hyj;have e1:its.toArray[j]=u1:=by
   have:=(Ae.mp hu1).2
   simpa using this
  have e2:its'.toArray[j]=u2:=by
   have:=(Ae.mp hu2).2
   simpa using this
  rw [e1,e2];exact hd j x y u1 u2 hxj hyj ru1 ru2
def bY (p:PlainL h a its):h.IsList a its:=by
 obtain ⟨o,n,e,c,_,d⟩:=p;exact ⟨o,e,c,n,d⟩
def aFd {σ:St}(I:Inv X pins σ H s)(hx:SqL X.K H a xs)(hy:SqL X.K H b ys)(hu:A.units<cLine)(hd:∀ (j:Nat) x y u v,xs[j]?=some x->ys[j]?=some y->RelV x u->RelV y v->Bj A.in1 s u v (e j)) :
  SeqAt.RcAt A s (.ref a) (.ref b) ((AF (min xs.length ys.length)).all e&&xs.length==ys.length):=by
 obtain ⟨its,r,tx,_⟩:=I.list hx;obtain ⟨its',r',ty,_⟩:=I.list hy;have l1:=r.length;have l2:=r'.length
 by_cases hl:xs.length=ys.length
 ·have q:=SeqAt.RcAt.lists (A:=A) (e:=e) (bY tx) (bY ty) (by rw [Ak,Ak];omega) hu (λj h1 h2=>?_)
  ·rw [Ak,<- l1] at q
   have e1:((AF (min xs.length ys.length)).all e&&xs.length==ys.length)=(AF xs.length).all e:=by
    rw [<- hl,Nat.min_self,beq_self_eq_true,Bool.and_true]
   rw [e1];exact q
  ·rw [Ak] at h1 h2
   obtain ⟨x,hxj⟩:∃ x,xs[j]?=some x:=⟨_,Ac (by omega)⟩;obtain ⟨y,hyj⟩:∃ y,ys[j]?=some y:=⟨_,Ac (by omega)⟩;obtain ⟨u1,hu1,ru1⟩:=r.get hxj;obtain ⟨u2,hu2,ru2⟩:=r'.get hyj;have e1:its.toArray[j]=u1:=by
    have:=(Ae.mp hu1).2
    simpa using this
   have e2:its'.toArray[j]=u2:=by
    have:=(Ae.mp hu2).2
    simpa using this
   rw [e1,e2];exact hd j x y u1 u2 hxj hyj ru1 ru2
 ·have q:=SeqAt.RcAt.lists_lengths (A:=A) (bY tx) (bY ty) (by rw [Ak,Ak,<- l1,<- l2,bne_iff_ne];exact hl) hu
  have e1:((AF (min xs.length ys.length)).all e&&xs.length==ys.length)=false:=by
   rw [beq_eq_false_iff_ne.mpr hl,Bool.and_false]
  rw [e1];exact q
theorem DEq.at {σ:St}(I:Inv X pins σ H s){n:Nat}{k:Bool}(d:DEq X.K H n x y k):∀ {A:Around} {u v:Value},A.units+n<cLine->RelV x u->RelV y v->Bj A s u v k:=by
 induction d with
 |flat fx fy=>intro A u v _ rx ry;exact aC3 rx ry fx fy
 |same=>intro A u v _ rx ry;cases rx;cases ry;exact Bj.same _
 |@tup n a b xs ys e hne hx hy hd ih=>
  intro A u v hu rx ry;cases rx;cases ry;exact Bj.of_refs hne (uW I hx hy (by omega) λj x y u v h1 h2 r1 r2=>ih j x y h1 h2 (by show A.units+1+n<cLine;omega) r1 r2)
 |@lst n a b xs ys e hne hx hy hd ih=>
  intro A u v hu rx ry;cases rx;cases ry;exact Bj.of_refs hne (aFd I hx hy (by omega) λj x y u v h1 h2 r1 r2=>ih j x y h1 h2 (by show A.units+1+n<cLine;omega) r1 r2)
def rEqT (K:Ab):R2:=λx y H Q=>∃ a b xs ys,∃ e:Nat->Bool,x=.ref a/\y=.ref b/\SqT K H a xs/\SqT K H b ys/\(∀ (j:Nat) x y,xs[j]?=some x->ys[j]?=some y->DEq K H 40 x y (e j)) /\
 Q (.bl ((AF (min xs.length ys.length)).all e&&xs.length==ys.length)) H
def rNeT (K:Ab):R2:=λx y H Q=>∃ a b xs ys,∃ e:Nat->Bool,x=.ref a/\y=.ref b/\SqT K H a xs/\SqT K H b ys/\(∀ (j:Nat) x y,xs[j]?=some x->ys[j]?=some y->DEq K H 40 x y (e j)) /\
 Q (.bl (!((AF (min xs.length ys.length)).all e&&xs.length==ys.length))) H
def wZ (hu:X.A.units+64<cLine):OpR X (Bl .Eq) (rEqT X.K):=by
 intro pins s σ H x y v u Q I rx ry h;obtain ⟨a,b,xs,ys,e,rfl,rfl,hx,hy,hd,q⟩:=h;cases rx;cases ry;exact uW I hx hy (by omega) (λj x y u v h1 h2 r1 r2=>(hd j x y h1 h2).at I (by show X.A.units+1+40<cLine;omega) r1 r2) X.prog X.w X.xe _ ⟨.bl _,H,I,rfl,q⟩
end
def iD {w:World}(I:Nat->Shared->Prop)(turn:∀ n s,I n s->wpAny (model prog w) A (pyNext it) (λr s₁=>match r with
   |none=>R (.ok .next) s₁
   |some v=>wpAny (model prog w) A (Fs target it v) (λ_ s₁'=>wpAny (model prog w) A (assign target env v) (λ_ s₂=>
     wpAny (model prog w) A (forIn ifs true λc r=>if r=true then do let ok <- isTrue c env (eval c env);pure (Dm ok) else pure (Dm r)) (λok s₃=>
      if ok=true then wpAny (model prog w) A (eval elt env) (λx s₄=>
       wpAny (model prog w) A (call (.builtin "list.append") [acc,x]) (λ_ s₅=>∃ m,m<n/\I m s₅) (λ_ _=>False) s₄) (λ_ _=>False) s₃
      else ∃ m,m<n/\I m s₃) (λ_ _=>False) s₂) (λ_ _=>False) s₁') (λ_ _=>False) s₁) (λ_ _=>False) s)(n:Nat)(h:I n s):Ew (model prog w) A (.compLoop (.ListComp elt [⟨target,iter,ifs,0⟩] scope pos) 0 it acc env) R s:=by
 refine codeAny_loop rfl I (λn s hI=>?_) n h;show wpAny _ A ((compTurn (.ListComp elt [⟨target,iter,ifs,0⟩] scope pos) 0 it acc env).onRaise (λx=>do noteFrame x env;theTreesLotGoes x)) _ _ s;refine wpAny_noted ?_;rw [compTurn_list];refine Aa (Fj (Aa (BX (turn n s hI) (λr s₁ h₁=>?_) λ_ _ z=>z.elim)));cases r with
 |none=>exact Ag h₁
 |some v=>
  refine Aa (BX h₁ (λ_ s₁' h₁'=>?_) λ_ _ z=>z.elim);refine Aa (BX h₁' (λ_ s₂ h₂=>Aa (BX h₂ (λok s₃ h₃=>?_) λ_ _ z=>z.elim)) λ_ _ z=>z.elim);cases ok with
  |false=>exact Ag ⟨rfl,h₃⟩
  |true=>
   exact Aa (Aa (BX h₃ (λx s₄ h₄=>Aa (BX h₄ (λ_ s₅ h₅=>Ag (Ag ⟨rfl,h₅⟩)) λ_ _ z=>z.elim)) λ_ _ z=>z.elim))
def blk (X:Cx)(N':List Str)(scope:Scope)(cl:List (Str×Addr))(C:Addr)(s₀:Shared)(H₀:Hp)(ex:List Addr)(pn:List (Addr×Obj)):Cx where
 prog:=X.prog
 w:=X.w
 K:=X.K
 mg:=X.mg
 base:=X.base
 A:=X.A
 N:=N'
 s₀:=s₀
 H₀:=H₀
 env:=compEnvC scope cl C X.env
 outer:=X.stack
 stack:=X.stack
 ex:=ex
 fn:=λ_=>false
 calm:=X.calm
 pn:=pn
 xe:=λ_ _=>False
structure ClOk (X:Cx)(scope:Scope)(cl:List (Str×Addr)):Prop where
 run:closureFor scope X.env=pure cl
 sub:∀ x c,cl.lookup x=some c->X.env.cells.lookup x=some c
 has:∀ x,((relabel scope X.env).names.lookup x=some .cell\/(relabel scope X.env).names.lookup x=some .free)->∃ c,cl.lookup x=some c
structure BlkN (X:Cx)(N':List Str)(scope:Scope)(cl:List (Str×Addr))(σ σ':St):Prop where
 len:σ'.length=N'.length
 from':∀ (i:Nat) (x:Str) (v:V),N'[i]?=some x->σ'[i]?=some (some v)->∃ j:Nat,X.N[j]?=some x/\σ[j]?=some (some v)/\Vis X.env.scope x/\X.env.kindOf x≠some .local /\
  ((relabel scope X.env).names.lookup x=some .cell\/(relabel scope X.env).names.lookup x=some .free)
section
variable {X:Cx}{pins:List (Addr×Obj)}{σ σ':St}{H:Hp}{s:Shared}
def oA {t':Nat}(I:Inv X pins σ H s)(hkind:scope.kind=.function)(hcl:ClOk X scope cl)(hN:BlkN X N' scope cl σ σ')(hf:∀ b∈fp,FpOk X pins H b)(hfo:∀ b∈fp,b<s.heap.objs.size)(hns:h₁.Ns s.heap.objs.size (λ_=>none))(hk:∀ b o,s.heap.get? b=some o->h₁.get? b=some o) :
  Inv (blk X N' scope cl s.heap.objs.size s H fp (X.pn++pins)) [] σ' H { s with heap:=h₁,toks:=t' }:=by
 have hfs:∀ b,b∉(X.env.locals::X.fs)->b∉frs X.stack:=λb hb z=>hb (I.stkSub b z);refine ⟨⟨I.ok.mod,hkind,I.ok.glob,I.ok.blt,Aj _,?_,hcl.has,λ_ _ h=>absurd h (by intro z;cases z),I.ok.hd,I.ok.frames,.inl rfl,?_,I.bs,AU I.ok.bsz I.sz,?_,?_,I.stack,I.stkFree⟩,
  rfl,I.bare,Un.kept hk,⟨_,hns,?_⟩,?_,I.hok.fresh (Aj _),λx c e=>I.freeC x c (hcl.sub x c e),?_,I.hok.kept hk,hN.len⟩
 ·intro x y c h1 h2
  exact I.ok.inj x y c (hcl.sub x c h1) (hcl.sub y c h2)
 ·intro b hb
  exact ⟨As (hfo b hb),λx c e=>(hf b hb).2.2.2.2.1 x c (hcl.sub x c e)⟩
 ·intro b o e hb
  rcases (hf b hb).2.2.2.1 with q|q
  ·exact I.ok.noex b o e q
  ·exact absurd (AV (Aq e) (AU I.ok.bsz q)) (CA _)
 ·intro b hb
  refine hfs b λz=>?_
  rcases AA.mp z with z|z
  ·exact (hf b hb).2.1 z
  ·exact (hf b hb).2.2.1 z
 ·intro i x v h1 h2 _
  obtain ⟨j,hj,hσ,hv,hnl,hk'⟩:=hN.from' i x v h1 h2;obtain ⟨m,hn,hl⟩:=I.loc;obtain ⟨u,r,l⟩:=hl j x v hj hσ hv;refine ⟨u,r,.inr ⟨hk',?_⟩⟩;obtain ⟨c,hc⟩:=hcl.has x hk'
  rcases l with ⟨hloc,_⟩|⟨_,c',hc',hcell⟩
  ·exact absurd hloc hnl
  ·have e:=hcl.sub x c hc
   rw [hc'] at e;cases e;obtain ⟨o,ho,hd⟩:=hcell;exact ⟨_,hc,o,hk _ _ ho,hd⟩
 ·intro x c e
  obtain ⟨v,o,ho,hd⟩:=I.cell x c (hcl.sub x c e);exact ⟨v,o,hk _ _ ho,hd⟩
 ·intro p hp
  rw [show (blk X N' scope cl s.heap.objs.size s H fp (X.pn++pins)).pn=X.pn++pins from rfl,Cc] at hp;obtain ⟨a1,a2,a3,a4,a5⟩:=I.pin p hp;refine ⟨hk _ _ a1,a2,As (Aq a1),hfs _ λz=>?_,a5⟩
  rcases AA.mp z with z|z
  ·exact a3 z
  ·exact a4 z
def zV (I:Inv X pins σ H s)(hf:∀ b∈fp,FpOk X pins H b)(J:Inv (blk X N' scope cl s.heap.objs.size s H fp (X.pn++pins)) pl σ' H' s')(hs:Cj s.heap.objs.size s'.heap h''):Inv X pins σ H' { s' with heap:=h'' }:=by
 have hne:∀ b o,s.heap.get? b=some o->b≠s.heap.objs.size:=λb o e=>As (Aq e);have hC:H' s.heap.objs.size=none:=J.free;have ub:Un (frs X.stack) fp H H' s.heap s'.heap:=J.base;have u:Un (frs X.stack) fp H H' s.heap h'':={
  keep:=λb o e n hb hx=>hs.extBut b o (hne b o e) (ub.keep b o e n hb hx)
  slot:=λb o e n hb hx=>by
   obtain ⟨sl,q⟩:=ub.slot b o e n hb hx;exact ⟨sl,hs.extBut b _ (hne b o e) q⟩
  free:=ub.free
  there:=λb o e hx=>by
   obtain ⟨o',q⟩:=ub.there b o e hx;exact ⟨o',hs.extBut b _ (hne b o e) q⟩
  tups:=ub.tups
  frzs:=ub.frzs
  tbls:=ub.tbls }
 have hok:HOk X.prog X.w H' h'':=λa o e=>(J.hok a o e).stay (λb ob hb q=>hs.extBut b ob (λz=>by
  rw [z] at hb
  rcases hb with hb|hb
  ·rw [<- hb,hC] at e;cases e
  ·rw [hC] at hb;cases hb) q) (λ_ h=>h) (λ_ _ h=>h)
 exact I.call' (s':={ s' with heap:=h'' }) J.os u hok J.bare λb hb=>by
  obtain ⟨f0,f1,f2,f3,f4,f5⟩:=hf b hb;exact ⟨f3,f1,f4,f5⟩
end
def PIfs (X:Cx)(ifs:List Expr)(t:TT):Prop:=
 ∀ (pins:List (Addr×Obj)) (s:Shared) (σ:St) (H:Hp) (Q:Bool->Hp->Prop),Inv X pins σ H s->t σ H Q ->
  wpAny (model X.prog X.w) X.A (forIn ifs true λc r=>if r=true then do let ok <- isTrue c X.env (eval c X.env);pure (Dm ok) else pure (Dm r)) (TP X pins σ Q) X.xe s
def aAi:TT:=λ_ H Q=>Q true H
def dM :PIfs X [] aAi:=λ_ _ _ H _ I h=>wpAny_tests_nil ⟨H,I,h⟩
def lO (h:PT X c t):PIfs X [c] t:=λpins s σ H Q I hw=>wpAny_tests_one (h pins s σ H Q I hw)
structure Keep (σa σb:St):Prop where
 len:σb.length=σa.length
 at':∀ (i:Nat) (v:V),σa[i]?=some (some v)->σb[i]?=some (some v)
def Keep.refl (σ:St):Keep σ σ:=⟨rfl,λ_ _ h=>h⟩
theorem Keep.set {σa σb:St}{i:Nat}(k:Keep σa σb)(h:σa[i]?=some none):Keep σa (σb.set i (some v)):=by
 refine ⟨by rw [CB];exact k.len,λj u e=>?_⟩;have hj:i≠j:=by
  rintro rfl
  rw [h] at e;cases e
 rw [Cq hj];exact k.at' j u e
def aAk (σf:St->St)(wi:TI)(g:TG)(tt:TT)(te:TE):TE:=λσ H Q=>wi σ H λJ H1=>∀ D,H1 D=none->∃ W:Nat->Nat->List V->Hp->Prop,(∃ m,W 0 m [] (upd H1 D (.lst []))) /\
 ∀ i m ys H,W i m ys H->H D=some (.lst ys)/\ys.length<Au /\
  ((J.stop i H/\Q (.ref D) H)\/(J.go i H/\∀ x H',J.yld i H x H'->g x (σf σ) H' λσ2 H2=>Keep (σf σ) σ2/\tt σ2 H2 λb H3=>
   if b=true then te σ2 H3 λy H4=>H4 D=some (.lst ys)/\∃ m',m'<m/\W (i+1) m' (ys++[y]) (upd H4 D (.lst (ys++[y]))) else ∃ m',m'<m/\W (i+1) m' ys H3))
def pO (σf:St->St)(hc:X.calm=true)(hkind:scope.kind=.function)(hcell:∀ y∈scope.names,y.2≠.cell)(hnames:∀ y∈scope.names,y.2=.local->scope.names.lookup y.1=some .local)(hcl:ClOk X scope cl)(hN:∀ σ:St,σ.length=X.N.length->BlkN X N' scope cl σ (σf σ))(hi:PI X tg iter wi)(hg:∀ C s₀ H₀ ex pn,PG (blk X N' scope cl C s₀ H₀ ex pn) tg g)(ht:∀ C s₀ H₀ ex pn,PIfs (blk X N' scope cl C s₀ H₀ ex pn) ifs tt)(he:∀ C s₀ H₀ ex pn,PE (blk X N' scope cl C s₀ H₀ ex pn) elt te)(hs:∀ x,EV iter X.env x=pure x:=by intro _;rfl):PE X (.ListComp elt [⟨tg,iter,ifs,0⟩] scope pos) (aAk σf wi g tt te):=by
 intro pins s σ H Q I h;rw [eval_ListComp];refine wpAny_comprehension_free (use:=none) rfl hs hcl.run hkind hnames (thn (hi pins s σ H _ I h) λv s1 h1=>thn h1 λitv s2 h2=>?_);obtain ⟨it,fp,tn,J,H2,rfl,I2,T,st2,f2,q⟩:=h2;refine Ba (wpAny_newFunctionEnv hcell (by intro y hy;simp at hy) (λh₁ hns₁ hsb₁=>?_) hkind);dsimp only at hns₁ hsb₁ ⊢;have hfo:∀ b∈fp,b<s2.heap.objs.size:=λb hb=>by
  obtain ⟨o,e,_⟩:=T.obj _ _ st2 b hb;exact Aq e
 have hDf:H2 s2.heap.objs.size=none:=I2.hok.fresh (Aj _);obtain ⟨W,⟨m0,w0⟩,turn⟩:=q s2.heap.objs.size hDf;have I3:Inv X pins σ (upd H2 s2.heap.objs.size (.lst [])) { s2 with heap:=s2.heap.push { cls:=.type "list",data:=.seq ([]:List Value).toArray } }:=I2.lnew (its:=[]) (t':=s2.toks) .nil (Bi _);have f3:∀ b∈fp,FpOk X pins (upd H2 s2.heap.objs.size (.lst [])) b:=λb hb=>⟨by rw [aI (As (hfo b hb))];exact (f2 b hb).1,(f2 b hb).2⟩;generalize hD:s2.heap.objs.size=D at *
 generalize hs3:({ s2 with heap:=s2.heap.push { cls:=.type "list",data:=.seq ([]:List Value).toArray } }:Shared)=s3 at *
 have hh3:s3.heap=s2.heap.push { cls:=.type "list",data:=.seq ([]:List Value).toArray }:=by rw [<- hs3]
 have hsz3:s2.heap.objs.size<s3.heap.objs.size:=by rw [hh3,BL];exact Cg _
 have e3:∀ h t,({ s2 with heap:=h,toks:=t }:Shared)={ s3 with heap:=h,toks:=t }:=λh t=>by rw [<- hs3]
 rw [<- hh3] at hns₁ hsb₁ ⊢;have hk3:∀ b o,s3.heap.get? b=some o->h₁.get? b=some o:=λb o e=>hsb₁.extBut b o (As (Aq e)) (Ad _ e);have I4:=oA (t':=s3.toks) I3 hkind hcl (hN σ I.len) f3 (λb hb=>Ej (hfo b hb) (hD▸hsz3)) (hns:=by simpa using hns₁) hk3;generalize hB:blk X N' scope cl s3.heap.objs.size s3 (upd H2 D (.lst [])) fp (X.pn++pins)=B at *
 have hBp:B.prog=X.prog:=by rw [<- hB];rfl
 have hBw:B.w=X.w:=by rw [<- hB];rfl
 have hBK:B.K=X.K:=by rw [<- hB];rfl
 have hBA:B.A=X.A:=by rw [<- hB];rfl
 have hBc:B.calm=true:=by rw [<- hB];exact hc
 have hBe:B.env=compEnvC scope cl s3.heap.objs.size X.env:=by rw [<- hB];rfl
 have hBx:B.xe=λ_ _=>False:=by rw [<- hB];rfl
 have hGB:PG B tg g:=hB▸hg _ _ _ _ _;have hTB:PIfs B ifs tt:=hB▸ht _ _ _ _ _;have hEB:PE B elt te:=hB▸he _ _ _ _ _;have stat:∀ {H':Hp},(∀ b∈fp,H' b=none)->∀ b∈fp,FpOk B [] H' b:=λ{H'} hn b hb=>by
  obtain ⟨f0,f1,f2',f3',f4,f5⟩:=f3 b hb;rw [<- hB];refine ⟨hn b hb,As (Ej (hfo b hb) (hD▸hsz3)),λz=>?_,.inl hb,λx c e=>f4 x c (hcl.sub x c e),λp hp=>?_⟩
  ·rcases AA.mp (I.stkSub b z) with z|z
   ·exact f1 z
   ·exact f2' z
  ·rw [show (blk X N' scope cl s3.heap.objs.size s3 (upd H2 D (.lst [])) fp (X.pn++pins)).pn=X.pn++pins from rfl,Cc] at hp
   exact f5 p hp
 have loop:∀ s4:Shared,Inv B [] (σf σ) (upd H2 D (.lst [])) s4->tn 0 s4.heap ->
   Ew (model X.prog X.w) X.A (.compLoop (.ListComp elt [⟨tg,iter,ifs,0⟩] scope pos) 0 (.ref it) (.ref D) (compEnvC scope cl s3.heap.objs.size X.env)) (compPost (model X.prog X.w) X.A X.xe none (EP X pins σ Q) (.ref D) s3.heap.objs.size) s4:=by
  intro s4 I4 st4;refine iD (I:=λn s'=>∃ i ys H',Inv B [] (σf σ) H' s'/\tn i s'.heap/\(∀ b∈fp,H' b=none)/\W i n ys H') ?_ m0 ⟨0,[],_,I4,st4,λb hb=>(f3 b hb).1,w0⟩
  rintro n s5 ⟨i,ys,H5,I5,st5,fr5,w5⟩
  obtain ⟨hD5,hlen5,alt⟩:=turn i n ys H5 w5
  rcases alt with ⟨stop,qn⟩|⟨go,step⟩
  ·have z:=T.done B hBp hBw hBK hBc i [] s5 (σf σ) H5 (λ_ _=>False) I5 (stat fr5) st5 stop
   rw [hBA] at z;refine thn z λr s6 ⟨hr,I6⟩=>?_;subst hr;obtain ⟨m6,hn6,_⟩:=I6.loc;rw [hBe] at hn6;refine ⟨m6,hn6,λh' hs'=>?_⟩;subst hB;exact ⟨.ref D,H5,zV I3 f3 I6 hs',rfl,qn⟩
  ·have z:=T.item B hBp hBw hBK hBc i [] s5 (σf σ) H5 (λ_ _=>False) I5 (stat fr5) st5 go
   rw [hBA] at z;refine thn z λr s6 ⟨u,hr,h6⟩=>?_;subst hr;refine thn h6 λ_ s7 ⟨x,H7,I7,r7,y7,st7,fr7⟩=>?_;have I7':=I7.pinned (stat fr7) (T.obj _ _ st7);have z8:=hGB _ s7 (σf σ) H7 x u _ I7' r7 (step x H7 y7);rw [hBp,hBw,hBA,hBe,hBx] at z8;refine thn z8 λ_ s8 ⟨σ8,H8,I8,k8,q8⟩=>?_;have z9:=hTB _ s8 σ8 H8 _ I8 q8;rw [hBp,hBw,hBA,hBe,hBx] at z9;refine thn z9 λok s9 ⟨H9,I9,q9⟩=>?_;have again:∀ {ys':List V} {H':Hp} {s':Shared},Inv B ([]++kK fp s7.heap) σ8 H' s'->(∃ m',m'<n/\W (i+1) m' ys' H')->∃ m,m<n/\∃ i ys H',Inv B [] (σf σ) H' s'/\tn i s'.heap/\(∀ b∈fp,H' b=none)/\W i m ys H':=λ{ys' H' s'} J ⟨m',hm,w'⟩=>by
    refine ⟨m',hm,i+1,ys',H',J.unpinned.weak k8.len.symm k8.at',T.keep _ _ _ st7 λb hb o e=>(J.pin (b,o) (AN _ (AN _ (dQ hb e)))).1,λb hb=>?_,w'⟩;obtain ⟨o,e,d⟩:=T.obj _ _ st7 b hb;exact (J.pin (b,o) (AN _ (AN _ (dQ hb e)))).2.1
   cases ok with
   |false=>exact again I9 q9
   |true=>
    have z10:=hEB _ s9 σ8 H9 _ I9 q9;rw [hBp,hBw,hBA,hBe,hBx] at z10;refine thn z10 λy10 s10 ⟨y,H10,I10,r10,hD10,q10⟩=>?_;have z11:=cQ (X:=B) _ s10 σ8 H10 (.ref D) [y] (.ref D) [y10] (λ_ H'=>∃ m',m'<n/\W (i+1) m' (ys++[y]) H') I10 rfl (.cons r10 .nil) ⟨D,ys,y,rfl,rfl,hD10,hlen5,q10⟩;rw [hBp,hBw,hBA,hBx] at z11;refine thn z11 λ_ s11 ⟨_,H11,I11,_,q11⟩=>again I11 q11
 have st4:tn 0 ({ s3 with heap:=h₁,toks:=s3.toks }:Shared).heap:=T.keep _ _ _ st2 λb hb o e=>hk3 b o (by rw [hh3];exact Ad _ e);have L4:=loop _ I4 st4;subst hs3;exact codeAny_compStart_list L4 (T.self _ 0 _ _ _ st4 L4)
def Bt (n:Nat)(x:Int):Prop:=x.natAbs<2^n
def Bt.bits {n:Nat}{x:Int}(h:Bt n x):AI.Int.intBits x<=n:=intBits_le_iff.mpr h
def Bt.of_bits {n:Nat}{x:Int}(h:AI.Int.intBits x<=n):Bt n x:=intBits_le_iff.mp h
def Bt.mono {m n:Nat}{x:Int}(h:Bt m x)(hn:m<=n):Bt n x:=AV h (Nat.pow_le_pow_right (by decide) hn)
def Bt.mul {m n:Nat}{x y:Int}(h:Bt m x)(h':Bt n y):Bt (m+n) (x*y):=.of_bits (intBits_mul_le h.bits h'.bits)
def Bt.add {m:Nat}{x y:Int}(h:Bt m x)(h':Bt m y):Bt (m+1) (x+y):=.of_bits (by have:=intBits_add_le h.bits h'.bits;rwa [Nat.max_self] at this)
def Bt.le {m:Nat}{x y:Int}(h:Bt m y)(h0:0<=x)(hy:x<=y):Bt m x:=by
 unfold Bt at *
 omega
def aHr {n:Nat}{x:Int}(h:Bt n x)(hp:0<x)(hn:n<=9000):x.natAbs.log2<9000:=by
 have:x.natAbs.log2<n:=(Nat.log2_lt (by omega)).mpr h;omega
def aJs (i j:Int):Prop:=Bt 1000000 i/\Bt 1000000 j
def aJt (_i j:Int):Prop:=0<j/\Bt 9000 j
def aJr (i j:Int):Prop:=0<=j/\j<=1000/\Bt 1000 i
section
variable {X:Cx}
def bO:OpR X (Em .Mult) (rI aJs λi j=>.int (i*j)):=opI λ_ _ _ _ _ _ _ hc q=>mul_int q (.of_bits (AU hc.1.bits (by decide)) (AU hc.2.bits (by decide)))
def bK:OpR X (Em .FloorDiv) (rI aJt λi j=>.int (i/j)):=opI λi j _ _ _ _ _ hc q=>by
 have h1:(0:Int)<j:=hc.1;rw [<- Int.fdiv_eq_ediv_of_nonneg i (Int.le_of_lt h1)] at q;exact floordiv_int (by omega) q (.inl (PyProof.noPylong_of_log2 (aHr hc.2 h1 (Aj _))))
def wN:OpR X (Em .Pow) (rI aJr λi j=>.int (i^j.toNat)):=opI λi j _ _ _ _ _ hc q=>by
 obtain ⟨h0,h1,h2⟩:=hc;refine PyProof.Rows.pow_int h0 ?_ q;have b:=h2.bits;have e:(2:Int)^27=134217728:=by decide
 have:=Int.mul_le_mul (show (AI.Int.intBits i:Int)<=1000 by omega) h1 h0 (by decide);omega
def sQ {K:Ab}{H:Hp}{n:Nat}(ns ms:List Int):∀ (j:Nat) x y,(ns.map V.int)[j]?=some x->(ms.map V.int)[j]?=some y->DEq K H n x y (ns[j]?==ms[j]?):=by
 intro j x y h1 h2;rw [Ao] at h1 h2;cases e1:ns[j]? with
 |none=>rw [e1] at h1;cases h1
 |some a=>
  cases e2:ms[j]? with
  |none=>rw [e2] at h2;cases h2
  |some b=>
   rw [e1] at h1;rw [e2] at h2;cases h1;cases h2;have:(some a==some b)=eqV (V.int a) (V.int b):=by
    show (a==b)=(a==b);rfl
   rw [this];exact DEq.flat rfl rfl
theorem all_ints:∀ (ns ms:List Int),((AF (min ns.length ms.length)).all (λj=>ns[j]?==ms[j]?)&&ns.length==ms.length)=decide (ns=ms):=by
 intro ns ms;rw [CC];simp only [BU,Cf,Cp,beq_iff_eq,decide_eq_true_eq];constructor
 ·rintro ⟨h,hl⟩
  refine Ci λi=>?_
  by_cases hi:i<ns.length
  ·exact h i (by omega)
  ·rw [Ax (by omega),Ax (by omega)]
 ·rintro rfl
  exact ⟨λ_ _=>rfl,rfl⟩
def rEqI (K:Ab):R2:=λx y H Q=>∃ a b,∃ ns ms:List Int,x=.ref a/\y=.ref b/\SqT K H a (ns.map V.int)/\SqT K H b (ms.map V.int)/\Q (.bl (decide (ns=ms))) H
def rNeI (K:Ab):R2:=λx y H Q=>∃ a b,∃ ns ms:List Int,x=.ref a/\y=.ref b/\SqT K H a (ns.map V.int)/\SqT K H b (ms.map V.int)/\Q (.bl (!decide (ns=ms))) H
def aG8 (hu:X.A.units+64<cLine):OpR X (Bl .Eq) (rEqI X.K):=by
 intro pins s σ H x y v u Q I rx ry h;obtain ⟨a,b,ns,ms,rfl,rfl,hx,hy,q⟩:=h;refine wZ hu pins s σ H _ _ v u Q I rx ry ⟨a,b,_,_,λj=>ns[j]?==ms[j]?,rfl,rfl,hx,hy,sQ ns ms,?_⟩;rw [Af,Af,all_ints];exact q
def aHl {σ:St}(I:Inv X pins σ H s)(hx:SqT X.K H a xs)(hy:SqT X.K H b ys)(hu:A.units<cLine)(hd:∀ (j:Nat) x y u v,xs[j]?=some x->ys[j]?=some y->RelV x u->RelV y v->Bj A.in1 s u v (e j)) :
  SeqAt.RcNeAt A s (.ref a) (.ref b) (!((AF (min xs.length ys.length)).all e&&xs.length==ys.length)):=by
 obtain ⟨its,r,tx,_⟩:=I.tuple hx;obtain ⟨its',r',ty,_⟩:=I.tuple hy;have l1:=r.length;have l2:=r'.length;have q:=SeqAt.RcNeAt.tuples (A:=A) (e:=e) tx ty hu (λj h1 h2=>?_)
 ·rw [Ak,Ak,<- l1,<- l2] at q
  exact q
 ·rw [Ak] at h1 h2
  obtain ⟨x,hxj⟩:∃ x,xs[j]?=some x:=⟨_,Ac (by omega)⟩;obtain ⟨y,hyj⟩:∃ y,ys[j]?=some y:=⟨_,Ac (by omega)⟩;obtain ⟨u1,hu1,ru1⟩:=r.get hxj;obtain ⟨u2,hu2,ru2⟩:=r'.get hyj;have e1:its.toArray[j]=u1:=by
   have:=(Ae.mp hu1).2
   simpa using this
  have e2:its'.toArray[j]=u2:=by
   have:=(Ae.mp hu2).2
   simpa using this
  rw [e1,e2];exact hd j x y u1 u2 hxj hyj ru1 ru2
def wU (hu:X.A.units+64<cLine):OpR X (Bl .NotEq) (rNeT X.K):=by
 intro pins s σ H x y v u Q I rx ry h;obtain ⟨a,b,xs,ys,e,rfl,rfl,hx,hy,hd,q⟩:=h;cases rx;cases ry;exact aHl I hx hy (by omega) (λj x y u v h1 h2 r1 r2=>(hd j x y h1 h2).at I (by show X.A.units+1+40<cLine;omega) r1 r2) X.prog X.w X.xe _ ⟨.bl _,H,I,rfl,q⟩
def nG (hu:X.A.units+64<cLine):OpR X (Bl .NotEq) (rNeI X.K):=by
 intro pins s σ H x y v u Q I rx ry h;obtain ⟨a,b,ns,ms,rfl,rfl,hx,hy,q⟩:=h;refine wU hu pins s σ H _ _ v u Q I rx ry ⟨a,b,_,_,λj=>ns[j]?==ms[j]?,rfl,rfl,hx,hy,sQ ns ms,?_⟩;rw [Af,Af,all_ints];exact q
end
section
variable {X:Cx}
inductive tIt (K:Ab)(i k:Nat)(σ:L2.St)(H:Hp)(Q:VK):Prop
 |mk (p:Addr) (xs:List V) (v:V) (e:σ[i]?=some (some (.ref p))) (q:SqT K H p xs) (a:xs[k]?=some v) (h:Q v H)
def pit (i k:Nat){p q:Pos}{j:Nat}(hN:X.N[i]?=some x:=by rfl)(hv:Vis X.env.scope x:=by first|exact Or.inl rfl|exact Or.inr (Or.inl rfl)|exact Or.inr (Or.inr rfl))(hd:(x==("__debug__":Str))=false:=by decide)(hcd:(x==("__classdict__":Str))=false:=by decide):PE X (.Subscript (.Name x p) (.Constant (.int (k:Int)) j q) pos) (tIt X.K i k):=by
 intro pins s σ H Q I h;obtain ⟨a,xs,v,e,hs,hk,q⟩:=h;exact bC cV (aCt hN hv hd hcd) aH (λ_ _=>rfl) pins s σ H Q I ⟨_,e,a,xs,(k:Int),v,rfl,rfl,hs,bA hk,q⟩
structure Cal (P:Av)(w:World)(K:Ab)(mg:Str->Option Value)(base:Heap)(CX:CXT)(k:Nat)(x:Str)(ps:List Str)(sp:Sp):Prop where
 ex:∃ (f:Addr) (fd:Az),mg x=some (.ref f)/\CN K (.ref f)=true/\Binds K fd ps []/\FnOk P w K mg base CX k f fd ps sp
def aJ {k:Nat}{p pos:Pos}(C:Cal X.prog X.w X.K X.mg X.base CX k x ps sp)(hr:Room k X.A)(hg:Gl X x)(hx:gU CX X E)(ha:PA X (e::es) t)(hdb:(x==("__debug__":Str))=false:=by decide)(he:AQ (e::es) X.env=(false,eval e X.env)::AQ es X.env:=by rfl)(hpl:(backTo pos (AQ es X.env)).any (·.1)=false:=by rfl) :
  PE X (.Call (.Name x p) (e::es) [] pos) (aDm sp [] E t):=by
 obtain ⟨f,fd,hm,hk,hb,F⟩:=C.ex;exact aEo F hr hg hm hk hb .nil hx ha hdb he hpl
def Cal.mono {P:Av}{w:World}{K:Ab}{mg:Str->Option Value}{base:Heap}{CX:CXT}{j k:Nat}{x:Str}{ps:List Str}{sp:Sp}(C:Cal P w K mg base CX j x ps sp)(h:j<=k):Cal P w K mg base CX k x ps sp:=by
 obtain ⟨f,fd,hm,hk,hb,F⟩:=C.ex;exact ⟨f,fd,hm,hk,hb,F.mono h⟩
end
def Same.tup {K:Ab}{H H':Hp}{a:Addr}{xs:List V}(e:Same H H')(h:SqT K H a xs):SqT K H' a xs:=by
 rcases h with (h|⟨o,h⟩)|h
 ·exact .inl (.inl (e _ _ h))
 ·exact .inl (.inr ⟨o,e _ _ h⟩)
 ·exact .inr h
theorem Same.upd (h:H a=none):Same H (upd H a o):=λb u e=>by
 rw [aI (aZ e h)];exact e
def RetT (H:Hp)(Q:VK)(ns:List Int):Prop:=∀ p H',Same H H'->H' p=some (.tup (ns.map V.int))->Q (.ref p) H'
def rEqL (K:Ab):R2:=λx y H Q=>∃ a b xs ys,∃ e:Nat->Bool,x=.ref a/\y=.ref b/\SqL K H a xs/\SqL K H b ys/\(∀ (j:Nat) x y,xs[j]?=some x->ys[j]?=some y->DEq K H 40 x y (e j)) /\
 Q (.bl ((AF (min xs.length ys.length)).all e&&xs.length==ys.length)) H
def rNeL (K:Ab):R2:=λx y H Q=>∃ a b xs ys,∃ e:Nat->Bool,x=.ref a/\y=.ref b/\SqL K H a xs/\SqL K H b ys/\(∀ (j:Nat) x y,xs[j]?=some x->ys[j]?=some y->DEq K H 40 x y (e j)) /\
 Q (.bl (!((AF (min xs.length ys.length)).all e&&xs.length==ys.length))) H
section
variable {X:Cx}
def aE9 {σ:St}(I:Inv X pins σ H s)(hx:SqL X.K H a xs)(hy:SqL X.K H b ys)(hu:A.units<cLine)(hd:∀ (j:Nat) x y u v,xs[j]?=some x->ys[j]?=some y->RelV x u->RelV y v->Bj A.in1 s u v (e j)) :
  SeqAt.RcNeAt A s (.ref a) (.ref b) (!((AF (min xs.length ys.length)).all e&&xs.length==ys.length)):=by
 obtain ⟨its,r,tx,_⟩:=I.list hx;obtain ⟨its',r',ty,_⟩:=I.list hy;have l1:=r.length;have l2:=r'.length
 by_cases hl:xs.length=ys.length
 ·have q:=SeqAt.RcNeAt.lists (A:=A) (e:=e) (bY tx) (bY ty) (by rw [Ak,Ak];omega) hu (λj h1 h2=>?_)
  ·rw [Ak,<- l1] at q
   have e1:((AF (min xs.length ys.length)).all e&&xs.length==ys.length)=(AF xs.length).all e:=by
    rw [<- hl,Nat.min_self,beq_self_eq_true,Bool.and_true]
   rw [e1];exact q
  ·rw [Ak] at h1 h2
   obtain ⟨x,hxj⟩:∃ x,xs[j]?=some x:=⟨_,Ac (by omega)⟩;obtain ⟨y,hyj⟩:∃ y,ys[j]?=some y:=⟨_,Ac (by omega)⟩;obtain ⟨u1,hu1,ru1⟩:=r.get hxj;obtain ⟨u2,hu2,ru2⟩:=r'.get hyj;have e1:its.toArray[j]=u1:=by
    have:=(Ae.mp hu1).2
    simpa using this
   have e2:its'.toArray[j]=u2:=by
    have:=(Ae.mp hu2).2
    simpa using this
   rw [e1,e2];exact hd j x y u1 u2 hxj hyj ru1 ru2
 ·have q:=SeqAt.RcNeAt.lists_lengths (A:=A) (bY tx) (bY ty) (by rw [Ak,Ak,<- l1,<- l2,bne_iff_ne];exact hl) hu
  have e1:((AF (min xs.length ys.length)).all e&&xs.length==ys.length)=false:=by
   rw [beq_eq_false_iff_ne.mpr hl,Bool.and_false]
  rw [e1];exact q
def aCu (hu:X.A.units+64<cLine):OpR X (Bl .NotEq) (rNeL X.K):=by
 intro pins s σ H x y v u Q I rx ry h;obtain ⟨a,b,xs,ys,e,rfl,rfl,hx,hy,hd,q⟩:=h;cases rx;cases ry;exact aE9 I hx hy (by omega) (λj x y u v h1 h2 r1 r2=>(hd j x y h1 h2).at I (by show X.A.units+1+40<cLine;omega) r1 r2) X.prog X.w X.xe _ ⟨.bl _,H,I,rfl,q⟩
end
def Sf (v:V):Prop:=eW v=true\/∃ a,v=.ref a
theorem aBz (h:eW v=true):eqV v v=true:=by
 cases v<;>simp_all [eW,eqV]
def DEq.self {K:Ab}{H:Hp}{n:Nat}{v:V}(h:Sf v):DEq K H n v v true:=by
 rcases h with h|⟨a,rfl⟩
 ·have:=DEq.flat (K:=K) (H:=H) (n:=n) h h
  rwa [aBz h] at this
 ·exact .same
theorem all_true (n:Nat)(m:Nat)(h:n=m):((AF (min n m)).all (λ_=>true)&&n==m)=true:=by
 subst h;rw [beq_self_eq_true,Bool.and_true,Cf];exact λ_ _=>rfl
def aIz (K:Ab):R2:=λx y H Q=>∃ a b xs,x=.ref a/\y=.ref b/\SqL K H a xs/\SqL K H b xs/\(∀ v∈xs,Sf v)/\Q (.bl false) H
def aEr (hu:X.A.units+64<cLine):OpR X (Bl .NotEq) (aIz X.K):=by
 intro pins s σ H x y v u Q I rx ry h;obtain ⟨a,b,xs,rfl,rfl,hx,hy,hd,q⟩:=h;refine aCu hu pins s σ H _ _ v u Q I rx ry ⟨a,b,xs,xs,λ_=>true,rfl,rfl,hx,hy,λj x y h1 h2=>?_,?_⟩
 ·rw [h1] at h2
  cases h2;exact DEq.self (hd _ (Al h1))
 ·rw [all_true _ _ rfl]
  exact q
def dS:Ce "list" = some (.type "list"):=by decide +kernel
def Tk (H H':Hp):Prop:=∀ b ys,H b=some (.tup ys)->H' b=some (.tup ys)
def Same.tk (s:Same H H'):Tk H H':=λb ys e=>s b _ e
theorem Tk.lst {l:Addr}(h:H l=some (.lst xs)):Tk H (upd H l o):=λb ys e=>by
 have ne:b≠l:=λz=>by rw [z,h] at e;cases e
 rw [aI ne];exact e
def bV {n:Nat}(h:n<=1000):n<=Au:=AU h (by decide)
def qW:Expr->Bool
 |.Starred ..=>false
 |_=>true
def vC (h:qW e=true):AQ (e::es) env=(false,eval e env)::AQ es env:=by
 cases e<;>first|rfl|cases h
def pa_c (h:PE X e te)(hr:PA X es t)(hf:qW e=true:=by rfl):PA X (e::es) (aAj te t):=aA h hr (vC hf)
inductive Dt where
 |i (n:Int)
 |s (x:Str)
 |b (k:Bool)
 |n
 |t (l:List Dt)
def SqZ (K:Ab)(H:Hp)(a:Addr)(xs:List V):Prop:=H a=some (.tup xs)\/∃ (o:Obj) (its:Array Value) (n:Nat),K.lookup a=some o/\o.cls=.type "tuple" /\ o.data=.seq its n/\its.size<=Au/\Vals xs its.toList
inductive Dv (K:Ab)(H:Hp):Nat->V->Dt->Prop where
 |i {n m}:Dv K H n (.int m) (.i m)
 |s {n x}:Dv K H n (.str x) (.s x)
 |b {n k}:Dv K H n (.bl k) (.b k)
 |n {n}:Dv K H n .non .n
 |t {n a xs ds}:SqZ K H a xs->xs.length=ds.length->(∀ (j:Nat) x d,xs[j]?=some x->ds[j]?=some d->Dv K H n x d)->Dv K H (n+1) (.ref a) (.t ds)
def DL (K:Ab)(H:Hp)(n:Nat)(xs:List V)(ds:List Dt):Prop:=xs.length=ds.length/\∀ (j:Nat) x d,xs[j]?=some x->ds[j]?=some d->Dv K H n x d
def rEqDL (K:Ab):R2:=λx y H Q=>∃ a b xs ys ds,x=.ref a/\y=.ref b/\SqL K H a xs/\SqL K H b ys/\DL K H 40 xs ds/\DL K H 40 ys ds/\Q (.bl true) H
def rNeDL (K:Ab):R2:=λx y H Q=>∃ a b xs ys ds,x=.ref a/\y=.ref b/\SqL K H a xs/\SqL K H b ys/\DL K H 40 xs ds/\DL K H 40 ys ds/\Q (.bl false) H
def rEqDT (K:Ab):R2:=λx y H Q=>∃ a b xs ys ds,x=.ref a/\y=.ref b/\SqT K H a xs/\SqT K H b ys/\DL K H 40 xs ds/\DL K H 40 ys ds/\Q (.bl true) H
def rNeDT (K:Ab):R2:=λx y H Q=>∃ a b xs ys ds,x=.ref a/\y=.ref b/\SqT K H a xs/\SqT K H b ys/\DL K H 40 xs ds/\DL K H 40 ys ds/\Q (.bl false) H
section
variable {X:Cx}
end
theorem iA :∀ (names:List (Str×Bd)) (acc:List (Str×Addr)),(∀ y∈names,y.2=AX->∃ c,env.cells.lookup y.1=some c)->(∀ x c,acc.lookup x=some c->env.cells.lookup x=some c) ->
  ∃ cl,(forIn (m:=Sem) names acc (λx r=>do if (x.2==AX)=true then do let c <- cellOf env x.1;pure (Dm ((x.1,c)::r)) else pure (Dm r)))=pure cl /\
   (∀ x c,cl.lookup x=some c->env.cells.lookup x=some c)/\(∀ y∈names,y.2=AX->∃ c,cl.lookup y.1=some c)/\∀ x,(∃ c,acc.lookup x=some c)->∃ c,cl.lookup x=some c
 |[],acc,_,h2=>⟨acc,rfl,h2,(λy hy=>by simp at hy),λ_ h=>h⟩
 |y::r,acc,h1,h2=>by
  by_cases e:y.2=AX
  ·obtain ⟨c,hc⟩:=h1 y Ar e
   obtain ⟨cl,e1,e2,e3,e4⟩:=iA r ((y.1,c)::acc) (λz hz=>h1 z (Ah _ hz)) (λx d hx=>by
    rw [De] at hx;split at hx
    ·rename_i hb
     have:x=y.1:=Ek hb;rw [this,hc];exact hx
    ·exact h2 x d hx)
   refine ⟨cl,?_,e2,λz hz ez=>?_,λx hx=>e4 x ?_⟩
   ·rw [List.forIn_cons,if_pos (by rw [e];rfl)]
    unfold cellOf;rw [hc];simp only [pure_bind];exact e1
   ·rcases AA.mp hz with rfl|hz
    ·exact e4 z.1 ⟨c,by rw [De,beq_self_eq_true]⟩
    ·exact e3 z hz ez
   ·obtain ⟨d,hd⟩:=hx
    rw [De];split
    ·exact ⟨c,rfl⟩
    ·exact ⟨d,hd⟩
  ·obtain ⟨cl,e1,e2,e3,e4⟩:=iA r acc (λz hz=>h1 z (Ah _ hz)) h2
   refine ⟨cl,?_,e2,λz hz ez=>?_,e4⟩
   ·rw [List.forIn_cons,if_neg (by intro z;exact e (Ek z))]
    simp only [pure_bind];exact e1
   ·rcases AA.mp hz with rfl|hz
    ·exact absurd ez e
    ·exact e3 z hz ez
def uK (h:∀ y∈scope.names,y.2=AX->∃ c,env.cells.lookup y.1=some c) :
  ∃ cl,closureFor scope env=pure cl/\(∀ x c,cl.lookup x=some c->env.cells.lookup x=some c)/\∀ y∈scope.names,y.2=AX->∃ c,cl.lookup y.1=some c:=by
 obtain ⟨cl,e1,e2,e3,_⟩:=iA (env:=env) scope.names [] h (λx c e=>by simp at e);refine ⟨cl,?_,e2,e3⟩;simp only [closureFor];rw [show (forIn (m:=Sem) scope.names [] λx r=>if (x.2==AX)=true then (do let c <- cellOf env x.1;pure (Dm ((x.1,c)::r))) else pure (Dm r))=pure cl from e1];rfl
def mT (hc:∀ y∈scope.names,y.2≠CI)(h:(relabel scope env).names.lookup x=some .cell\/(relabel scope env).names.lookup x=some .free):∃ y∈scope.names,y.1=x/\y.2=AX:=by
 have e':∃ k,(k=CI\/k=AX)/\(relabel scope env).names.lookup x=some k:=by
  rcases h with e|e
  ·exact ⟨_,.inl rfl,e⟩
  ·exact ⟨_,.inr rfl,e⟩
 obtain ⟨k,hk,e⟩:=e';have hm:=CV e;obtain ⟨y,hy,hy2⟩:=AH.mp hm;obtain ⟨n,kk⟩:=y;have hn:=hc _ hy;simp only at hy2 hn;split at hy2
 ·rename_i hf
  injection hy2 with a1 a2;subst a1;simp only [BU] at hf;exact ⟨(n,kk),hy,rfl,Ek hf.1.1⟩
 ·injection hy2 with a1 a2
  subst a1 a2
  rcases hk with rfl|rfl
  ·exact absurd rfl hn
  ·exact ⟨_,hy,rfl,rfl⟩
def zK (ok:X.Ok)(hc:∀ y∈scope.names,y.2≠CI)(h:∀ y∈scope.names,y.2=AX->X.env.kindOf y.1=some .cell\/X.env.kindOf y.1=some .free):∃ cl,ClOk X scope cl:=by
 obtain ⟨cl,e1,e2,e3⟩:=uK (scope:=scope) (env:=X.env) λy hy ey=>ok.has y.1 (h y hy ey);refine ⟨cl,e1,e2,λx hx=>?_⟩;obtain ⟨y,hy,rfl,ey⟩:=mT hc hx;exact e3 y hy ey
def eC (σf:St->St)(hc:X.calm=true)(hkind:scope.kind=.function)(hcell:∀ y∈scope.names,y.2≠.cell)(hnames:∀ y∈scope.names,y.2=.local->scope.names.lookup y.1=some .local)(hk:∀ y∈scope.names,y.2=AX->X.env.kindOf y.1=some .cell\/X.env.kindOf y.1=some .free)(hN:∀ cl (σ:St),σ.length=X.N.length->BlkN X N' scope cl σ (σf σ))(hi:PI X tg iter wi)(hg:∀ cl C s₀ H₀ ex pn,PG (blk X N' scope cl C s₀ H₀ ex pn) tg g)(ht:∀ cl C s₀ H₀ ex pn,PIfs (blk X N' scope cl C s₀ H₀ ex pn) ifs tt)(he:∀ cl C s₀ H₀ ex pn,PE (blk X N' scope cl C s₀ H₀ ex pn) elt te)(hs:∀ x,EV iter X.env x=pure x:=by intro _;rfl):PE X (.ListComp elt [⟨tg,iter,ifs,0⟩] scope pos) (aAk σf wi g tt te):=by
 intro pins s σ H Q I h;obtain ⟨cl,hcl⟩:=zK I.ok hcell hk;exact pO σf hc hkind hcell hnames hcl (hN cl) hi (hg cl) (ht cl) (he cl) hs pins s σ H Q I h
def iG {X:Cx}{scope sc:Scope}(hs:X.env.scope=sc)(h:(scope.names.all λy=>y.2 != AX||sc.names.lookup y.1==some CI||sc.names.lookup y.1==some AX)=true) :
  ∀ y∈scope.names,y.2=AX->X.env.kindOf y.1=some .cell\/X.env.kindOf y.1=some .free:=λy hy ey=>by
 have q:=Cf.mp h y hy;unfold Env.kindOf;rw [hs];rw [ey] at q;simp only [bne_self_eq_false,Bool.false_or,Bool.or_eq_true] at q
 rcases q with q|q
 ·exact .inl (Ek q)
 ·exact .inr (Ek q)
theorem eG {env:Env}{x:Str}(hk:env.scope.kind=.function)(hx:env.kindOf x=some .cell):∀ {names:List (Str×Bd)},names.lookup x=some .free ->
    (names.map λ(n,k)=>if (k==AX&&env.scope.kind==.function&&env.kindOf n==some .cell) then (n,CI) else (n,k)).lookup x=some .cell
  |[],h=>by simp at h
  |(n,k)::r,h=>by
    rw [An];rw [De] at h
    by_cases e:(x==n)=true
    · rw [e] at h;have e':x=n:=Ek e;subst e';have hf:k=AX:=AG h;subst hf;have c:(AX==AX&&env.scope.kind==.function&&env.kindOf x==some .cell)=true:=by rw [hk,hx];rfl
      rw [show (match ((x,AX):Str×Bd) with|(n,k)=>if (k==AX&&env.scope.kind==.function&&env.kindOf n==some .cell)=true then (n,CI) else (n,k))=(x,CI) from if_pos c];rw [De,beq_self_eq_true]
    · have e0:(x==n)=false:=by simpa using e
      rw [e0] at h;have ih:=eG hk hx h;have en:∀ q:Str×Bd,q.1=n->(q::(r.map λ(n,k)=>if (k==AX&&env.scope.kind==.function&&env.kindOf n==some .cell) then (n,CI) else (n,k))).lookup x=some .cell:=λq hq=>by
        obtain ⟨q1,q2⟩:=q;simp only at hq;subst hq;rw [De,e0];exact ih
      refine en _ ?_;show (if _ then (n,CI) else (n,k)).1=n;split<;>rfl
def eA {X:Cx}{N' N:List Str}{scope sc:Scope}{cl:List (Str×Addr)}{σ:St}(ts:List (Option Nat))(hN:X.N=N)(hsc:X.env.scope=sc)(hl:ts.length=N'.length)(hk:sc.kind=.function)
  (h:((ts.zip N').all λp=>match p.1 with|none=>true|some j=>N[j]?==some p.2&&sc.names.lookup p.2==some CI&&scope.names.lookup p.2==some AX)=true) :
  BlkN X N' scope cl σ (ts.map λt=>t.bind λj=>(σ[j]?).join):=by
 refine ⟨by rw [Af,hl],λi x v h1 h2=>?_⟩;rw [Ao] at h2;cases ht:ts[i]? with
 |none=>rw [ht] at h2;cases h2
 |some t=>
  rw [ht] at h2;have h2':(t.bind λj=>(σ[j]?).join)=some v:=AG h2;cases t with
  |none=>cases h2'
  |some j=>
   have hm:(some j,x)∈ts.zip N':=Al (by rw [Fp];exact ⟨ht,h1⟩:(ts.zip N')[i]?=some (some j,x));have q:=Cf.mp h _ hm;simp only [BU] at q;obtain ⟨⟨q1,q2⟩,q3⟩:=q;have q1':=Ek q1;have q2':=Ek q2;have q3':=Ek q3;have kd:X.env.kindOf x=some .cell:=by
    unfold Env.kindOf;rw [hsc];exact q2'
   refine ⟨j,by rw [hN];exact q1',?_,by rw [hsc];exact .inr (.inl q2'),(by rw [kd];decide),.inl (eG (by rw [hsc];exact hk) kd q3')⟩;have h3:(σ[j]?).join=some v:=h2';cases hj:σ[j]? with
   |none=>rw [hj] at h3;cases h3
   |some o=>rw [hj] at h3;cases o with
    |none=>cases h3
    |some u=>cases h3;rfl
def aEh {iy:Nat}(σf:St->St)(hc:X.calm=true)(hkind:scope.kind=.function)(hcell:∀ y∈scope.names,y.2≠.cell)(hnames:∀ y∈scope.names,y.2=.local->scope.names.lookup y.1=some .local)(hcl:ClOk X scope cl)(hN:∀ σ:St,σ.length=X.N.length->BlkN X N' scope cl σ (σf σ))(hi:PI X tg iter wi)(hg:∀ C s₀ H₀ ex pn,PG (blk X N' scope cl C s₀ H₀ ex pn) tg g)(ht:∀ C s₀ H₀ ex pn,PIfs (blk X N' scope cl C s₀ H₀ ex pn) ifs tt)(he:∀ C s₀ H₀ ex pn,PE (blk X N' scope cl C s₀ H₀ ex pn) elt te)(hnd:X.N.Nodup)(hiy:X.N[iy]?=some y)(hy:Loc X.env.scope y)(hfy:X.fn y=true\/X.env.scope.names.lookup y=some .local)(hsw:swapsWith (.ListComp elt [⟨tg,iter,ifs,0⟩] scope pos) (some (.Name y py)) spos.line X.env=pure true)(hs:∀ x,EV iter X.env x=pure x:=by intro _;rfl):PS X (.Assign [.Name y py] (.ListComp elt [⟨tg,iter,ifs,0⟩] scope pos) spos) (tAsg (aAk σf wi g tt te) (gName iy)):=by
 intro pins s σ H Dn I h;rw [exec_Assign_Name_used _ _ _ _ hsw];refine Aa (Fj (Aa ?_));show wpAny _ X.A (do let _ <- comprehension (.ListComp elt [⟨tg,iter,ifs,0⟩] scope pos) scope X.env _ (newList []) false (eval iter X.env) (some (assign (.Name y py) X.env))) _ _ s;refine Aa (BX (wpAny_comprehension_free (use:=some (assign (.Name y py) X.env)) (Q:=λ_ s'=>SP X pins Dn .next s') rfl hs hcl.run hkind hnames
  (thn (hi pins s σ H _ I h) λv s1 h1=>thn h1 λitv s2 h2=>?_)) (λ_ s' hq=>Ag (Ag hq)) λ_ _ e=>e)
 obtain ⟨it,fp,tn,J,H2,rfl,I2,T,st2,f2,q⟩:=h2;refine Ba (wpAny_newFunctionEnv hcell (by intro y hy;simp at hy) (λh₁ hns₁ hsb₁=>?_) hkind);dsimp only at hns₁ hsb₁ ⊢;have hfo:∀ b∈fp,b<s2.heap.objs.size:=λb hb=>by
  obtain ⟨o,e,_⟩:=T.obj _ _ st2 b hb;exact Aq e
 have hDf:H2 s2.heap.objs.size=none:=I2.hok.fresh (Aj _);obtain ⟨W,⟨m0,w0⟩,turn⟩:=q s2.heap.objs.size hDf;have I3:Inv X pins σ (upd H2 s2.heap.objs.size (.lst [])) { s2 with heap:=s2.heap.push { cls:=.type "list",data:=.seq ([]:List Value).toArray } }:=I2.lnew (its:=[]) (t':=s2.toks) .nil (Bi _);have f3:∀ b∈fp,FpOk X pins (upd H2 s2.heap.objs.size (.lst [])) b:=λb hb=>⟨by rw [aI (As (hfo b hb))];exact (f2 b hb).1,(f2 b hb).2⟩;generalize hD:s2.heap.objs.size=D at *
 generalize hs3:({ s2 with heap:=s2.heap.push { cls:=.type "list",data:=.seq ([]:List Value).toArray } }:Shared)=s3 at *
 have hh3:s3.heap=s2.heap.push { cls:=.type "list",data:=.seq ([]:List Value).toArray }:=by rw [<- hs3]
 have hsz3:s2.heap.objs.size<s3.heap.objs.size:=by rw [hh3,BL];exact Cg _
 have e3:∀ h t,({ s2 with heap:=h,toks:=t }:Shared)={ s3 with heap:=h,toks:=t }:=λh t=>by rw [<- hs3]
 rw [<- hh3] at hns₁ hsb₁ ⊢;have hk3:∀ b o,s3.heap.get? b=some o->h₁.get? b=some o:=λb o e=>hsb₁.extBut b o (As (Aq e)) (Ad _ e);have I4:=oA (t':=s3.toks) I3 hkind hcl (hN σ I.len) f3 (λb hb=>Ej (hfo b hb) (hD▸hsz3)) (hns:=by simpa using hns₁) hk3;generalize hB:blk X N' scope cl s3.heap.objs.size s3 (upd H2 D (.lst [])) fp (X.pn++pins)=B at *
 have hBp:B.prog=X.prog:=by rw [<- hB];rfl
 have hBw:B.w=X.w:=by rw [<- hB];rfl
 have hBK:B.K=X.K:=by rw [<- hB];rfl
 have hBA:B.A=X.A:=by rw [<- hB];rfl
 have hBc:B.calm=true:=by rw [<- hB];exact hc
 have hBe:B.env=compEnvC scope cl s3.heap.objs.size X.env:=by rw [<- hB];rfl
 have hBx:B.xe=λ_ _=>False:=by rw [<- hB];rfl
 have hGB:PG B tg g:=hB▸hg _ _ _ _ _;have hTB:PIfs B ifs tt:=hB▸ht _ _ _ _ _;have hEB:PE B elt te:=hB▸he _ _ _ _ _;have stat:∀ {H':Hp},(∀ b∈fp,H' b=none)->∀ b∈fp,FpOk B [] H' b:=λ{H'} hn b hb=>by
  obtain ⟨f0,f1,f2',f3',f4,f5⟩:=f3 b hb;rw [<- hB];refine ⟨hn b hb,As (Ej (hfo b hb) (hD▸hsz3)),λz=>?_,.inl hb,λx c e=>f4 x c (hcl.sub x c e),λp hp=>?_⟩
  ·rcases AA.mp (I.stkSub b z) with z|z
   ·exact f1 z
   ·exact f2' z
  ·rw [show (blk X N' scope cl s3.heap.objs.size s3 (upd H2 D (.lst [])) fp (X.pn++pins)).pn=X.pn++pins from rfl,Cc] at hp
   exact f5 p hp
 have loop:∀ s4:Shared,Inv B [] (σf σ) (upd H2 D (.lst [])) s4->tn 0 s4.heap ->
   Ew (model X.prog X.w) X.A (.compLoop (.ListComp elt [⟨tg,iter,ifs,0⟩] scope pos) 0 (.ref it) (.ref D) (compEnvC scope cl s3.heap.objs.size X.env)) (compPost (model X.prog X.w) X.A X.xe (some (assign (.Name y py) X.env)) (λ_ s'=>SP X pins Dn .next s') (.ref D) s3.heap.objs.size) s4:=by
  intro s4 I4 st4;refine iD (I:=λn s'=>∃ i ys H',Inv B [] (σf σ) H' s'/\tn i s'.heap/\(∀ b∈fp,H' b=none)/\W i n ys H') ?_ m0 ⟨0,[],_,I4,st4,λb hb=>(f3 b hb).1,w0⟩
  rintro n s5 ⟨i,ys,H5,I5,st5,fr5,w5⟩
  obtain ⟨hD5,hlen5,alt⟩:=turn i n ys H5 w5
  rcases alt with ⟨stop,qn⟩|⟨go,step⟩
  ·have z:=T.done B hBp hBw hBK hBc i [] s5 (σf σ) H5 (λ_ _=>False) I5 (stat fr5) st5 stop
   rw [hBA] at z;refine thn z λr s6 ⟨hr,I6⟩=>?_;subst hr;obtain ⟨m6,hn6,_⟩:=I6.loc;rw [hBe] at hn6;subst hB;have I6x:Inv X pins σ H5 s6:=zV I3 f3 I6 (h'':=s6.heap) ⟨rfl,λ_ _=>rfl⟩;have fC:FpOk X pins H5 s3.heap.objs.size:=I3.fpOk (Aj _) I6.free;obtain ⟨g0,g1,g2,g3,g4,g5⟩:=id fC;obtain ⟨oC,es,ep,hoC,hdC,rest⟩:=hn6;have I6p:=I6x.pinned (fp:=[s3.heap.objs.size]) (λb hb=>by rw [AE.mp hb];exact fC) (λb hb=>⟨oC,by rw [AE.mp hb];exact hoC,λv e=>by rw [hdC] at e;cases e⟩);show wpAny (model X.prog X.w) X.A (assign (.Name y py) X.env (.ref D)) _ X.xe s6;refine thn (aS (i:=iy) (pos:=py) hnd hiy hy hfy _ s6 σ H5 (.ref D) (.ref D) (λσ' H'=>Dn.nx σ' H') I6p rfl qn) λ_ s7 ⟨σ7,H7,I7,q7⟩=>?_;have pc:=I7.pin (s3.heap.objs.size,oC) (AN _ (AN _ (dQ (by simp) hoC)));refine ⟨m6,⟨oC,es,ep,pc.1,hdC,rest⟩,λh' hs'=>⟨σ7,H7,?_,q7⟩⟩;exact I7.unpinned.turned (t':=s7.toks) (λb o hb e=>hs'.extBut b o hb e) pc.2.1 g1 g3 g4 g5
  ·have z:=T.item B hBp hBw hBK hBc i [] s5 (σf σ) H5 (λ_ _=>False) I5 (stat fr5) st5 go
   rw [hBA] at z;refine thn z λr s6 ⟨u,hr,h6⟩=>?_;subst hr;refine thn h6 λ_ s7 ⟨x,H7,I7,r7,y7,st7,fr7⟩=>?_;have I7':=I7.pinned (stat fr7) (T.obj _ _ st7);have z8:=hGB _ s7 (σf σ) H7 x u _ I7' r7 (step x H7 y7);rw [hBp,hBw,hBA,hBe,hBx] at z8;refine thn z8 λ_ s8 ⟨σ8,H8,I8,k8,q8⟩=>?_;have z9:=hTB _ s8 σ8 H8 _ I8 q8;rw [hBp,hBw,hBA,hBe,hBx] at z9;refine thn z9 λok s9 ⟨H9,I9,q9⟩=>?_;have again:∀ {ys':List V} {H':Hp} {s':Shared},Inv B ([]++kK fp s7.heap) σ8 H' s'->(∃ m',m'<n/\W (i+1) m' ys' H')->∃ m,m<n/\∃ i ys H',Inv B [] (σf σ) H' s'/\tn i s'.heap/\(∀ b∈fp,H' b=none)/\W i m ys H':=λ{ys' H' s'} J ⟨m',hm,w'⟩=>by
    refine ⟨m',hm,i+1,ys',H',J.unpinned.weak k8.len.symm k8.at',T.keep _ _ _ st7 λb hb o e=>(J.pin (b,o) (AN _ (AN _ (dQ hb e)))).1,λb hb=>?_,w'⟩;obtain ⟨o,e,d⟩:=T.obj _ _ st7 b hb;exact (J.pin (b,o) (AN _ (AN _ (dQ hb e)))).2.1
   cases ok with
   |false=>exact again I9 q9
   |true=>
    have z10:=hEB _ s9 σ8 H9 _ I9 q9;rw [hBp,hBw,hBA,hBe,hBx] at z10;refine thn z10 λy10 s10 ⟨y,H10,I10,r10,hD10,q10⟩=>?_;have z11:=cQ (X:=B) _ s10 σ8 H10 (.ref D) [y] (.ref D) [y10] (λ_ H'=>∃ m',m'<n/\W (i+1) m' (ys++[y]) H') I10 rfl (.cons r10 .nil) ⟨D,ys,y,rfl,rfl,hD10,hlen5,q10⟩;rw [hBp,hBw,hBA,hBx] at z11;refine thn z11 λ_ s11 ⟨_,H11,I11,_,q11⟩=>again I11 q11
 have st4:tn 0 ({ s3 with heap:=h₁,toks:=s3.toks }:Shared).heap:=T.keep _ _ _ st2 λb hb o e=>hk3 b o (by rw [hh3];exact Ad _ e);have L4:=loop _ I4 st4;subst hs3;exact codeAny_compStart_list L4 (T.self _ 0 _ _ _ st4 L4)
def lN {iy:Nat}(σf:St->St)(hc:X.calm=true)(hkind:scope.kind=.function)(hcell:∀ y∈scope.names,y.2≠.cell)(hnames:∀ y∈scope.names,y.2=.local->scope.names.lookup y.1=some .local)(hk:∀ y∈scope.names,y.2=AX->X.env.kindOf y.1=some .cell\/X.env.kindOf y.1=some .free)(hN:∀ cl (σ:St),σ.length=X.N.length->BlkN X N' scope cl σ (σf σ))(hi:PI X tg iter wi)(hg:∀ cl C s₀ H₀ ex pn,PG (blk X N' scope cl C s₀ H₀ ex pn) tg g)(ht:∀ cl C s₀ H₀ ex pn,PIfs (blk X N' scope cl C s₀ H₀ ex pn) ifs tt)(he:∀ cl C s₀ H₀ ex pn,PE (blk X N' scope cl C s₀ H₀ ex pn) elt te)(hnd:X.N.Nodup)(hiy:X.N[iy]?=some y)(hy:Loc X.env.scope y)(hfy:X.fn y=true\/X.env.scope.names.lookup y=some .local)(hsw:swapsWith (.ListComp elt [⟨tg,iter,ifs,0⟩] scope pos) (some (.Name y py)) spos.line X.env=pure true)(hs:∀ x,EV iter X.env x=pure x:=by intro _;rfl):PS X (.Assign [.Name y py] (.ListComp elt [⟨tg,iter,ifs,0⟩] scope pos) spos) (tAsg (aAk σf wi g tt te) (gName iy)):=by
 intro pins s σ H D I h;obtain ⟨cl,hcl⟩:=zK I.ok hcell hk;exact aEh σf hc hkind hcell hnames hcl (hN cl) hi (hg cl) (ht cl) (he cl) hnd hiy hy hfy hsw hs pins s σ H D I h
structure Ys (J:It)(xs:List V)(H1:Hp):Prop where
 go:∀ i H,Same H1 H->i<xs.length->J.go i H
 yld:∀ i H x H',Same H1 H->i<xs.length->J.yld i H x H'->H'=H/\xs[i]?=some x
 stop:∀ i H,Same H1 H->xs.length<=i->J.stop i H
def Ys.list {K:Ab}{a:Addr}{xs:List V}{H1:Hp}(h:SqL K H1 a xs):Ys (Itl K a) xs H1 where
 go:=λi H s hi=>⟨xs,xs[i],s.seq h,Ac hi⟩
 yld:=λi H x H' s _ y=>⟨y.1,y.2 xs (s.seq h)⟩
 stop:=λi H s hi=>⟨xs,s.seq h,hi⟩
def Ys.tup {K:Ab}{a:Addr}{xs:List V}{H1:Hp}(h:SqT K H1 a xs):Ys (Itt K a) xs H1 where
 go:=λi H s hi=>⟨xs,xs[i],s.tup h,Ac hi⟩
 yld:=λi H x H' s _ y=>⟨y.1,y.2 xs (s.tup h)⟩
 stop:=λi H s hi=>⟨xs,s.tup h,hi⟩
def rngV (lo:Int)(n:Nat):List V:=(AF n).map λ(i:Nat)=>V.int (lo+(i:Int))
theorem dU (lo:Int)(n:Nat):(rngV lo n).length=n:=by unfold rngV;rw [Af,ED]
def lJ {lo:Int}{n i:Nat}(h:(rngV lo n)[i]?=some x):i<n/\x=.int (lo+i):=by
 have hi:i<n:=by rw [<- dU lo n];exact (Ae.mp h).1
 unfold rngV at h;rw [Ao,Ff hi] at h;exact ⟨hi,(AG h).symm⟩
def Ys.rng {lo:Int}{n:Nat}:Ys (Itr lo n) (rngV lo n) H1 where
 go:=λi H _ hi=>by rw [dU] at hi;exact hi
 yld:=λi H x H' _ hi y=>⟨y.1,by
  obtain ⟨_,rfl⟩:=y;rw [dU] at hi;unfold rngV;rw [Ao,Ff hi];rfl⟩
 stop:=λi H _ hi=>by rw [dU] at hi;exact hi
def iI {α:Type}{ys:List α}{y z:α}{j:Nat}(h:(ys++[y])[j]?=some z):(j<ys.length/\ys[j]?=some z)\/(j=ys.length/\z=y):=by
 by_cases hj:j<ys.length
 ·rw [Cb hj] at h
  exact .inl ⟨hj,h⟩
 ·rw [BH (by omega)] at h
  have e0:j-ys.length=0:=by
   cases hz:j-ys.length with
   |zero=>rfl
   |succ n=>rw [hz] at h;simp at h
  rw [e0] at h;exact .inr ⟨by omega,by simpa using h.symm⟩
def eD {J:It}{xs:List V}{D:Addr}{g:TG}{te:TE}{σ0:St}{QD:Hp->Prop}{H1:Hp}(Y:Ys J xs H1)(Pr:Nat->V->V->Hp->Prop)(hP:∀ i x y H H',Pr i x y H->Tk H H'->Pr i x y H')(hD:H1 D=none)(hl:xs.length<=1000)
  (hs:∀ i x H' (R:VK),xs[i]?=some x->Same H1 H'->(∀ y H4,Same H' H4->Pr i x y H4->R y H4)->g x σ0 H' λσ2 H2=>Keep σ0 σ2/\te σ2 H2 R)
  (hd:∀ ys H',Same H1 H'->H' D=some (.lst ys)->ys.length=xs.length->(∀ i x y,xs[i]?=some x->ys[i]?=some y->Pr i x y H')->QD H') :
  ∃ W:Nat->Nat->List V->Hp->Prop,(∃ m,W 0 m [] (upd H1 D (.lst [])))/\∀ i m ys H,W i m ys H->H D=some (.lst ys)/\ys.length<Au /\
   ((J.stop i H/\QD H)\/(J.go i H/\∀ x H',J.yld i H x H'->g x σ0 H' λσ2 H2=>Keep σ0 σ2/\aAi σ2 H2 λb H3=>
    if b=true then te σ2 H3 λy H4=>H4 D=some (.lst ys)/\∃ m',m'<m/\W (i+1) m' (ys++[y]) (upd H4 D (.lst (ys++[y]))) else ∃ m',m'<m/\W (i+1) m' ys H3)):=by
 refine ⟨λi m ys H=>m=xs.length-i/\i<=xs.length/\Same H1 H/\H D=some (.lst ys)/\ys.length=i/\∀ j x y,xs[j]?=some x->ys[j]?=some y->Pr j x y H,
  ⟨_,rfl,Bi _,Same.upd hD,aB,rfl,λj x y _ h=>by simp at h⟩,?_⟩
 rintro i m ys H ⟨rfl,hi,sm,hDH,yl,pr⟩
 refine ⟨hDH,bU (by omega),?_⟩
 by_cases hlt:i<xs.length
 ·refine .inr ⟨Y.go i H sm hlt,λx H' y=>?_⟩
  obtain ⟨rfl,hx⟩:=Y.yld i H x H' sm hlt y;refine hs i x H' _ hx sm λy H4 s4 py=>?_;have hD4:=s4 _ _ hDH;have tk:Tk H4 (upd H4 D (.lst (ys++[y]))):=Tk.lst hD4;refine ⟨hD4,xs.length-(i+1),by omega,rfl,hlt,λb o hb=>?_,aB,by rw [Ay,yl];rfl,λj x' y' hx' hy'=>?_⟩
  ·rw [aI (aZ hb hD)]
   exact s4 _ _ (sm _ _ hb)
  ·rcases iI hy' with ⟨_,hy'⟩|⟨e,e'⟩
   ·exact hP _ _ _ _ _ (hP _ _ _ _ _ (pr j x' y' hx' hy') (Same.tk s4)) tk
   ·subst e'
    have:j=i:=by omega
    subst this;rw [hx] at hx';cases hx';exact hP _ _ _ _ _ py tk
 ·have e:i=xs.length:=by omega
  subst e;exact .inl ⟨Y.stop _ H sm (Aj _),hd ys H sm hDH yl pr⟩
def iM {X:Cx}{K:Ab}(h:X.K=K):IxR X (rIxL K):=h▸bB
def yH {X:Cx}{K:Ab}(h:X.K=K):IxR X (rIxT K):=h▸cV
def jV {J:It}{xs:List V}{D:Addr}{g:TG}{tt:TT}{te:TE}{σ0:St}{QD:Hp->Prop}{H1:Hp}(Y:Ys J xs H1)(p:V->Bool)(Pr:V->V->Hp->Prop)(hP:∀ x y H H',Pr x y H->Tk H H'->Pr x y H')(hD:H1 D=none)(hl:xs.length<=1000)
  (hs:∀ (i:Nat) x H' (R1:VK) (R2:Hp->Prop),xs[i]?=some x->Same H1 H'->(p x=true->∀ y H4,Same H' H4->Pr x y H4->R1 y H4)->(p x=false->∀ H4,Same H' H4->R2 H4)->g x σ0 H' λσ2 H2=>Keep σ0 σ2/\tt σ2 H2 λb H3=>if b=true then te σ2 H3 R1 else R2 H3)
  (hd:∀ ys H',Same H1 H'->H' D=some (.lst ys)->ys.length=(xs.filter p).length->(∀ (i:Nat) x y,(xs.filter p)[i]?=some x->ys[i]?=some y->Pr x y H')->QD H') :
  ∃ W:Nat->Nat->List V->Hp->Prop,(∃ m,W 0 m [] (upd H1 D (.lst [])))/\∀ i m ys H,W i m ys H->H D=some (.lst ys)/\ys.length<Au /\
   ((J.stop i H/\QD H)\/(J.go i H/\∀ x H',J.yld i H x H'->g x σ0 H' λσ2 H2=>Keep σ0 σ2/\tt σ2 H2 λb H3=>
    if b=true then te σ2 H3 λy H4=>H4 D=some (.lst ys)/\∃ m',m'<m/\W (i+1) m' (ys++[y]) (upd H4 D (.lst (ys++[y]))) else ∃ m',m'<m/\W (i+1) m' ys H3)):=by
 refine ⟨λi m ys H=>m=xs.length-i/\i<=xs.length/\Same H1 H/\H D=some (.lst ys)/\ys.length=((xs.take i).filter p).length/\∀ (j:Nat) x y,((xs.take i).filter p)[j]?=some x->ys[j]?=some y->Pr x y H,
  ⟨_,rfl,Bi _,Same.upd hD,aB,rfl,λj x y _ h=>by simp at h⟩,?_⟩
 rintro i m ys H ⟨rfl,hi,sm,hDH,yl,pr⟩
 have yl':ys.length<=xs.length:=by
  rw [yl];exact AU (List.length_filter_le _ _) (by rw [DD];omega)
 refine ⟨hDH,bU (by omega),?_⟩
 by_cases hlt:i<xs.length
 ·refine .inr ⟨Y.go i H sm hlt,λx H' y=>?_⟩
  obtain ⟨rfl,hx⟩:=Y.yld i H x H' sm hlt y;have et:xs.take (i+1)=xs.take i++[x]:=by rw [CU,hx];rfl
  refine hs i x H' _ _ hx sm (λpx y H4 s4 py=>?_) (λpx H4 s4=>?_)
  ·have hD4:=s4 _ _ hDH
   have tk:Tk H4 (upd H4 D (.lst (ys++[y]))):=Tk.lst hD4;refine ⟨hD4,xs.length-(i+1),by omega,rfl,hlt,λb o hb=>?_,aB,?_,λj x' y' hx' hy'=>?_⟩
   ·rw [aI (aZ hb hD)]
    exact s4 _ _ (sm _ _ hb)
   ·rw [et,DI,Ay,Ay,yl,Ep px]
    rfl
   ·rw [et,DI,Ep px] at hx'
    rcases iI hx' with ⟨h1,hx'⟩|⟨h1,hx'⟩
    ·rcases iI hy' with ⟨_,hy'⟩|⟨e,_⟩
     ·exact hP _ _ _ _ (hP _ _ _ _ (pr j x' y' hx' hy') (Same.tk s4)) tk
     ·omega
    ·rcases iI hy' with ⟨h2,_⟩|⟨_,hy'⟩
     ·omega
     ·subst hx' hy'
      exact hP _ _ _ _ py tk
  ·refine ⟨xs.length-(i+1),by omega,rfl,hlt,sm.trans s4,s4 _ _ hDH,?_,λj x' y' hx' hy'=>?_⟩
   ·rw [et,DI,Er (by rw [px];exact AB),List.filter_nil,Cc,yl]
   ·rw [et,DI,Er (by rw [px];exact AB),List.filter_nil,Cc] at hx'
    exact hP _ _ _ _ (pr j x' y' hx' hy') (Same.tk s4)
 ·have e:i=xs.length:=by omega
  subst e;rw [BF] at yl pr;exact .inl ⟨Y.stop _ H sm (Aj _),hd ys H sm hDH yl pr⟩
end L2
namespace L2
open PySem PySem.Spec PyProof.Rows PySem.W
structure ExK (K:Frag)(C:Addr):Prop where
 ga:findIn K (.ref C) "__getattribute__" = some (some (.builtin "BaseException.__getattribute__"))
 gt:findIn K (.ref C) "__getattr__" = some none
 cl:findIn K (.ref C) "__class__" = some (some (.builtin "object.__class__"))
 sb:subIn K (.ref C) (.type "BaseException")=some true
 so:subIn K (.ref C) (.type "object")=some true
 ci:(clsIn K C).isSome=true
structure ExAt (h:Heap)(a:Addr)(o:Obj)(C:Addr):Prop where
 at_:h.get? a=some o
 cls:o.cls=.ref C
def ExAt.type (I:ExAt h a o C):Looks M h (typeOf (.ref a)) (.ref C):=by
 rw [<- I.cls];exact (Looks.ld I.at_).andThen .now
section
variable {prog:Av}{w:World}{A:Around}{E:Value->Shared->Prop}{h:Heap}{g:Array GenState}{d:Drawn}{t:Nat}{os:OsState}{a C:Addr}{o:Obj}{K:Frag}
end
def excO (a C:Addr):HO:=.ext λh=>∃ o,ExAt h a o C
section
variable {X:Cx}
end
def zA (o:Obj)(f:Array Value->Array Value):(DW f o).dict=o.dict:=by
 unfold DW;split<;>rfl
def TrD (h base:Heap)(e:Addr)(cls:Value)(dd:Option Addr)(fl:Value):Prop:=
 ∃ (ob tb:Obj) (us ts:Array Value) (T:Addr),(h.get? e=some ob/\ob.data=.fields us/\ob.cls=cls/\ob.dict=dd)/\us[1]?=some (.ref T)/\(base.get? T=none/\T≠e)/\h.get? T=some tb/\tb.data=.fields ts/\ts[3]?=some fl
structure FlyD (base:Heap)(l:List Env)(e:Addr)(cls:Value)(dd:Option Addr)(fl:Value)(h:Heap):Prop where
 st:base.StaysIn h
 no:base.get? e=none
 fr:h.FunFrames base l
 tr:TrD h base e cls dd fl
theorem FlyD.at {l:List Env}{dd:Option Addr}(x:FlyD base l e cls dd fl h):∃ ob us,h.get? e=some ob/\ob.cls=cls/\ob.dict=dd/\ob.data=.fields us:=by
 obtain ⟨ob,_,us,_,_,⟨a,b,c,d⟩,_⟩:=x.tr;exact ⟨ob,us,a,c,d,b⟩
section
variable {M:Model}{A:Around}{E:Value->Shared->Prop}{s:Shared}{base:Heap}{env:Env}{outer:List Env}{L e:Addr}{Q:Unit->Shared->Prop}{cls:Value}{dd:Option Addr}
def aC4 {had:Bool}(frs:A.frames=some (env::outer))(ff:s.heap.FunFrames base (env::outer))(fL:env.frame=some L)(ge:s.heap.get? e=some ob)(st:base.StaysIn s.heap)(no:base.get? e=none)(du:ob.data=.fields us)(sz:1<us.size)(k:∀ h',FlyD base (env::outer) e ob.cls ob.dict (rawInt L) h'->s.heap.UpToSlots h'->Q () { s with heap:=h' }) :
  wpAny M A (do let fo <- frameOf env;let pl <- entryPlaceOf L had;let row <- EntryCells.newEntry head fo .none (rawInt L) .none pl;setField (.ref e) 1 row) Q E s:=by
 have eNot:e∉(env::outer).filterMap (·.frame):=λmem=>by
  obtain ⟨_,o',g',nf⟩:=ff.mem mem;cases ge.symm.trans g';exact nf us du
 refine Aa (wpAny_frameOf_fun frs ff fL λh1 only=>Aa (wpAny_entryPlaceOf λpl plOk=>?_));unfold EntryCells.newEntry newFields;refine Aa (Ba ?_ (plOk.sizeOk5 _ _ _ _ _));have g1:h1.get? e=some ob:=(only.2.1 e eNot).trans ge;have st1:base.StaysIn h1:=λb o q=>(only.2.1 b λmem=>by
  rw [(ff.mem mem).1] at q;cases q).trans (st b o q)
 generalize hrow:({ cls:=.type "traceback",dict:=none,data:=.fields ([head,.ref L,.none,rawInt L,.none]++(if pl.isEmpty then Co 6 BV else pl)).toArray }:Obj)=row;have g2:(h1.push row).get? e=some ob:=Ad row g1;have Tne:h1.objs.size≠e:=Dw (Aq g1);have du':=Ey du (·.setIfInBounds 1 (AC h1.objs.size));have gT:(h1.push row).get? h1.objs.size=some row:=Ai h1 (by rw [<- hrow];rfl);have old:∀ b o,b≠e->h1.get? b=some o->((h1.push row).update e (DW (·.setIfInBounds 1 (AC h1.objs.size)))).get? b=some o:=λb o nb q=>by
  rw [AY _ _ (Bg nb)];exact Ad row q
 have nofld:∀ b o,s.heap.get? b=some o->(∀ vs,o.data≠.fields vs)->b≠e:=λb o q nf z=>by
  subst z;cases ge.symm.trans q;exact nf us du
 refine EZ g2 du sz (k _ ⟨λb o q=>old b o ?_ (st1 b o q),no,ff.of_keeps λb o q nf=>?_,?_⟩ λb o q nf=>?_)
 ·rintro rfl
  rw [no] at q;cases q
 ·obtain ⟨sl,z⟩:=only.2.2 b o q
  exact ⟨_,old b _ (nofld b o q nf) z,rfl⟩
 ·refine ⟨_,row,_,([head,.ref L,.none,rawInt L,.none]++(if pl.isEmpty then Co 6 BV else pl)).toArray,h1.objs.size,⟨BR _ g2 (EM du'),du',Obj.cls_mapFields _ _,zA _ _⟩,by simp [sz],⟨?_,Tne⟩,?_,by rw [<- hrow],by simp⟩
  ·cases z:base.get? h1.objs.size with
   |none=>rfl
   |some o=>exact absurd (Aq (st1 _ _ z)) (CA _)
  ·rw [AY _ _ (Bg Tne)]
   exact gT
 ·obtain ⟨sl,z⟩:=only.2.2 b o q
  exact ⟨sl,old b _ (nofld b o q nf) z⟩
def lU {l:List Env}(F:FlyD base l e cls dd fl s.heap)(k:∀ h',FlyD base l e cls dd .none h'->s.heap.UpToSlots h'->Q () { s with heap:=h' }):wpAny M A (setFlight (.ref e) none) Q E s:=by
 obtain ⟨st,no,ff,ob,tb,us,ts,T,⟨ge,du,cc,cd⟩,u1,⟨nT,Tne⟩,gT,dt,t3⟩:=F;unfold setFlight;refine Aa (BO ge du u1 ?_);rw [if_pos (show (AC T != BV)=true from rfl)];have z3:3<ts.size:=(Ct.mp t3).1;have dt':=Ey dt (·.setIfInBounds 3 ((none:Option Addr).elim BV λf=>rawInt f));have old:∀ b,b≠T->(s.heap.update T (DW (·.setIfInBounds 3 ((none:Option Addr).elim BV λf=>rawInt f)))).get? b=s.heap.get? b:=λb nb=>AY _ _ (Bg nb);have nofld:∀ b o,s.heap.get? b=some o->(∀ vs,o.data≠.fields vs)->b≠T:=λb o q nf z=>by
  subst z;cases gT.symm.trans q;exact nf ts dt
 refine EZ gT dt z3 (k _ ⟨λb o q=>?_,no,ff.of_keeps λb o q nf=>⟨o,(old b (nofld b o q nf)).trans q,rfl⟩,?_⟩ λb o q nf=>⟨o.slots,(old b (nofld b o q nf)).trans q⟩)
 ·refine (old b ?_).trans (st b o q)
  rintro rfl
  rw [nT] at q;cases q
 ·exact ⟨ob,_,us,_,T,⟨(old e (Bg Tne)).trans ge,du,cc,cd⟩,u1,⟨nT,Tne⟩,BR _ gT (EM dt'),dt',by simp [z3]⟩
def aHj (frs:A.frames=some (env::outer))(ff:s.heap.FunFrames base (env::outer))(fL:env.frame=some L)(ge:s.heap.get? e=some ob)(st:base.StaysIn s.heap)(no:base.get? e=none)(du:ob.data=.fields us)(u1:us[1]?=some .none)(k:∀ h',FlyD base (env::outer) e ob.cls ob.dict (rawInt L) h'->s.heap.UpToSlots h'->Q () { s with heap:=h' }):wpAny M A (noteFrame (.ref e) env) Q E s:=by
 unfold noteFrame;simp only [fL];refine Aa (BO ge du u1 ?_);rw [if_neg (by decide)];exact aC4 frs ff fL ge st no du (Ct.mp u1).1 k
def aHi (frs:A.frames=some (env::outer))(fL:env.frame=some L)(F:FlyD base (env::outer) e cls dd .none s.heap)
  (k:∀ h',FlyD base (env::outer) e cls dd (rawInt L) h'->s.heap.UpToSlots h'->Q () { s with heap:=h' }):wpAny M A (noteFrame (.ref e) env) Q E s:=by
 obtain ⟨st,no,ff,ob,tb,us,ts,T,⟨ge,du,cc,cd⟩,u1,⟨nT,Tne⟩,gT,dt,t3⟩:=F;subst cc cd;unfold noteFrame;simp only [fL];refine Aa (BO ge du u1 ?_);rw [if_pos (show (AC T != BV)=true from rfl)];refine Aa (BO gT dt t3 ?_);rw [if_neg (show ¬ ((BV==rawInt L)=true) from by simp [rawInt])];have z3:3<ts.size:=(Ct.mp t3).1;have old:∀ b,b≠T->(s.heap.update T (DW (·.setIfInBounds 3 BV))).get? b=s.heap.get? b:=λb nb=>AY _ _ (Bg nb);have nofld:∀ b o,s.heap.get? b=some o->(∀ vs,o.data≠.fields vs)->b≠T:=λb o q nf z=>by
  subst z;cases gT.symm.trans q;exact nf ts dt
 refine Aa (EZ gT dt z3 ?_);refine aC4 frs (ff.of_keeps λb o q nf=>⟨o,(old b (nofld b o q nf)).trans q,rfl⟩) fL ((old e (Bg Tne)).trans ge) (λb o q=>?_) no du (Ct.mp u1).1 λh' F' up=>k h' F' λb o q nf=>up b o ((old b (nofld b o q nf)).trans q) nf;refine (old b ?_).trans (st b o q)
 rintro rfl
 rw [nT] at q;cases q
def FlyD.tail (F:FlyD base (env::outer) e cls dd fl h):FlyD base outer e cls dd fl h:=⟨F.st,F.no,F.fr.2.2,F.tr⟩
def aFf (frs:A.frames=some (env::outer))(ff:s.heap.FunFrames base (env::outer))(fL:env.frame=some L)(ge:s.heap.get? e=some ob)(st:base.StaysIn s.heap)(no:base.get? e=none)(du:ob.data=.fields us)(u1:us[1]?=some .none)(k:∀ h',FlyD base outer e ob.cls ob.dict .none h'->s.heap.UpToSlots h'->Q () { s with heap:=h' }):wpAny M A (leaving env (.ref e)) Q E s:=by
 unfold leaving;exact Aa (aHj frs ff fL ge st no du u1 λh' F' up=>lU F' λh'' F'' up'=>k h'' F''.tail (up.trans up'))
def aHs (frs:A.frames=some (env::outer))(fL:env.frame=some L)(F:FlyD base (env::outer) e cls dd .none s.heap)
  (k:∀ h',FlyD base outer e cls dd .none h'->s.heap.UpToSlots h'->Q () { s with heap:=h' }):wpAny M A (leaving env (.ref e)) Q E s:=by
 unfold leaving;exact Aa (aHi frs fL F λh' F' up=>lU F' λh'' F'' up'=>k h'' F''.tail (up.trans up'))
end
structure Flx (P:Av)(w:World)(outer:List Env)(H:Hp)(s:Shared)(H':Hp)(ea:Addr)(cls:Value)(dd:Option Addr)(s':Shared):Prop where
 os:s'.os=s.os
 bare:AllBare s'.gens
 un:Un (frs outer) [] H H' s.heap s'.heap
 fl:∃ B:Heap,HOk P w H' B/\FlyD B outer ea cls dd .none s'.heap/\(∀ b o,s.heap.get? b=some o->H b=none->b∉frs outer->B.get? b=some o)/\(∀ b o,s.heap.get? b=some o->b∉frs outer->∃ o',B.get? b=some o')
def CXg (P:Av)(w:World):CXT:=λouter H s E e s'=>∃ (ea C:Addr) (dd:Option Addr) (H':Hp),e=.ref ea/\Flx P w outer H s H' ea (.ref C) dd s'/\E (.ref C) dd H'
structure OwnF (X:Cx):Prop where
 stk:X.stack=X.env::X.outer
 fr:X.env.frame=some X.env.locals
 ex:X.ex=[]
section
variable {X:Cx}{pins:List (Addr×Obj)}{σ:St}{H H':Hp}{s s':Shared}
def rN (O:OwnF X)(I:Inv X pins σ H s)(e:X.s₀.heap.get? b=some o)(hb:b∉frs X.outer):b∉frs X.stack:=by
 rw [O.stk];intro z;unfold frs at z hb;rw [CW,O.fr] at z
 rcases AA.mp z with z|z
 ·exact absurd (AV (Aq e) I.ok.above) (by rw [z];exact CA _)
 ·exact hb z
def aJd (O:OwnF X)(hb:b∈frs X.outer):b∈frs X.stack:=by
 rw [O.stk];unfold frs at *
 rw [CW,O.fr];exact Ah _ hb
def aF0 (O:OwnF X)(I:Inv X pins σ H s){B h':Heap}(u:Un (frs X.stack) [] H H' s.heap s'.heap)(bk:∀ b o,X.s₀.heap.get? b=some o->X.H₀ b=none->b∉frs X.outer->B.get? b=some o)
  (th:∀ b o,X.s₀.heap.get? b=some o->b∉frs X.outer->∃ o',B.get? b=some o') (st:B.StaysIn h') (up:s'.heap.UpToSlots h'):Un (frs X.outer) [] X.H₀ H' X.s₀.heap h':=by
 have noex:∀ b:Addr,b∉X.ex:=λb z=>by rw [O.ex] at z;cases z
 have slot:∀ b o,X.s₀.heap.get? b=some o->X.H₀ b=none->b∈frs X.outer->∃ sl,h'.get? b=some { o with slots:=sl }:=λb o e n hb=>by
  obtain ⟨sl,e1⟩:=I.base.slot b o e n hb (noex b);have n1:=I.base.free b o e n (noex b);obtain ⟨sl2,e2⟩:=u.slot b _ e1 n1 (aJd O hb) (by simp);obtain ⟨_,o',ho',hnf⟩:=I.ok.funs.mem hb;rw [e] at ho';cases ho';obtain ⟨sl3,e3⟩:=up b _ e2 (λvs q=>hnf vs q);exact ⟨sl3,e3⟩
 refine ⟨λb o e n hb _=>st b o (bk b o e n hb),λb o e n hb _=>slot b o e n hb,λb o e n _=>?_,λb o e _=>?_,λb xs e=>u.tups _ _ (I.base.tups _ _ e),λb o x e=>u.frzs _ _ _ (I.base.frzs _ _ _ e),λb ps e=>?_⟩
 ·obtain ⟨o1,e1⟩:=I.base.there b o e (noex b)
  exact u.free b o1 e1 (I.base.free b o e n (noex b)) (by simp)
 ·by_cases hb:b∈frs X.outer
  ·obtain ⟨sl,q⟩:=slot b o e (I.ok.frf b hb) hb
   exact ⟨_,q⟩
  ·obtain ⟨o2,e2⟩:=th b o e hb
   exact ⟨o2,st b o2 e2⟩
 ·obtain ⟨m1,e1⟩:=I.base.tbls b ps e
  obtain ⟨m2,e2⟩:=u.tbls _ _ e1;exact ⟨m1++m2,by rw [e2,Array.append_assoc]⟩
def aJk (I:Inv X pins σ H s)(hea:H ea=none):HOk X.prog X.w H (hideAll s.heap (ea::frs X.stack)):=λa o e=>(I.hok a o e).stay (λb u hb q=>hideAll_get _ q λz=>by
 have n:H b=none:=by
  rcases AA.mp z with z|z
  ·rw [z];exact hea
  ·exact I.stkFree b z
 rcases hb with hb|hb
 ·rw [<- hb] at e;rw [e] at n;cases n
 ·rw [hb] at n;cases n) (λ_ h=>h) (λ_ _ h=>h)
def yV (O:OwnF X)(I:Inv X pins σ H s){ea C:Addr}{dd:Option Addr}{ob:Obj}{us:Array Value}{E':Value->Shared->Prop}{Q:Unit->Shared->Prop}(hea:H ea=none)(n0:X.s₀.heap.get? ea=none)(ge:s.heap.get? ea=some ob)
  (hc:ob.cls=.ref C) (hdd:ob.dict=dd) (du:ob.data=.fields us) (u1:us[1]?=some .none)
  (k:∀ h',Flx X.prog X.w X.outer X.H₀ X.s₀ H ea (.ref C) dd { s with heap:=h' }->Q () { s with heap:=h' }):wpAny (model X.prog X.w) X.A (leaving X.env (.ref ea)) Q E' s:=by
 have nfr:ea∉frs X.stack:=λz=>by
  obtain ⟨_,o',ho',hnf⟩:=I.stack.mem z;rw [ge] at ho';cases ho';exact hnf us du
 have hin:∀ env∈X.stack,∀ b,env.frame=some b->b∈ea::frs X.stack:=λenv he b hb=>Ah _ (List.mem_filterMap.mpr ⟨env,he,hb⟩);have hfr:X.A.frames=some (X.env::X.outer):=by rw [<- O.stk];exact I.ok.frames
 have hl:s.heap.FunFrames (hideAll s.heap (ea::frs X.stack)) (X.env::X.outer):=by rw [<- O.stk];exact funFrames_hide I.stack hin
 have nB:(hideAll s.heap (ea::frs X.stack)).get? ea=none:=hideAll_none _ (Ar ..);have bk:∀ b o,X.s₀.heap.get? b=some o->X.H₀ b=none->b∉frs X.outer->(hideAll s.heap (ea::frs X.stack)).get? b=some o:=λb o e n hb=>by
  refine hideAll_get _ (I.base.keep b o e n hb (by rw [O.ex];simp)) λz=>?_
  rcases AA.mp z with z|z
  ·rw [z,n0] at e;cases e
  ·exact rN O I e hb z
 have th:∀ b o,X.s₀.heap.get? b=some o->b∉frs X.outer->∃ o',(hideAll s.heap (ea::frs X.stack)).get? b=some o':=λb o e hb=>by
  obtain ⟨o1,e1⟩:=I.base.there b o e (by rw [O.ex];simp);refine ⟨o1,hideAll_get _ e1 λz=>?_⟩
  rcases AA.mp z with z|z
  ·rw [z,n0] at e;cases e
  ·exact rN O I e hb z
 refine aFf (base:=hideAll s.heap (ea::frs X.stack)) hfr hl O.fr ge (λb o q=>of_hideAll _ q) nB du u1 λh' F' up=>k h' ⟨I.os,I.bare,?_,hideAll s.heap (ea::frs X.stack),aJk I hea,by rw [<- hc,<- hdd];exact F',bk,th⟩;exact aF0 (s':=s) O I Un.refl bk th F'.st up
def aH1 (O:OwnF X)(I:Inv X pins σ H s){ea C:Addr}{dd:Option Addr}{E':Value->Shared->Prop}{Q:Unit->Shared->Prop}(F:Flx X.prog X.w X.stack H s H' ea (.ref C) dd s')
  (k:∀ h',Flx X.prog X.w X.outer X.H₀ X.s₀ H' ea (.ref C) dd { s' with heap:=h' }->Q () { s' with heap:=h' }):wpAny (model X.prog X.w) X.A (leaving X.env (.ref ea)) Q E' s':=by
 obtain ⟨B,hok,fl,bk,th⟩:=F.fl;have hfr:X.A.frames=some (X.env::X.outer):=by rw [<- O.stk];exact I.ok.frames
 have fl':FlyD B (X.env::X.outer) ea (.ref C) dd .none s'.heap:=by rw [<- O.stk];exact fl
 have bk0:∀ b o,X.s₀.heap.get? b=some o->X.H₀ b=none->b∉frs X.outer->B.get? b=some o:=λb o e n hb=>
  bk b o (I.base.keep b o e n hb (by rw [O.ex];simp)) (I.base.free b o e n (by rw [O.ex];simp)) (rN O I e hb)
 have th0:∀ b o,X.s₀.heap.get? b=some o->b∉frs X.outer->∃ o',B.get? b=some o':=λb o e hb=>by
  obtain ⟨o1,e1⟩:=I.base.there b o e (by rw [O.ex];simp);exact th b o1 e1 (rN O I e hb)
 exact aHs hfr O.fr fl' λh' F' up=>k h' ⟨F.os.trans I.os,F.bare,aF0 O I F.un bk0 th0 F'.st up,B,hok,F',bk0,th0⟩
end
abbrev cxF (P:Av)(w:World)(K:Frag)(mg:Str->Option Value)(base:Heap)(N:List Str)(qual:Str)(scope:Scope)(f:Addr)(cd:Value)(A:Around)(outer:List Env)(s:Shared)(H:Hp)(E:XK):Cx:=cxOf (CXg P w) P w K mg base N qual scope f cd A outer s H E
section
variable {P:Av}{w:World}{K:Frag}{mg:Str->Option Value}{base:Heap}{N:List Str}{qual:Str}{scope:Scope}{f:Addr}{cd:Value}{A:Around}{outer:List Env}{s:Shared}{H:Hp}{E:XK}
def wM:OwnF (cxF P w K mg base N qual scope f cd A outer s H E):=⟨rfl,rfl,rfl⟩
def mZ:gU (CXg P w) (cxF P w K mg base N qual scope f cd A outer s H E) E:=by
 intro pins σ Hc sc e s' I h;obtain ⟨ea,C,dd,H',rfl,F,hE⟩:=h;exact aH1 (X:=cxF P w K mg base N qual scope f cd A outer s H E) wM I F λh' F'=>⟨ea,C,dd,H',rfl,F',hE⟩
def XeOk (X:Cx)(E:XK):Prop:=∀ (pins:List (Addr×Obj)) (σ:St) (H:Hp) (s:Shared) (ea C:Addr) (ob:Obj) (us:Array Value),Inv X pins σ H s->H ea=none->X.s₀.heap.get? ea=none->s.heap.get? ea=some ob->ob.cls=.ref C->ob.data=.fields us->us[1]?=some .none->E (.ref C) ob.dict H->X.xe (.ref ea) s
def xe_f:XeOk (cxF P w K mg base N qual scope f cd A outer s H E) E:=by
 intro pins σ Hc sc ea C ob us I hea n0 ge hc du u1 hE;exact yV (X:=cxF P w K mg base N qual scope f cd A outer s H E) wM I hea n0 ge hc rfl du u1 λh'' F'=>⟨ea,C,ob.dict,Hc,rfl,F',hE⟩
def Fun.okF {x:Str}{st:Stmt}{fd:Az}{ps:List Str}{k:Nat}{sp:Sp}(F:Fun K x qual st f fd)(S:FnScope N ps (aG st))(len:∀ vs H Q E,sp vs H Q E->vs.length=ps.length)
  (hbody:∀ (cdv:Value) (A:Around) (outer:List Env) (s:Shared) (H:Hp) (vs:List V) (Q:VK) (E:XK),Room k (A.deeper (envOfC qual (aG st) s.heap.objs.size f cdv))->sp vs H Q E ->
   ∃ t,PSs (cxF P w K mg base N qual (aG st) f cdv A outer s H E) (eL st) t/\t { nx:=λ_ H'=>Q .non H',rt:=Q } (start N vs) H):FnOk P w K mg base (CXg P w) (k+1) f fd ps sp:=by
 obtain ⟨oc,od,kV,doc,pm,an,cdv,ct,osl,rfl,lk,hcd⟩:=F.ex;exact aH0 lk hcd S len λA outer s H vs Q E hr hsp=>hbody cdv A outer s H vs Q E hr hsp
end
structure CtK (K:Frag)(D:Addr):Prop where
 ty:typeIn K (.ref D)=some (.type "type")
 ci:(clsIn K D).isSome=true
 sb:subIn K (.ref D) (.type "BaseException")=some true
def qC {M:Model}{A:Around}{E:Value->Shared->Prop}{h:Heap}{g:Array GenState}{d:Drawn}{t:Nat}{os:OsState}{e C D:Addr}{o:Obj}{K:Frag}{Q:Bool->Shared->Prop}(X:K.In h)(I:ExAt h e o C)(F:CtK K D)(hs:subIn K (.ref C) (.ref D)=some true)
  (hq:Q true ⟨h,g,d,t,os⟩):wpAny M A (excMatches (.ref e) (.ref D)) Q E ⟨h,g,d,t,os⟩:=by
 have L1:=looks_typeIn (M:=M) X F.ty;have L2':Looks M h (isType (.ref D)) true:=by
  have hcD:=F.ci;unfold clsIn at hcD;split at hcD
  ·rename_i c' d' cd' sl' ho
   intro A' Q' E' s' k q;unfold isType loadHead;exact Aa (wpAny_loadPart (k _ _ (X _ _ ho)) (Ag q))
  ·cases hcD
 have L3:=looks_subIn (M:=M) X F.sb;have L4:=looks_subIn (M:=M) X hs;have L5:=I.type (M:=M);have f:=tc_notTuple;unfold excMatches isInstance
 repeat (first|with_reducible refine L1.at ?_|with_reducible refine L2'.at ?_|with_reducible refine L3.at ?_|with_reducible refine L4.at ?_|with_reducible refine L5.at ?_|wp_step)
 exact hq
abbrev bmV:List Value:=[.type "ValueError",.type "Exception",.type "BaseException",.type "object"]
structure ClsObj (h:Heap)(C:Addr)(bmB:List Value)(newId:String):Prop where
 ex:∃ (nm q:Str) (N:Addr) (bs bm:List Value) (hdct:Bool) (sn:List Str) (sub:List Value) (ab:Bool) (col:Option Bool) (dd:Option Addr) (k0 k1 k2 k3 k5:Option Value) (mN:Str->Option Value),
  h.get? C=some (excClassObj nm q C N bs bm hdct sn sub ab col dd k0 k1 k2 k3 k5 newId)/\h.Ns N mN/\mN "__init__" = none/\OwnTail h bmB bm
def excD (a C:Addr)(dd:Option Addr):HO:=.ext λh=>∃ o,ExAt h a o C/\o.dict=dd/\∃ us,o.data=.fields us
def Inv.absent0 {σ:St}(I:Inv X pins σ H s)(hex:X.ex=[])(n:s.heap.get? e=none):X.s₀.heap.get? e=none:=by
 cases q:X.s₀.heap.get? e with
 |none=>rfl
 |some o=>
  obtain ⟨ob,z⟩:=I.base.there e o q (by rw [hex];simp);rw [n] at z;cases z
def tRaise (C:Addr)(E:XK)(t:TA):TS:=λ_ σ H=>t σ H λvs H1=>vs.length<=Au/\E (.ref C) none H1
section
variable {X:Cx}
inductive rIsiY (K:Ab)(xs:List V)(H:Hp)(Q:VK):Prop
 |mk (a C:Addr) (dd:Option Addr) (c:Value) (v:V) (b:Bool) (e:xs=[.ref a,v]) (i:H a=some (excD a C dd)) (x:ExK K C) (r:RelV v c) (k:kitOne K (.ref C) c=some b) (h:Q (.bl b) H)
end
abbrev Cx.within (X:Cx)(v:Value):Cx:={ X with A:=X.A.mark (some v),calm:=false,xe:=λ_ _=>False }
abbrev Cx.trying (X:Cx)(pins:List (Addr×Obj))(E:Value->Shared->Prop):Cx:={ X with pn:=X.pn++pins,xe:=E }
section
variable {X:Cx}{pins:List (Addr×Obj)}{σ:St}{H H':Hp}{s s':Shared}
def Inv.within (I:Inv X pins σ H s)(v:Value):Inv (X.within v) pins σ H s:=
 ⟨⟨I.ok.mod,I.ok.kind,I.ok.glob,I.ok.blt,I.ok.above,I.ok.inj,I.ok.has,I.ok.cab,(λh=>(by cases h)),I.ok.frames,I.ok.stk,I.ok.exf,I.ok.bs,I.ok.bsz,I.ok.noex,I.ok.exfs,I.ok.funs,I.ok.frf⟩,I.os,I.bare,I.base,I.loc,I.cell,I.free,I.freeC,I.pin,I.hok,I.len⟩
def Inv.without (ok:X.Ok)(I:Inv (X.within v) pins σ H s):Inv X pins σ H s:=⟨ok,I.os,I.bare,I.base,I.loc,I.cell,I.free,I.freeC,I.pin,I.hok,I.len⟩
def Inv.trying (I:Inv X pins σ H s)(E:Value->Shared->Prop):Inv (X.trying pins E) [] σ H s:=
 ⟨⟨I.ok.mod,I.ok.kind,I.ok.glob,I.ok.blt,I.ok.above,I.ok.inj,I.ok.has,I.ok.cab,I.ok.hd,I.ok.frames,I.ok.stk,I.ok.exf,I.ok.bs,I.ok.bsz,I.ok.noex,I.ok.exfs,I.ok.funs,I.ok.frf⟩,I.os,I.bare,I.base,I.loc,I.cell,I.free,I.freeC,λp hp=>I.pin p (by rwa [Cc] at hp),I.hok,I.len⟩
def Inv.tried (I:Inv (X.trying pins E) pl σ H s):Inv X pins σ H s:=
 ⟨⟨I.ok.mod,I.ok.kind,I.ok.glob,I.ok.blt,I.ok.above,I.ok.inj,I.ok.has,I.ok.cab,I.ok.hd,I.ok.frames,I.ok.stk,I.ok.exf,I.ok.bs,I.ok.bsz,I.ok.noex,I.ok.exfs,I.ok.funs,I.ok.frf⟩,I.os,I.bare,I.base,I.loc,I.cell,I.free,I.freeC,λp hp=>I.pin p (List.mem_append_left _ hp),I.hok,I.len⟩
def SP.tried (h:SP (X.trying pins E) [] D f s):SP X pins D f s:=by
 cases f with
 |next=>obtain ⟨σ',H',I,q⟩:=h;exact ⟨σ',H',I.tried,q⟩
 |brk=>obtain ⟨σ',H',I,q⟩:=h;exact ⟨σ',H',I.tried,q⟩
 |cont=>obtain ⟨σ',H',I,q⟩:=h;exact ⟨σ',H',I.tried,q⟩
 |ret u=>obtain ⟨v,σ',H',I,r,q⟩:=h;exact ⟨v,σ',H',I.tried,r,q⟩
def Inv.track (I:Inv X pins σ H s)(hn:H a=none)(h0:X.s₀.heap.get? a=none)(hL:a≠X.env.locals)(hc:∀ x c,X.env.cells.lookup x=some c->c≠a)(hp:∀ p∈X.pn++pins,p.1≠a)(ok:ObjOk X.prog X.w (upd H a u) s.heap a u):Inv X pins σ (upd H a u) s:=by
 have old:∀ b o,X.s₀.heap.get? b=some o->b≠a:=λb o e z=>by rw [z,h0] at e;cases e
 have trk:∀ b o,H b=some o->b≠a:=λb o e=>aZ e hn;refine ⟨I.ok,I.os,I.bare,⟨I.base.keep,I.base.slot,λb o e n hx=>?_,I.base.there,λb xs e=>?_,λb o x e=>?_,λb ps e=>?_⟩,I.loc,I.cell,?_,λx c e=>?_,λp q=>?_,λb o e=>?_,I.len⟩
 ·rw [aI (old b o e)]
  exact I.base.free b o e n hx
 ·have z:=I.base.tups b xs e
  rw [aI (trk _ _ z)];exact z
 ·have z:=I.base.frzs b o x e
  rw [aI (trk _ _ z)];exact z
 ·obtain ⟨m,z⟩:=I.base.tbls b ps e
  exact ⟨m,by rw [aI (trk _ _ z)];exact z⟩
 ·rw [aI (Bg hL)]
  exact I.free
 ·rw [aI (hc x c e)]
  exact I.freeC x c e
 ·obtain ⟨a1,a2,a3⟩:=I.pin p q
  exact ⟨a1,by rw [aI (hp p q)];exact a2,a3⟩
 ·by_cases hb:b=a
  ·subst hb
   rw [aB] at e;cases e;exact ok
  ·rw [aI hb] at e
   exact (I.hok b o e).stay (λ_ _ _ q=>q) (λc q=>by rw [aI (trk _ _ q)];exact q) (λc xs q=>by rw [aI (trk _ _ q)];exact q)
def aDh (I:Inv X pins σ H s){B h':Heap}(u:Un (frs X.stack) [] H H' s.heap s'.heap)(bk:∀ b o,s.heap.get? b=some o->H b=none->b∉frs X.stack->B.get? b=some o)
  (th:∀ b o,s.heap.get? b=some o->b∉frs X.stack->∃ o',B.get? b=some o') (st:B.StaysIn h') (up:s'.heap.UpToSlots h'):Un (frs X.stack) [] H H' s.heap h':=by
 have slot:∀ b o,s.heap.get? b=some o->H b=none->b∈frs X.stack->∃ sl,h'.get? b=some { o with slots:=sl }:=λb o e n hb=>by
  obtain ⟨sl,e1⟩:=u.slot b o e n hb (by simp);obtain ⟨_,o',ho',hnf⟩:=I.stack.mem hb;rw [e] at ho';cases ho';obtain ⟨sl3,e3⟩:=up b _ e1 (λvs q=>hnf vs q);exact ⟨sl3,e3⟩
 refine ⟨λb o e n hb _=>st b o (bk b o e n hb),λb o e n hb _=>slot b o e n hb,u.free,λb o e _=>?_,u.tups,u.frzs,u.tbls⟩
 by_cases hb:b∈frs X.stack
 ·obtain ⟨sl,q⟩:=slot b o e (I.stkFree b hb) hb
  exact ⟨_,q⟩
 ·obtain ⟨o2,e2⟩:=th b o e hb
  exact ⟨o2,st b o2 e2⟩
def tTry (K:Frag)(N j:Nat)(Dc:Addr)(tb:XK->TS):TS:=λD σ H=>tb (λcls dd H'=>∃ C,cls=.ref C/\ExK K C/\subIn K (.ref C) (.ref Dc)=some true/\∀ a,H' a=none->D.nx ((Co N none).set j (some (.ref a))) (upd H' a (excD a C dd))) D σ H
end
def xiIn (K:Frag)(C P f:Addr):Bool:=match K.lookup C with
 |some ⟨.type "type",_,.cls cd,sl⟩=>(match cd.mro,sl.toList with
  |.ref C'::.ref P'::bm,[_,_,_,_,some (.builtin n),_]=>C'==C&&P'==P&&n == "ValueError.__new__" && !cd.hasDel&&cd.hasDict&&tailIn K bmV (.ref P'::bm)&&nsOkIn K cd.ns&&nsIn K cd.ns "__init__" == some (some (.ref f))&&bm==bmV
  |_,_=>false)
 |_=>false
structure ClsI (h:Heap)(C P f:Addr):Prop where
 ex:∃ (nm q:Str) (N:Addr) (bs:List Value) (sn:List Str) (sub:List Value) (ab:Bool) (col:Option Bool) (dd:Option Addr) (k0 k1 k2 k3 k5:Option Value) (mN:Str->Option Value),
  h.get? C=some (excClassObj nm q C N bs (.ref P::bmV) true sn sub ab col dd k0 k1 k2 k3 k5 "ValueError.__new__")/\h.Ns N mN/\mN "__init__" = some (.ref f)/\OwnTail h bmV (.ref P::bmV)
def iF {K:Frag}{h:Heap}{N:Addr}{x:Str}{v:Value}(X:K.In h)(hok:nsOkIn K N=true)(e:nsIn K N x=some (some v)):h.nsMap N x=some v:=by
 have G:h.Ns N (h.nsMap N):=.of_isNs (isNs_of_in X hok);obtain ⟨o,es,ep,ho,hd,_,hf⟩:=G;unfold nsIn at e;split at e
 ·rename_i c d es' n' sl q
  have z:=X _ _ q;rw [ho] at z;cases z;cases hd;split at e
  ·rename_i en he
   cases e;rw [<- hf];unfold nsFind findBy;rw [<- Array.find?_toList,he];rfl
  ·split at e<;>cases e
 ·cases e
def lY {K:Frag}{h:Heap}{C P f:Addr}(X:K.In h)(q:xiIn K C P f=true):ClsI h C P f:=by
 unfold xiIn at q;split at q
 case h_2=>cases q
 case h_1 dd cd sl ho=>
  split at q
  case h_2=>cases q
  case h_1 C' P' bm k0 k1 k2 k3 n k5 hm hs=>
   simp only [BU,beq_iff_eq,Bool.not_eq_true'] at q;obtain ⟨⟨⟨⟨⟨⟨⟨⟨e1,e0⟩,e2⟩,hdel⟩,hdi⟩,ht⟩,hok⟩,hni⟩,e3⟩:=q;cases e1;cases e0;cases e2;cases e3;obtain ⟨nm,bs,mro,ns,qn,hd,sn,sub,ab,col,del⟩:=cd;obtain ⟨sl⟩:=sl;dsimp only at hm hdel hok hni hs hdi;subst hm hdel hs hdi;exact ⟨nm,qn,ns,bs,sn,sub,ab,col,dd,k0,k1,k2,k3,k5,_,X _ _ ho,.of_isNs (isNs_of_in X hok),iF X hok hni,tail_of_in X ht⟩
section
variable {prog:Av}{w:World}{A:Around}{E:Value->Shared->Prop}{h:Heap}{g:Array GenState}{d:Drawn}{t:Nat}{os:OsState}{K:Frag}{C P f:Addr}
abbrev gQ (h:Heap)(C:Addr)(rest:List Value):Heap:=(h.push { cls:=.type "tuple",data:=.seq rest.toArray }).push { cls:=.ref C,data:=.fields #[.ref h.objs.size,.none,.none,.none,.bool false,.none] }
def lV {rest:List Value}(X:K.In h)(I:ClsI h C P f)(hf:typeIn K (.ref f)=some (.type "function"))(hrest:rest.length<=Au)(hq:Ew (model prog w) A (.call (.ref f) ⟨.ref (h.objs.size+1)::rest,[]⟩) (λr s'=>match r with
   |.ok (.ret v)=>v=.none/\Q (.done (.ret (.ref (h.objs.size+1)))) s'
   |.ok _=>False
   |.error e=>E e s') ⟨gQ h C rest,g,d,t,os⟩) :
  wpAny (model prog w) A (AI.«type.__call__» ⟨.ref C::rest,[]⟩) Q E ⟨h,g,d,t,os⟩:=by
 obtain ⟨nm,q,N,bs,sn,sub,ab,col,dd,k0,k1,k2,k3,k5,mN,hC,hn,hni,T⟩:=I.ex;have F:=PySem.F.excBase_ValueError
 repeat (first|with_reducible refine CG hC ?_|with_reducible refine wpAny_madeBy_exc hC ?_|wp_step)
 refine codeAny_call_builtin_code (Es _ F.quiet) (wpAny_check_new_subU F F.hasB T hC ?_);refine codeAny_exc_new_subU F F.hasB F T hC ?_ hrest;show wpAny _ _ _ _ _ _;have keep:∀ b o,h.get? b=some o->(gQ h C rest).get? b=some o:=λb o e=>Ad _ (Ad _ e);have hC1:=keep _ _ hC;have hn1:(gQ h C rest).Ns N mN:=hn.keeps keep;have hget:(gQ h C rest).get? (h.objs.size+1)=some { cls:=.ref C,data:=.fields #[.ref h.objs.size,.none,.none,.none,.bool false,.none] }:=by unfold gQ;heap_get
 have hcC:(AC C::AC P::bmV).contains (.ref C)=true:=by simp
 have T1:=T.keeps keep;have B1:=bind_fn (M:=model prog w) (X.keeps keep) (.ref (h.objs.size+1)) hf;unfold isInstance
 repeat (first|with_reducible refine CG hget ?_|(with_reducible refine wpAny_isSubtype_exc hC1 ?_;rw [hcC])|wp_step)
 show wpAny _ _ (typeLookup (.ref C) _) _ _ _;refine wpAny_typeLookup_tail hC1 hn1 T1 F.mroIs F.init.lookup ?_;rw [hni];refine Bz (Aa (B1.at ?_));refine Aa (Ez (Cn hq λr s' z=>?_));cases r with
 |error e=>exact z
 |ok fl=>
  cases fl with
  |ret v=>
   obtain ⟨rfl,z⟩:=z;exact Ag (Ag z)
  |next=>exact z.elim
  |brk=>exact z.elim
  |cont=>exact z.elim
def aBy {rest:List Value}(X:K.In h)(I:ClsI h C P f)(hf:typeIn K (.ref f)=some (.type "function"))(hrest:rest.length<=Au)(hq:Ew (model prog w) (A.under (.builtin "type.__call__" ⟨.ref C::rest,[]⟩)) (.call (.ref f) ⟨.ref (h.objs.size+1)::rest,[]⟩) (InitBack (h.objs.size+1) R) ⟨gQ h C rest,g,d,t,os⟩) :
  Ew (model prog w) A (.call (.ref C) ⟨rest,[]⟩) R ⟨h,g,d,t,os⟩:=by
 obtain ⟨nm,q,N,bs,sn,sub,ab,col,dd,k0,k1,k2,k3,k5,mN,hC,hn,hni,T⟩:=id I.ex;have f1:=tc_lookup;have f2:=tc_bind (.ref C);have hT:(⟨h,g,d,t,os⟩:Shared).TypeIs (.ref C) "type":=⟨_,hC,rfl⟩;refine Ft ?_;show wpAny _ _ (callAny (.ref C) _) _ _ _
 repeat (any_goals (first|assumption|with_reducible refine CG hC ?_|wp_step))
 refine ⟨rfl,?_⟩;refine codeAny_call_builtin_at (Es _ (by decide +kernel)) entry_typeCall (wpAny_check_type_call_sub hC (lV X I hf hrest (Cn hq λr s' z=>?_)));cases r with
 |error e=>exact z
 |ok fl=>
  cases fl with
  |ret v=>exact z
  |next=>exact z.elim
  |brk=>exact z.elim
  |cont=>exact z.elim
end
def exN (a C:Addr)(dd:Option Addr):HO:=.ext λh=>∃ o t,(h.get? a=some o/\o.cls=.ref C/\o.dict=dd)/\o.data=.fields #[t,.none,.none,.none,.bool false,.none]
def rem (H:Hp)(a:Addr):Hp:=λb=>if b=a then none else H b
theorem mS (h:b≠a):rem H a b=H b:=by unfold rem;rw [if_neg h]
theorem lK :rem H a a=none:=by unfold rem;rw [if_pos rfl]
section
variable {X:Cx}{pins:List (Addr×Obj)}{σ:St}{H:Hp}{s:Shared}
def Inv.drop (I:Inv X pins σ H s){φ:Heap->Prop}(ha:H a=some (.ext φ)):Inv X pins σ (rem H a) s:=by
 have nn:∀ b,H b=none->rem H a b=none:=λb h=>by
  by_cases z:b=a
  ·rw [z];exact lK
  ·rw [mS z];exact h
 have oo:∀ b o,H b=some o->(∀ ψ,o≠.ext ψ)->rem H a b=some o:=λb o h n=>by
  by_cases z:b=a
  ·subst z;rw [h] at ha;cases ha;exact absurd rfl (n φ)
  ·rw [mS z];exact h
 refine ⟨I.ok,I.os,I.bare,⟨I.base.keep,I.base.slot,λb o e n hx=>nn b (I.base.free b o e n hx),I.base.there,λb xs e=>oo b _ (I.base.tups b xs e) (λ_ z=>by cases z),λb o x e=>oo b _ (I.base.frzs b o x e) (λ_ z=>by cases z),λb ps e=>?_⟩,I.loc,I.cell,nn _ I.free,λx c e=>nn _ (I.freeC x c e),λp hp=>?_,λb o e=>?_,I.len⟩
 ·obtain ⟨m,z⟩:=I.base.tbls b ps e
  exact ⟨m,oo b _ z (λ_ q=>by cases q)⟩
 ·obtain ⟨a1,a2,a3⟩:=I.pin p hp
  exact ⟨a1,nn _ a2,a3⟩
 ·by_cases z:b=a
  ·rw [z,lK] at e;cases e
  ·rw [mS z] at e
   exact (I.hok b o e).stay (λ_ _ _ q=>q) (λc q=>oo c _ q (λ_ z=>by cases z)) (λc xs q=>oo c _ q (λ_ z=>by cases z))
def Inv.exnew (I:Inv X pins σ H s)(C:Addr)(us:List Value):Inv X pins σ (upd H (s.heap.objs.size+1) (exN (s.heap.objs.size+1) C none)) { s with heap:=gQ s.heap C us }:=by
 refine I.laid (a:=s.heap.objs.size+1) (t':=s.toks) (λb u e=>Ad _ (Ad _ e)) (Dq _) ?_;have hget:(gQ s.heap C us).get? (s.heap.objs.size+1)=some { cls:=.ref C,data:=.fields #[.ref s.heap.objs.size,.none,.none,.none,.bool false,.none] }:=by unfold gQ;heap_get
 exact ⟨⟨_,_,⟨hget,rfl,rfl⟩,rfl⟩,⟨_,hget⟩,λh1 h2 ⟨o,t,⟨e1,e2,e3⟩,e4⟩ k=>⟨o,t,⟨k o e1,e2,e3⟩,e4⟩⟩
def tP {M:Model}{A:Around}{E:Value->Shared->Prop}{env:Env}{x:Sem Value}{C:Addr}{K:Frag}{s:Shared}{Q:Flow->Shared->Prop}(hh:A.handled=none)(F:ExK K C)(hk:∃ oC,K.lookup C=some oC/\oC.cls=.type "type")
  (h:wpAny M A x (λv s₁=>K.In s₁.heap/\∃ e ob us,v=.ref e/\s₁.heap.get? e=some ob/\ob.cls=.ref C/\ob.data=.fields us/\us[1]?=some .none/\E (.ref e) s₁) E s):wpAny M A (raiseStmt env (some x) none) Q E s:=by
 unfold raiseStmt;refine Aa (BX h (λv s₁ h₁=>?_) λ_ _ x=>x);obtain ⟨KX,e,ob,us,rfl,he,hc,hd,h1,hE⟩:=h₁;obtain ⟨hp,g,d,tk,os⟩:=s₁;have L1:=looks_subIn (M:=M) KX F.sb;obtain ⟨⟨cC,dC,tC,sC⟩,hkC,hkc⟩:=hk;have hC:=KX _ _ hkC;dsimp only at hkc;subst hkc;obtain ⟨oc,od,odt,osl⟩:=ob;dsimp only at hc hd;subst hc hd;have h1':=h1
 repeat (first|with_reducible refine CG he ?_|with_reducible refine CG hC ?_|with_reducible refine L1.at ?_|wp_step)
 rw [h1];refine Ag ?_;rw [if_neg (by decide)];exact Ag (wpAny_raiseNew_none hh hE)
end
def aAd {K:Frag}{C P f:Addr}(q:xiIn K C P f=true):∃ oC,K.lookup C=some oC/\oC.cls=.type "type":=by
 unfold xiIn at q;split at q
 ·rename_i ho
  exact ⟨_,ho,rfl⟩
 ·cases q
structure ExI (K:Frag)(C P f:Addr):Prop where
 xi:xiIn K C P f=true
 fn:typeIn K (.ref f)=some (.type "function")
 kp:keepIn K (.ref C)=true
 k:ExK K C
def aDk (C:Addr)(sp:Sp)(E:XK)(t:TA):TS:=λ_ σ H=>t σ H λvs H1=>vs.length<=Au/\∀ e,H1 e=none ->
 sp (.ref e::vs) (upd H1 e (exN e C none)) (λv H2=>v=.non/\∃ dd,H2 e=some (exN e C dd)/\E (.ref C) dd (rem H2 e)) E0
section
variable {X:Cx}
def fK {x:Str}{C P f:Addr}{fd:Az}{ps:List Str}{sp:Sp}{k:Nat}{e₀:Expr}{es:List Expr}{t:TA}{E:XK}{np cpos pos:Pos}(hex:X.ex=[])(hX:XeOk X E)(hc:X.calm=true)(hr:Room (k+1) X.A)(hg:Gl X x)(hm:X.mg x=some (.ref C))(hei:ExI X.K C P f)
  (F:FnOk X.prog X.w X.K X.mg X.base CX0 k f fd ps sp) (hb:Binds X.K fd ps []) (ha:PA X (e₀::es) t)
  (hdb:(x==("__debug__":Str))=false:=by decide) (he:AQ (e₀::es) X.env=(false,eval e₀ X.env)::AQ es X.env:=by rfl) (hpl:(backTo cpos (AQ es X.env)).any (·.1)=false:=by rfl) :
  PS X (.Raise (some (.Call (.Name x np) (e₀::es) [] cpos)) none pos) (aDk C sp E t):=by
 intro pins s σ H D I h;rw [arm_exec_Raise];refine Aa (Fj (tP (C:=C) (K:=X.K) (I.ok.hd hc) hei.k (aAd hei.xi) ?_));refine Aa (thn (Q:=λv s₁=>X.K.In s₁.heap/\∃ e ob us,v=AC e/\s₁.heap.get? e=some ob/\ob.cls=.ref C/\ob.data=.fields us/\us[1]?=some .none/\X.xe (.ref e) s₁) ?_ λv s1 q=>Aa (Fj (Ag q)));refine CQ (fR I hg hm ?_ hdb);refine Ei (h₀:=X.base) I.ok.mod.kin hei.kp (thn (ha cpos pins s σ H _ I h) λus s1 ⟨vs,H1,I1,r,hl,q⟩=>⟨I1.kIn,?_⟩) he hpl;have hn:H1 (s1.heap.objs.size+1)=none:=I1.hok.fresh (Dq _);have hq:=q (s1.heap.objs.size+1) hn;have I2:=I1.exnew C us;have r2:Vals (V.ref (s1.heap.objs.size+1)::vs) (AC (s1.heap.objs.size+1)::us):=.cons rfl r;have hlen:(AC (s1.heap.objs.size+1)::us++[]).length=ps.length:=by
  have e:=r2.length;rw [F.len _ _ _ _ hq] at e;rw [Cc];exact e.symm
 have n0:X.s₀.heap.get? (s1.heap.objs.size+1)=none:=I1.absent0 hex (Heap.get?_none_of_le (Dq _));obtain ⟨hh,g,d,tk,os⟩:=s1;refine Ez (aBy (f:=f) (P:=P) I1.kIn (lY I1.kIn hei.xi) hei.fn (by show us.length<=Au;rw [<- r.length];exact hl) (Cn (F.run _ X.stack _ _ ⟨AC (hh.objs.size+1)::us,[]⟩ (AC (hh.objs.size+1)::us) _ _ E0 (hr.make C us [])
  (I2.env0.make C us []) (by have z:=hb _ (AC (hh.objs.size+1)::us) I2.kIn hlen;rw [Cc] at z;exact z) r2 hq) λr s' hq'=>?_))
 cases r with
 |error e=>exact hq'.elim
 |ok fl=>
  cases fl with
  |ret u=>
   obtain ⟨v,H',I3,rv,ev,dd,hd,hE⟩:=I2.after hq';subst ev;refine ⟨rv,?_⟩;obtain ⟨⟨o,t',⟨o1,o2,o3⟩,o4⟩,_⟩:=I3.hok _ _ hd;exact ⟨I3.kIn,_,o,_,rfl,o1,o2,o4,rfl,hX pins σ _ s' _ C o _ (I3.drop hd) lK n0 o1 o2 o4 rfl (by rw [o3];exact hE)⟩
  |next=>exact hq'.elim
  |brk=>exact hq'.elim
  |cont=>exact hq'.elim
end
end L2
namespace L2
open PySem PySem.Spec PyProof.Rows PySem.W PySem.Builtin PySem.Builtin.ObjectAttr
theorem tK (self:Value):refuseLoop self "__setattr__" bmV=pure ():=by
 kernel_rfl
section
variable {prog:Av}{w:World}{A:Around}{E:Value->Shared->Prop}{h:Heap}{g:Array GenState}{d:Drawn}{t:Nat}{os:OsState}{K:Frag}{C P f a:Addr}{o:Obj}{name:Str}{v:Value}
def iC (X:K.In h)(I:ClsI h C P f)(F:ExK K C)(sa:findIn K (.ref C) "__setattr__" = some (some (.builtin "object.__setattr__")))(nn:findIn K (.ref C) name=some none)(O:ExAt h a o C)(hq:∀ A' tk,wpAny (model prog w) A' (storeInOwnDict (.ref a) (.ref C) (.str name tk) name v false) (λfin s'=>∃ u,fin=.done (.ret u)/\Q () s') (λ_ _=>False) ⟨h,g,d,t+1,os⟩) :
  wpAny (model prog w) A (setAttr (.ref a) name v) Q E ⟨h,g,d,t,os⟩:=by
 obtain ⟨nm,q,N,bs,sn,sub,ab,col,dd,k0,k1,k2,k3,k5,mN,hC,hn,hni,T⟩:=I.ex;have SF:=PySem.F.store_object;have L1:=O.type (M:=model prog w);have L2':=looks_findIn (M:=model prog w) X sa;have L3:=looks_findIn (M:=model prog w) X nn;have L4:Looks (model prog w) h (isInstance (.ref a) (.type "object")) true:=L1.andThen (looks_subIn X F.so);refine Aa (wpAny_mkText (Aa (Aa (Aa (L1 _ _ _ _ (λ_ _ e=>e) (L2' _ _ _ _ (λ_ _ e=>e) (Bz ?_)))))));rw [SF.slot.bind];refine Aa (Ag (Aa (Ez ?_)));refine Eh SF.slot.plain SF.entry (@check_slot (model prog w) _ _ _ "object.__setattr__" "object" "__setattr__" (.ref a) [.str name t,v] [] _ SF.kind SF.split L4 (SF.args (.ref a) (.str name t) v) ?_);show wpAny _ _ (AI.«object.__setattr__» ⟨[.ref a,.str name t,v],[]⟩) _ _ _;rw [osa_eq,refuse_eq];refine Aa (Aa (L1.here (Aa (wpAny_mroOf_exc hC ?_))));rw [refuseLoop_ref,refuseLoop_ref,tK];refine Ag (Aa (L1.here (Aa (L3.here (Aa (Ag ?_))))));refine BX (hq _ t) (λfin s' z=>?_) λ_ _ z=>z.elim;obtain ⟨u,rfl,z⟩:=z;exact Ag (Ag z)
def yM (I:ClsI h C P f)(O:ExAt h a o C)(hd:o.dict=none)(hf:o.data=.fields us)(hq:Q (some h.objs.size) ⟨(h.push { cls:=.type "dict",data:=.dict #[] }).update a λob=>{ ob with dict:=some h.objs.size },g,d,t,os⟩):wpAny (model prog w) A (instanceDict a true) Q E ⟨h,g,d,t,os⟩:=by
 obtain ⟨nm,q,N,bs,sn,sub,ab,col,dd,k0,k1,k2,k3,k5,mN,hC,hn,hni,T⟩:=I.ex;have hx:=O.at_;obtain ⟨oc,od,odt,osl⟩:=o;have hc:=O.cls;dsimp only at hd hf hc;subst hd hf hc;have hx1:(h.push { cls:=.type "dict",data:=.dict #[] }).get? a=some ⟨.ref C,none,.fields us,osl⟩:=Ad _ hx;unfold instanceDict
 repeat (first|with_reducible refine CG hx ?_|with_reducible refine CG hC ?_|wp_step)
 exact hq
def yL (I:ClsI h C P f)(O:ExAt h a o C)(hd:o.dict=some dx)(hq:Q (some dx) ⟨h,g,d,t,os⟩)(b:Bool):wpAny (model prog w) A (instanceDict a b) Q E ⟨h,g,d,t,os⟩:=by
 obtain ⟨nm,q,N,bs,sn,sub,ab,col,dd,k0,k1,k2,k3,k5,mN,hC,hn,hni,T⟩:=I.ex;have hx:=O.at_;obtain ⟨oc,od,odt,osl⟩:=o;have hc:=O.cls;dsimp only at hd hc;subst hd hc;unfold instanceDict
 repeat (first|with_reducible refine CG hx ?_|with_reducible refine CG hC ?_|wp_step)
 exact hq
def qV {tk:Tok}(hn:h.Ns1 dx mA)(hw:Within mA ns)(hz:ns.length<=100)(hq:∀ h' tk',h'.Ns1 dx (λy=>if y=name then some v else mA y)->(∀ b ob,b≠dx->h.get? b=some ob->h'.get? b=some ob)->Q (.done (.ret .none)) ⟨h',g,d,tk',os⟩) :
  wpAny (model prog w) A (storeInDict dx (.str name tk) name v) Q E ⟨h,g,d,t,os⟩:=by
 unfold storeInDict newKeyGuard;refine Aa (Ag (Aa (wpAny_nsSet1 hn λh' hn' hs=>?_)));obtain ⟨oD,esD,epD,hoD,hdD,hcD⟩:=hn'.count (Within.cons name v hw);refine Aa (wpAny_lookBehind hoD (by rw [hdD];exact pastItsLine_dict (AU hcD (by rw [AZ,sizeLine_eq];omega))) ?_);exact Ag (hq h' _ hn' λb ob nb q=>(hs.2 b nb).trans q)
def qB (X:K.In h)(I:ClsI h C P f)(F:ExK K C)(sa:findIn K (.ref C) "__setattr__" = some (some (.builtin "object.__setattr__")))(nn:findIn K (.ref C) name=some none)(O:ExAt h a o C)(hd:o.dict=none)(hf:o.data=.fields us)(hq:∀ h' tk,h'.Ns1 h.objs.size (λy=>if y=name then some v else none)->h'.get? a=some { o with dict:=some h.objs.size }->(∀ b ob,b≠a->h.get? b=some ob->h'.get? b=some ob)->Q () ⟨h',g,d,tk,os⟩) :
  wpAny (model prog w) A (setAttr (.ref a) name v) Q E ⟨h,g,d,t,os⟩:=by
 refine iC X I F sa nn O λA' tk=>?_;have hx:=O.at_;have ne:a≠h.objs.size:=As (Aq hx);have hx1:(h.push { cls:=.type "dict",data:=.dict #[] }).get? a=some o:=Ad _ hx;unfold storeInOwnDict;refine Aa (Ag ?_);show wpAny _ _ (ownDictForStores (.ref a) >>= _) _ _ _;refine Aa (yM I O hd hf ?_);have hgd:((h.push { cls:=.type "dict",data:=.dict #[] }).update a λob=>{ ob with dict:=some h.objs.size }).get? h.objs.size=some { cls:=.type "dict",data:=.dict #[] }:=
  (AY _ _ ne).trans (Heap.get?_push_at rfl rfl)
 have hga:((h.push { cls:=.type "dict",data:=.dict #[] }).update a λob=>{ ob with dict:=some h.objs.size }).get? a=some { o with dict:=some h.objs.size }:=by
  refine BR _ hx1 ?_;obtain ⟨oc,od,odt,osl⟩:=o;dsimp only at hf;subst hf;rfl
 have hnd:((h.push { cls:=.type "dict",data:=.dict #[] }).update a λob=>{ ob with dict:=some h.objs.size }).Ns h.objs.size (λ_=>none):=⟨_,#[],_,hgd,rfl,λe he=>absurd he (by simp),λ_=>rfl⟩;refine qV (Heap.Ns1.of_empty hnd) (ns:=[]) Within.nil (by decide) λh' tk' hn' hk=>⟨_,rfl,hq h' tk' hn' (hk a _ ne hga) λb ob nb q=>hk b ob (As (Aq q)) ?_⟩;exact (AY _ _ (Bg nb)).trans (Ad _ q)
def nO (X:K.In h)(I:ClsI h C P f)(F:ExK K C)(sa:findIn K (.ref C) "__setattr__" = some (some (.builtin "object.__setattr__")))(nn:findIn K (.ref C) name=some none)(O:ExAt h a o C)(hd:o.dict=some dx)(hn:h.Ns1 dx mA)(hw:Within mA ns)(hz:ns.length<=100)(hq:∀ h' tk,h'.Ns1 dx (λy=>if y=name then some v else mA y)->(∀ b ob,b≠dx->h.get? b=some ob->h'.get? b=some ob)->Q () ⟨h',g,d,tk,os⟩) :
  wpAny (model prog w) A (setAttr (.ref a) name v) Q E ⟨h,g,d,t,os⟩:=by
 refine iC X I F sa nn O λA' tk=>?_;unfold storeInOwnDict;refine Aa (Ag ?_);show wpAny _ _ (ownDictForStores (.ref a) >>= _) _ _ _;refine Aa (yL I O hd ?_ true);exact qV hn hw hz λh' tk' hn' hk=>⟨_,rfl,hq h' tk' hn' hk⟩
end
structure ExF (K:Frag)(C P f:Addr)(x:Str):Prop where
 i:ExI K C P f
 sa:findIn K (.ref C) "__setattr__" = some (some (.builtin "object.__setattr__"))
 nn:findIn K (.ref C) x=some none
def xdE (a:Addr)(fs:List (Str×V)):HO:=.ext λh=>∃ mA,h.Ns1 a mA/\(∀ g,RelO (fs.lookup g) (mA g))/\Within mA (fs.map (·.1))
def aB7 {w:World}{fs:List (Str×V)}(n:h.Ns1 a mA)(r:∀ g,RelO (fs.lookup g) (mA g))(wi:Within mA (fs.map (·.1))):ObjOk P w H h a (xdE a fs):=by
 obtain ⟨o,es,ep,e,q⟩:=id n;exact ⟨⟨mA,n,r,wi⟩,⟨o,e⟩,λh1 h2 ⟨m,n1,r1,w1⟩ k=>⟨m,n1.at k,r1,w1⟩⟩
def aC1 {w:World}{dd:Option Addr}(e:h.get? a=some o)(c:o.cls=.ref C)(dq:o.dict=dd)(fd:o.data=.fields #[t,.none,.none,.none,.bool false,.none]):ObjOk P w H h a (exN a C dd):=
 ⟨⟨o,t,⟨e,c,dq⟩,fd⟩,⟨o,e⟩,λh1 h2 ⟨o,t,⟨e1,e2,e3⟩,e4⟩ k=>⟨o,t,⟨k o e1,e2,e3⟩,e4⟩⟩
section
variable {X:Cx}{pins:List (Addr×Obj)}{σ:St}{H:Hp}{s:Shared}{o e value:Expr}{x:Str}{pos pos':Pos}{ta tv:TE}{C P f:Addr}
def Inv.trackNew (I:Inv X pins σ H s)(I':Inv X pins σ H' s')(hex:X.ex=[])(n:s.heap.get? a=none)(hn:H' a=none)(ok:ObjOk X.prog X.w (upd H' a u) s'.heap a u):Inv X pins σ (upd H' a u) s':=by
 refine I'.track hn (I.absent0 hex n) (λz=>?_) (λy c q z=>?_) (λp q z=>?_) ok
 ·obtain ⟨m,⟨oL,_,_,hoL,_⟩,_⟩:=I.loc
  rw [<- z,n] at hoL;cases hoL
 ·obtain ⟨v,o,ho,_⟩:=I.cell y c q
  rw [z,n] at ho;cases ho
 ·have:=(I.pin p q).1
  rw [z,n] at this;cases this
def sExN (K:Frag)(C P f:Addr)(ta tv:TE)(x:Str):TS:=λD σ H=>tv σ H λy H1=>ta σ H1 λz H2=>∃ a,z=.ref a/\H2 a=some (exN a C none)/\ExF K C P f x /\
 ∀ dx,H2 dx=none->dx≠a->D.nx σ (upd (upd H2 a (exN a C (some dx))) dx (xdE dx [(x,y)]))
def mU (hex:X.ex=[])(ha:PE X o ta)(hv:PE X value tv)(hs:swapsWith value (some (.Attribute o x pos')) pos.line X.env=pure false):PS X (.Assign [.Attribute o x pos'] value pos) (sExN X.K C P f ta tv x):=by
 intro pins s σ H D I h;refine EU (thn (hv pins s σ H _ I h) λu s1 ⟨y,H1,I1,ry,q⟩=>thn (ha pins s1 σ H1 _ I1 q) λov s2 ⟨z,H2,I2,rx,a,ez,ea,F,q2⟩=>?_) hs;subst ez;obtain rfl:ov=AC a:=rx;obtain ⟨⟨ob,t',⟨o1,o2,o3⟩,o4⟩,_⟩:=I2.hok _ _ ea;have nz:s2.heap.get? s2.heap.objs.size=none:=Heap.get?_none_of_le (Aj _);have Hz:H2 s2.heap.objs.size=none:=I2.hok.fresh (Aj _);have ne:s2.heap.objs.size≠a:=Dw (Aq o1);obtain ⟨hh,g,d,tk,os⟩:=s2;refine qB I2.kIn (lY I2.kIn F.i.xi) F.i.k F.sa F.nn ⟨o1,o2⟩ o3 o4 λh' tk' hn' ga ks=>?_;have J1:Inv X pins σ (upd H2 a (exN a C (some hh.objs.size))) ⟨h',g,d,tk',os⟩:=by
  refine I2.write (x:=a) (e:=a) (t':=tk') (by rw [ea];exact Ds) (.inl rfl) ks ⟨_,ga⟩ ?_;exact aC1 ga o2 rfl o4
 have J2:=I2.trackNew J1 (a:=hh.objs.size) (u:=xdE hh.objs.size [(x,y)]) hex nz (by rw [aI ne];exact Hz) (aB7 hn' (λg=>?_) (λg hg=>?_))
 ·exact ⟨σ,_,J2,q2 _ Hz ne⟩
 ·by_cases z:g=x
  ·subst z
   simp only [Dx,beq_self_eq_true,if_true];exact ry
  ·have:([(x,y)]:List (Str×V)).lookup g=none:=by
    simp only [Dx];rw [beq_eq_false_iff_ne.mpr z]
   rw [this,if_neg z];exact Ds
 ·by_cases z:g=x
  ·rw [z];simp
  ·rw [if_neg z] at hg
   exact absurd rfl hg
end
section
variable {prog:Av}{w:World}{A:Around}{E:Value->Shared->Prop}{h:Heap}{g:Array GenState}{d:Drawn}{t:Nat}{os:OsState}{K:Frag}{C P f a:Addr}{o:Obj}{v:Value}
def uN {rest:List Value}(I:ClsI h C P f)(O:ExAt h a o C)(hf:o.data=.fields us)(h0:us[0]?=some a0)(hz:rest.length<=Au)(hq:Q .none ⟨(h.push { cls:=.type "tuple",data:=.seq rest.toArray }).update a (DW (·.setIfInBounds 0 (.ref h.objs.size))),g,d,t,os⟩) :
  wpAny (model prog w) A (call (.builtin "ValueError.__init__") (.ref a::rest)) Q E ⟨h,g,d,t,os⟩:=by
 obtain ⟨nm,q,N,bs,sn,sub,ab,col,dd,k0,k1,k2,k3,k5,mN,hC,hn,hni,T⟩:=I.ex;have F:=PySem.F.excBase_ValueError;have z0:0<us.size:=(Ct.mp h0).1;have g1:=Ad (h:=h) { cls:=.type "tuple",data:=.seq rest.toArray } O.at_;refine Ez (Eh F.init.plain F.initEntry (wpAny_check_init_subU F T hC O.at_ O.cls ?_));unfold AI.«BaseException.__init__»;dsimp only;rw [if_neg (by simp)];unfold newTuple AI.BaseException.bexcPut;refine Aa (Ba ?_ (by show rest.toArray.size<=Au;rw [Ak];exact hz));refine Aa (Aa (BO g1 hf h0 (Aa (EZ g1 hf z0 ?_))));split
 ·refine wpAny_letGo ?_
  exact Ag hq
 ·exact Ag (Ag hq)
end
structure BaseI (K:Frag)(P:Addr):Prop where
 rd:readsIn K P (.type "type")=true
 fc:findCls K (.ref P) (.type "type") "__init__" = some (.val (.builtin "ValueError.__init__"))
 ga:specialIn K (.ref P) "__getattribute__" = some (some (.builtin "type.__getattribute__"))
section
variable {X:Cx}{C P f:Addr}{x:Str}{p apos pos:Pos}{e₁ e₂:Expr}{t:TA}
def aCd (K:Frag)(P:Addr)(t:TA):TE:=λσ H Q=>t σ H λvs H1=>∃ a C dd f txt,vs=[.ref a,.str txt]/\H1 a=some (exN a C dd)/\ExI K C P f/\Q .non H1
theorem aFx (h:H a=some o):upd H a o=H:=by
 funext b
 by_cases z:b=a
 ·rw [z,aB,h]
 ·rw [aI z]
def gL {pl:Sem Bool}(hg:Gl X x)(hm:X.mg x=some (.ref P))(B:BaseI X.K P)(ha:PA X [e₁,e₂] t)(hdb:(x==("__debug__":Str))=false:=by decide)
  (hst:AQ [e₁,e₂] X.env=(false,eval e₁ X.env)::AQ [e₂] X.env:=by rfl) (hpl:(backTo pos (AQ [e₂] X.env)).any (·.1)=false:=by rfl)
  (ht:eval (.Call (.Attribute (.Name x p) "__init__" apos) [e₁,e₂] [] pos) X.env=(do
   let ov <- eval (.Name x p) X.env
   standAt apos.atName
   let (f,first) <- holding [ov] (getMethod ov "__init__" pl)
   callWith pos f first (backTo pos (AQ [e₁,e₂] X.env)) (backToKw pos (keywordEach [] X.env))):=by rfl) :
  PE X (.Call (.Attribute (.Name x p) "__init__" apos) [e₁,e₂] [] pos) (aCd X.K P t):=by
 intro pins s σ H Q I h;refine PySem.W.methodCall_KW (pl:=pl) (fR I hg hm ?_ hdb) ht;refine method_cls I.kIn B.ga (cls_value I.kIn B.rd B.fc rfl ?_);have I0:=I.tok (s.toks+1);have hA:=ha pos pins _ σ H _ I0 h;rw [hst] at hA ⊢;refine DE (by show (false||(backTo pos (AQ [e₂] X.env)).any (·.1))=false;rw [hpl]<;>rfl) (ES (thn hA λus s2 ⟨vs,H2,I2,r2,a,C,dd,f,txt,e1,ea,F,q2⟩=>?_));subst e1;obtain ⟨u1,u2,rfl,ra,rt⟩:=r2.two;obtain rfl:u1=AC a:=ra;obtain ⟨⟨ob,t',⟨o1,o2,o3⟩,o4⟩,_⟩:=I2.hok _ _ ea;obtain ⟨hh,g,d,tk,os⟩:=s2;refine uN (lY I2.kIn F.xi) ⟨o1,o2⟩ o4 rfl zLn1 ?_;have g1:=Ad (h:=hh) { cls:=.type "tuple",data:=.seq [u2].toArray } o1;have d1:=Ey o4 (·.setIfInBounds 0 (AC hh.objs.size));have g2:=BR (DW (·.setIfInBounds 0 (AC hh.objs.size))) g1 (EM d1);have J:Inv X pins σ (upd H2 a (exN a C dd)) ⟨(hh.push { cls:=.type "tuple",data:=.seq [u2].toArray }).update a (DW (·.setIfInBounds 0 (.ref hh.objs.size))),g,d,tk,os⟩:=by
  refine I2.write (x:=a) (e:=a) (t':=tk) (by rw [ea];exact Ds) (.inl rfl) (λb u nb q=>?_) ⟨_,g2⟩ ?_
  ·exact (AY _ _ (Bg nb)).trans (Ad _ q)
  ·exact aC1 g2 ((Obj.cls_mapFields _ _).trans o2) ((zA _ _).trans o3) d1
 rw [aFx ea] at J;exact ⟨.non,H2,J,rfl,q2⟩
def tExF (K:Frag)(ta:TE)(x:Str):TE:=λσ H Q=>ta σ H λz H1=>∃ a C P f dx fs v,z=.ref a/\H1 a=some (excD a C (some dx))/\H1 dx=some (xdE dx fs)/\ExF K C P f x/\fs.lookup x=some v/\Q v H1
end
end L2
namespace L2
open PySem PySem.Spec PyProof.Rows PySem.W
def FmtV:V->Str->Prop
 |.int i,x=>i.natAbs.log2<1920/\x=(toString i:String)
 |.str y,x=>y.length<=Au/\x=y
 |.non,x=>x = "None"
 |_,_=>False
def tFmt (ta:TE):TE:=λσ H Q=>ta σ H λv H1=>∃ x,FmtV v x/\Q (.str x) H1
abbrev TJ:=Str->St->Hp->(Str->Hp->Prop)->Prop
def PJ (X:Cx)(es:List Expr)(t:TJ):Prop:=
 ∀ (acc:Str) (pins:List (Addr×Obj)) (s:Shared) (σ:St) (H:Hp) (Q:Str->Hp->Prop),Inv X pins σ H s->t acc σ H Q->wpAny (model X.prog X.w) X.A (joinParts acc (evalEach es X.env)) (EP X pins σ λv H'=>∃ x,v=.str x/\Q x H') X.xe s
def jNil:TJ:=λacc _ H Q=>acc.length<=Au/\Q acc H
def uD (te:TE)(tr:TJ):TJ:=λacc σ H Q=>te σ H λv H1=>∃ x,v=.str x/\(acc++x).length<=Au/\tr (acc++x) σ H1 Q
def aF7 (t:TJ):TE:=λσ H Q=>t Str.empty σ H λx H'=>Q (.str x) H'
section
variable {X:Cx}{value e e':Expr}{es:List Expr}{ta te:TE}{tr t:TJ}{pos:Pos}
def fZ (ha:PE X value ta):PE X (.FormattedValue value (-1) none pos) (tFmt ta):=by
 intro pins s σ H Q I h;refine FormattedValue_plain (thn (ha pins s σ H _ I h) λu s1 ⟨v,H1,I1,rv,x,fx,q⟩=>?_);cases v with
 |int i=>
  obtain ⟨t,rfl⟩:=rv;obtain ⟨hl,rfl⟩:=fx;exact formatField_int_small hl ⟨.str _,H1,I1.tok _,⟨_,rfl⟩,q⟩
 |str y=>
  obtain ⟨t,rfl⟩:=rv;obtain ⟨hl,rfl⟩:=fx;exact formatField_str (λt' tk=>⟨.str x,H1,I1.tok _,⟨_,rfl⟩,q⟩) hl
 |non=>
  cases rv;cases fx;exact wpAny_formatField_none ⟨.str _,H1,I1.tok _,⟨_,rfl⟩,q⟩
 |bl _=>exact fx.elim
 |byt _=>exact fx.elim
 |flt _=>exact fx.elim
 |ref _=>exact fx.elim
 |ty _=>exact fx.elim
def mW:PJ X [] jNil:=λacc pins s σ H Q I h=>joinParts_nil ⟨.str acc,H,I.tok _,⟨_,rfl⟩,acc,rfl,h.2⟩ h.1
def bI (he:PE X e te)(hr:PJ X es tr):PJ X (e::es) (uD te tr):=by
 intro acc pins s σ H Q I h;show wpAny _ _ (joinParts acc (eval e X.env::evalEach es X.env)) _ _ _;refine joinParts_cons (thn (he pins s σ H _ I h) λu s1 ⟨v,H1,I1,rv,x,ev,hz,q⟩=>?_);subst ev;obtain ⟨t,rfl⟩:=rv;exact ⟨hz,hr _ pins s1 σ H1 Q I1 q⟩
def jI (h:PJ X (e::e'::es) t):PE X (.JoinedStr (e::e'::es) pos) (aF7 t):=by
 intro pins s σ H Q I hw;refine JoinedStr_many (thn (h _ pins s σ H _ I hw) λu s1 ⟨v,H1,I1,rv,x,ev,q⟩=>?_);subst ev;exact ⟨.str x,H1,I1,rv,q⟩
end
def Its (x:Str):It:=⟨λi _=>∃ c,x.cps[i]?=some c,λi H v H'=>H'=H/\∃ c,x.cps[i]?=some c/\v=.str ⟨#[c]⟩,λi _=>x.cps[i]?=none⟩
def aAe {P:Av}{w:World}{K:Frag}{tg:Expr}(x:Str)(t:Tok)(it:Addr)(b:Bool) :
  Turn P w K tg (Its x) [it] it (λi h=>h.IsStrIter it (if b then "str_ascii_iterator" else "str_iterator") x t i) where
 mem:=by simp
 obj:=λi h st a ha=>by
  have e:a=it:=by simpa using ha
  subst e;obtain ⟨o,e,c,d⟩:=st;exact ⟨o,e,λv z=>by rw [d] at z;cases z⟩
 keep:=λi h h' ⟨o,e,r⟩ k=>⟨o,k it (by simp) o e,r⟩
 item:=by
  intro X hP hw hK hc i pins s σ H E I hf st hg;subst hP hw hK;obtain ⟨c,hx⟩:=hg;obtain ⟨f0,f1,f2,f3,f4,f5⟩:=hf it (by simp);have go:∀ h',h'.IsStrIter it (if b then "str_ascii_iterator" else "str_iterator") x t (i+1)->Cj it s.heap h' ->
    ∃ u,(some (Value.str ⟨#[c]⟩ s.toks))=some u/\wpAny (model X.prog X.w) X.A (Fs tg (.ref it) u) (λ_ s2=>∃ v H',Inv X pins σ H' s2/\RelV v u/\(Its x).yld i H v H'/\s2.heap.IsStrIter it (if b then "str_ascii_iterator" else "str_iterator") x t (i+1)/\∀ b∈[it],H' b=none) E { s with heap:=h',toks:=s.toks+1 }:=by
   intro h' st' sb;have I1:Inv X pins σ H { s with heap:=h',toks:=s.toks+1 }:=I.turned (t':=s.toks+1) (λb o hb e=>(sb.2 b hb).trans e) f0 f1 f3 f4 f5;obtain ⟨o,e,cc,d⟩:=id st';exact ⟨_,rfl,uF (s:={ s with heap:=h',toks:=s.toks+1 }) e cc d (by cases b<;>decide) ⟨.str ⟨#[c]⟩,H,I1,⟨_,rfl⟩,⟨rfl,c,hx,rfl⟩,st',λb hb=>(hf b hb).1⟩⟩
  cases b with
  |true=>exact wpAny_pyNext_ascii_item st hx go
  |false=>exact wpAny_pyNext_wide_item st hx go
 done:=by
  intro X hP hw hK hc i pins s σ H E I hf st hg;subst hP hw hK;obtain ⟨f0,f1,f2,f3,f4,f5⟩:=hf it (by simp);cases b with
  |true=>exact wpAny_pyNext_ascii_end (I.ok.hd hc) st hg λh' eb=>⟨rfl,I.turned (t':=s.toks) (λb o hb e=>eb b o hb e) f0 f1 f3 f4 f5⟩
  |false=>exact wpAny_pyNext_wide_end (I.ok.hd hc) st hg λh' eb=>⟨rfl,I.turned (t':=s.toks) (λb o hb e=>eb b o hb e) f0 f1 f3 f4 f5⟩
 self:=λ_ _ _ _ _ st h=>by
  cases b with
  |true=>exact wpAny_pyIter_striter_ascii st h
  |false=>exact wpAny_pyIter_striter_wide st h
def iStr (tl:TE):TI:=λσ H R=>tl σ H λv H1=>∃ x,v=.str x/\R (Its x) H1
section
variable {X:Cx}
def aCs {tg l:Expr}{tl:TE}(hl:PE X l tl):PI X tg l (iStr tl):=by
 intro pins s σ H R I h;refine thn (hl pins s σ H _ I h) λv s1 ⟨y,H1,I1,r1,x,ey,q⟩=>?_;subst ey;obtain ⟨t,rfl⟩:=r1;have fin:∀ b:Bool,PIE X pins σ tg R (.ref s1.heap.objs.size) { s1 with heap:=s1.heap.push { cls:=.type (if b then "str_ascii_iterator" else "str_iterator"),data:=.fields #[.str x t,.int 0 0] } }:=by
  intro b;refine ⟨s1.heap.objs.size,[s1.heap.objs.size],_,_,H1,rfl,I1.kept (t':=s1.toks) λb o e=>Ad _ e,aAe x t _ b,⟨_,Ai _ rfl,rfl,rfl⟩,λb hb=>?_,q⟩;have e:b=s1.heap.objs.size:=by simpa using hb
  subst e;exact I1.fpOk (Aj _) (I1.hok.fresh (Aj _))
 cases ha:x.cps.all (·<128) with
 |true=>exact wpAny_pyIter_ascii ha (fin true)
 |false=>exact wpAny_pyIter_wide ha (fin false)
end
def rPart:V->List V->Hp->VK->Prop:=λz vs H Q=>∃ x y,z=.str x/\vs=[.str y]/\(y.length==0)=false/\x.length<=Au/\∀ p,H p=none->Q (.ref p) (upd H p (.tup [.str (Txt.partition x y).1,.str (Txt.partition x y).2.1,.str (Txt.partition x y).2.2]))
def rSplit:V->List V->Hp->VK->Prop:=λz vs H Q=>∃ x y,z=.str x/\vs=[.str y]/\(y.length==0)=false/\x.length+2<=Au/\∀ p,H p=none->Q (.ref p) (upd H p (.lst ((Txt.split x y).map V.str)))
section
variable {X:Cx}
end
section
variable {X:Cx}
def aAg {w:World}{b:Bool}(h:Q b s):wpAny (model prog w) A (truthy (.bool b)) Q E s:=by
 cases b<;>exact Ag h
def range_any {bs:List Bool}:(AF bs.length).any (λi=>bs.getD i false)=bs.any id:=by
 rw [CC];simp only [List.any_eq_true,Cp,id];constructor
 ·rintro ⟨i,hi,h⟩
  exact ⟨bs[i],Dg hi,by simpa [List.getD,hi] using h⟩
 ·rintro ⟨b,hb,h⟩
  obtain ⟨i,hi,rfl⟩:=List.getElem_of_mem hb;exact ⟨i,hi,by simpa [List.getD,hi] using h⟩
theorem range_all {bs:List Bool}:(AF bs.length).all (λi=>bs.getD i false)=bs.all id:=by
 rw [CC];simp only [Cf,Cp,id];constructor
 ·intro h b hb
  obtain ⟨i,hi,rfl⟩:=List.getElem_of_mem hb
  simpa [List.getD,hi] using h i hi
 ·intro h i hi
  simpa [List.getD,hi] using h bs[i] (Dg hi)
def tD {σ:St}(I:Inv X pins σ H s)(hc:X.calm=true){p:Addr}{bs:List Bool}(hq:SqL X.K H p (bs.map V.bl)){E:Value->Shared->Prop}{k:(Nat->Bool)->Nat->Bool}(q:Q (.bl (k (λi=>bs.getD i false) bs.length)) H) :
  wpAny (model X.prog X.w) X.A.in1 (pyIter (.ref p)) (λit s₂=>∃ J fp wr n P St tr,it=.ref J/\Walks X.prog X.w X.A.in1 J fp wr n P St/\St 0 s₂.heap/\TruthOf X.prog X.w X.A.in1 P tr /\
   ∀ h' tk,(∀ b o,b∉wr->s₂.heap.get? b=some o->h'.get? b=some o)->EP X pins σ Q (.bool (k tr n)) { s₂ with heap:=h',toks:=tk }) E s:=by
 obtain ⟨its,rv,pl,hz⟩:=I.list hq;have hl:=rv.length;rw [Af] at hl;have ne:p≠s.heap.objs.size:=by
  obtain ⟨o,n,e,_⟩:=pl;exact As (Aq e)
 refine wpAny_pyIter_list pl.isList ?_;have keep:∀ b o,s.heap.get? b=some o->(s.heap.push { cls:=.type "list_iterator",data:=.fields #[.ref p,.int 0 0] }).get? b=some o:=λb o e=>Ad _ e;refine ⟨s.heap.objs.size,_,_,_,_,_,λi=>bs.getD i false,rfl,Walks.list (A:=X.A.in1) (show X.A.in1.handled=none from I.ok.hd hc) s.heap.objs.size p ne its.toArray,⟨⟨_,Ai _ rfl,rfl,rfl⟩,pl.isList.at λo e=>keep p o e⟩,?_,?_⟩
 ·intro i v s' Q' E' hv hQ
  have hv':its[i]?=some v:=by simpa using hv
  have hi:i<bs.length:=by rw [hl];exact (Ae.mp hv').1
  obtain ⟨u,hu,ru⟩:=rv.get (show (bs.map V.bl)[i]?=some (.bl bs[i]) by simp [hi]);rw [hv'] at hu;cases hu;cases ru;have e:bs.getD i false=bs[i]:=by simp [List.getD,hi]
  dsimp only at hQ;rw [e] at hQ;exact aAg hQ
 ·intro h' tk kp
  have J:Inv X pins σ H { s with heap:=h',toks:=tk }:=I.kept (t':=tk) λb o e=>kp b o (by
   have lt:=Aq e;intro z;have z':b=s.heap.objs.size:=by simpa using z
   rw [z'] at lt;exact CA _ lt) (keep b o e)
  have es:its.toArray.size=bs.length:=by rw [Ak];omega
  rw [es];exact ⟨.bl _,H,J,rfl,q⟩
def jW (hc:X.calm=true):fG X (.builtin "all") (λxs H Q=>∃ p,∃ bs:List Bool,xs=[.ref p]/\SqL X.K H p (bs.map V.bl)/\Q (.bl (bs.all id)) H):=by
 intro pins s σ H xs us Q I r h;obtain ⟨p,bs,rfl,hq,q⟩:=h;obtain ⟨u,rfl,rx⟩:=vals1 r;cases rx;exact call_all_walk (tD I hc hq (k:=λtr n=>(AF n).all tr) (by rw [range_all];exact q))
def aG9 (hu:X.A.units+64<cLine):OpR X (Bl .Eq) (λx y H Q=>∃ a b xs,x=.ref a/\y=.ref b/\SqL X.K H a xs/\SqL X.K H b []/\Q (.bl xs.isEmpty) H):=by
 intro pins s σ H x y v u Q I rx ry h;obtain ⟨a,b,xs,rfl,rfl,ha,hb,q⟩:=h;cases rx;cases ry;obtain ⟨its,r,p,_⟩:=I.list ha;obtain ⟨its',r',p',_⟩:=I.list hb;cases r';cases r with
 |nil=>exact SeqAt.RcAt.lists (A:=X.A) (e:=λ_=>true) p.isList p'.isList rfl (by omega) (λj h1=>absurd h1 (by simp)) X.prog X.w X.xe _ ⟨.bl _,H,I,rfl,q⟩
 |cons r t=>exact SeqAt.RcAt.lists_lengths (A:=X.A) p.isList p'.isList rfl (by omega) X.prog X.w X.xe _ ⟨.bl _,H,I,rfl,q⟩
end
end L2
namespace TM
open PySem PySem.NumText
def dg (n:Nat):List Nat:=(Nat.toDigits 10 n).map Char.toNat
def aH4 {n:Nat}(h:n<10^60):(dg n).length<=60:=by
 unfold dg;rw [Af];exact PyProof.Rows.digits10_le (by decide) h
structure Fig (cs:List Nat):Prop where
 ne:cs≠[]
 len:cs.length<=60
 all:AllDigits cs
 no:cs.head?=some 48->cs.length=1
def Reads (L:List Nat)(t b:Nat):Prop:=
 (Fig L/\t=digitsVal L/\b=1)\/∃ p q,L=p++47::q/\Fig p/\Fig q/\t=digitsVal p/\b=digitsVal q/\2<=b/\Nat.gcd t b=1
def showL (t b:Nat):List Nat:=if b=1 then dg t else dg t++47::dg b
end TM
namespace TM
open PySem PySem.StrLaws PySem.Builtin PySem.Builtin.Str
abbrev cps (x:Str):List Nat:=x.cps.toList
abbrev sl:Str:=⟨#[47]⟩
def ext (h:cps x=cps y):x=y:=by
 obtain ⟨⟨a⟩⟩:=x;obtain ⟨⟨b⟩⟩:=y;have h':a=b:=h;rw [h']
theorem dR (x y:Str):cps (x++y)=cps x++cps y:=by
 show (x.cps++y.cps).toList=_;rw [Array.toList_append]
end TM
namespace L2
open PySem PySem.Spec PyProof.Rows PySem.W
def rCount:V->List V->Hp->VK->Prop:=λx vs H Q=>∃ l xs y,x=.ref l/\vs=[y]/\H l=some (.lst xs)/\eW y=true/\xs.all eW=true/\Q (.int ((xs.countP λz=>eqV z y:Nat):Int)) H
def rIndex:V->List V->Hp->VK->Prop:=λx vs H Q=>∃ l xs y,∃ j:Nat,∃ z,x=.ref l/\vs=[y]/\H l=some (.lst xs)/\eW y=true/\xs.all eW=true/\xs[j]?=some z/\eqV z y=true /\
 (∀ m z,m<j->xs[m]?=some z->eqV z y=false)/\Q (.int (j:Int)) H
section
variable {X:Cx}
end
def Nx (n i:Nat)(P:Prop):Prop:=∃ m',m'<n-i/\m'=n-(i+1)/\i+1<=n/\P
def Nx.mk {n i:Nat}{P:Prop}(h:i<n)(p:P):Nx n i P:=⟨n-(i+1),by omega,rfl,h,p⟩
def oB {σ:St}:BlkN X N' scope cl σ (Co N'.length none):=by
 refine ⟨by simp,λi x v h1 h2=>?_⟩;rw [List.getElem?_replicate] at h2;split at h2<;>cases h2
def aB1 {D:Addr}{x:Str}{g:TG}{tt:TT}{te:TE}{σ0:St}{QD:Hp->Prop}{H1:Hp}(Pv:Nat->List V->Hp->Prop)(h0:Pv 0 [] (upd H1 D (.lst [])))
  (hl:∀ i ys H,i<=x.cps.toList.length->Pv i ys H->H D=some (.lst ys)/\ys.length<Au)
  (hs:∀ i c ys H,x.cps.toList[i]?=some c->Pv i ys H->g (.str ⟨#[c]⟩) σ0 H λσ2 H2=>Keep σ0 σ2/\tt σ2 H2 λb H3=>if b=true then te σ2 H3 λy H4=>H4 D=some (.lst ys)/\Nx x.cps.toList.length i (Pv (i+1) (ys++[y]) (upd H4 D (.lst (ys++[y])))) else Nx x.cps.toList.length i (Pv (i+1) ys H3))
  (hd:∀ ys H,Pv x.cps.toList.length ys H->QD H) :
  ∃ W:Nat->Nat->List V->Hp->Prop,(∃ m,W 0 m [] (upd H1 D (.lst []))) /\
   ∀ i m ys H,W i m ys H->H D=some (.lst ys)/\ys.length<Au /\
    (((Its x).stop i H/\QD H)\/((Its x).go i H/\∀ v H',(Its x).yld i H v H'->g v σ0 H' λσ2 H2=>Keep σ0 σ2/\tt σ2 H2 λb H3=>
     if b=true then te σ2 H3 λy H4=>H4 D=some (.lst ys)/\∃ m',m'<m/\W (i+1) m' (ys++[y]) (upd H4 D (.lst (ys++[y]))) else ∃ m',m'<m/\W (i+1) m' ys H3)):=by
 refine ⟨λi m ys H=>m=x.cps.toList.length-i/\i<=x.cps.toList.length/\Pv i ys H,⟨x.cps.toList.length,by simp,Bi _,h0⟩,?_⟩
 rintro i m ys H ⟨rfl,hi,p⟩
 obtain ⟨hD,hz⟩:=hl i ys H hi p;refine ⟨hD,hz,?_⟩
 by_cases hlt:i<x.cps.toList.length
 ·have e:x.cps[i]?=some x.cps.toList[i]:=by rw [<- AW];exact Ac hlt
  refine .inr ⟨⟨_,e⟩,λv H' y=>?_⟩;obtain ⟨rfl,c,hc,rfl⟩:=y;exact hs i c ys _ (by rw [AW];exact hc) p
 ·have e:i=x.cps.toList.length:=by omega
  subst e;refine .inl ⟨?_,hd ys H p⟩;show x.cps[x.cps.toList.length]?=none;rw [<- AW];exact Ax (Aj _)
end L2
namespace L2
open PySem PySem.Spec PyProof.Rows
def dcE (a:Addr):HO:=.ext λh=>∃ o,h.get? a=some o/\o.cls=.type "dict"
def tDict0:TE:=λ_ H Q=>∀ p,H p=none->Q (.ref p) (upd H p (dcE p))
section
variable {X:Cx}{pos:Pos}
def IsiD (K:Ab)(H:Hp)(v:V)(T:String)(b:Bool):Prop:=Isi K H v T b\/∃ a,v=.ref a/\H a=some (dcE a)/\T = "str" /\ b=false
def zP:fG X (.builtin "isinstance") (λxs H Q=>∃ x T b,xs=[x,.ty T]/\IsiD X.K H x T b/\Q (.bl b) H):=by
 intro pins s σ H xs us Q I r h;obtain ⟨x,T,b,rfl,hi|⟨a,rfl,hH,rfl,rfl⟩,q⟩:=h
 ·exact dX pins s σ H _ us Q I r ⟨x,T,b,rfl,hi,q⟩
 ·obtain ⟨u,w',rfl,rx,ry⟩:=vals2 r
  cases ry;cases rx;obtain ⟨⟨o,e,c⟩,_⟩:=I.hok a _ hH;exact IsiPair.dict_str e c ⟨.bl false,H,I.tok _,rfl,q⟩
end
section
variable {prog:Av}{w:World}{A:Around}{E:Value->Shared->Prop}{s:Shared}
def aDj {i:Nat}(st:s.heap.IsTupleIter it t i)(hl:s.heap.IsTuple t its)(hx:its[i]?=some x)(q:∀ g,g.IsTupleIter it t (i+1)->Cj it s.heap g->Q x { s with heap:=g }):wpAny (model prog w) A (Bk (.ref it)) Q E s:=by
 obtain ⟨ob,e1,e2,e3⟩:=id st;obtain ⟨ot,e4,_,m,e5⟩:=hl;unfold Bk;refine Aa (BA (name:=CS "__next__") st.typeIs Ed (Bs Ed st.typeIs F.entry_tuple_iterator_next ?_ (F.args_tuple_iterator_next_1 _)));refine Aa (m:=field (.ref it) 0) (BO e1 e3 (x:=.ref t) rfl ?_);show wpAny _ _ (if (AC t==BV)=true then _ else (field (.ref it) 1 >>= _)) _ _ s;rw [if_neg (show ¬ (AC t==BV)=true from (λz=>nomatch z))];refine Aa (BO e1 e3 (x:=.int i 0) rfl (Aa (m:=seqItems? (.ref t)) (CZ e4 e5 ?_)));simp only [Cm,hx];refine Aa (EZ e1 e3 (by simp) (Ag ⟨x,rfl,Ag (q _ ⟨_,BR _ e1 (EM (Ey e3 _)),(Obj.cls_mapFields ..).trans e2,?_⟩ (EE ..))⟩));rw [Ey e3];simp [rawInt]
def aDi {i:Nat}(hh:A.handled=none)(st:s.heap.IsTupleIter it t i)(hl:s.heap.IsTuple t its)(hx:its[i]?=none)(q:∀ g e,Heap.ExtBut it s.heap g->(∃ o,g.get? e=some o/\o.cls=.type "StopIteration")->E (.ref e) { s with heap:=g }):wpAny (model prog w) A (Bk (.ref it)) Q E s:=by
 obtain ⟨ob,e1,e2,e3⟩:=id st;obtain ⟨ot,e4,_,m,e5⟩:=hl;unfold Bk;refine Aa (BA (name:=CS "__next__") st.typeIs Ed (Bs Ed st.typeIs F.entry_tuple_iterator_next ?_ (F.args_tuple_iterator_next_1 _)));refine Aa (m:=field (.ref it) 0) (BO e1 e3 (x:=.ref t) rfl ?_);show wpAny _ _ (if (AC t==BV)=true then _ else (field (.ref it) 1 >>= _)) _ _ s;rw [if_neg (show ¬ (AC t==BV)=true from (λz=>nomatch z))];refine Aa (BO e1 e3 (x:=.int i 0) rfl (Aa (m:=seqItems? (.ref t)) (CZ e4 e5 ?_)));simp only [Cm,hx];refine Aa (Dz (Aa (EZ e1 e3 (by simp) (Aa (m:=newExc (.type "StopIteration") []) ?_))));simp only [newExc,newTuple];refine Aa (Ba (Aa (m:=firstArgMember _ _) (Eu (a:=BV) (by first|rfl|(simp only [firstArgMember];rfl)) (Ba ?_ (by size_fits)))) (by size_fits));simp only [raiseNew];refine Aa (wpAny_handled ?_)
 first|rw [show A.in1.handled=none from hh]|rw [hh]
 exact Aa (Ag (wpAny_throw (q _ _ (((EE ..).extBut.push _).push _) ⟨_,Ai _ rfl,rfl⟩)))
def iP (hh:A.handled=none)(it t:Addr)(hne:t≠it)(its:Array Value) :
  Draws prog w A it [it,t] its.size (λi v=>its[i]?=some v) (λi h=>h.IsTupleIter it t i/\h.IsTuple t its) where
 live:=λ_ _ z=>let ⟨o,e,_⟩:=z.1;⟨o,e⟩
 frame:=λ_ _ _ z k=>⟨z.1.at λo e=>k it (by simp) o e,z.2.at λo e=>k t (by simp) o e⟩
 item:=λi s Q E hi z k=>aDj z.1 z.2 (x:=its[i]) (by simp [hi]) λg z' sb=>k _ g s.toks (by simp [hi]) ⟨z',z.2.extBut sb.extBut hne⟩ sb
 done:=λs Q E z k=>aDi hh z.1 z.2 (by simp) k
structure Ap (z TI TO i1 i2:Addr)(f1 f2:List Addr):Prop where
 a1:∀ b∈f1,b≠z/\b≠TO/\b≠i2
 a2:∀ b∈f2,b≠z/\b≠TO/\b≠i1
 m1:i1∈f1
 m2:i2∈f2
 tz:TI≠z
 tO:TI≠TO
 t1:TI≠i1
 t2:TI≠i2
 oz:TO≠z
section
variable {z TI TO i1 i2:Addr}{f1 f2:List Addr}{n1 n2 k:Nat}{P1 P2:Nat->Value->Prop}{S1 S2:Nat->Heap->Prop}{a b:Value}
def aDg {Q:Value->Shared->Prop}(D1:Draws prog w A i1 f1 n1 P1 S1)(D2:Draws prog w A i2 f2 n2 P2 S2)(ap:Ap z TI TO i1 i2 f1 f2)(hz:IsZip s.heap z TI TO .none)(hI:IsPair s.heap TI (.ref i1) (.ref i2))(hO:IsPair s.heap TO a b)
  (h1:S1 k s.heap) (h2:S2 k s.heap) (l1:k<n1) (l2:k<n2)
  (q:∀ x y T g t',P1 k x->P2 k y->T=s.heap.objs.size->IsZip g z TI TO (rawInt T)->IsPair g TO x y->S1 (k+1) g->S2 (k+1) g->IsPair g T x y->(∀ c o,c≠z->c≠TO->c≠i1->c≠i2->s.heap.get? c=some o->g.get? c=some o)->Q (.ref T) { s with heap:=g,toks:=t' }) :
  wpAny (model prog w) A (AI.«zip.__next__» ⟨[.ref z],[]⟩) (λfin s'=>∃ v,fin=.done (.ret v)/\Q v s') E s:=by
 have z1:=ap.a1 i1 ap.m1;have z2:=ap.a2 i2 ap.m2;refine Aa (m:=field (.ref z) 2) (BO hz rfl (x:=.bool false) rfl (Aa (m:=field (.ref z) 3) (BO hz rfl (x:=.ref TI) rfl (Aa (CZ hI rfl (Aa (m:=Cz (.ref z)) ?_))))));unfold Cz;refine Aa (BO hz rfl (x:=.none) rfl (Ag ?_));simp only [if_true];refine Aa (Dz (Aa (BO hz rfl (x:=.ref TO) rfl (Aa (Cu hz (by simp) λga ca sa=>Aa ?_)))));replace ca:IsZip ga z TI TO .ellipsis:=ca;have ka:∀ c o,c≠z->s.heap.get? c=some o->ga.get? c=some o:=λc o n e=>sa.extBut _ _ n e;simp only [List.zipIdx_cons,List.zipIdx_nil,List.forIn_cons,List.forIn_nil];refine Aa (Aa (wpAny_onRaise (Aa (m:=Bk (.ref i1)) (D1.item k _ _ _ l1 (D1.frame _ _ _ h1 λc hc o e=>ka c o (ap.a1 c hc).1 e) λx gb tb px sb cb=>Ag ?_))));have kb:∀ c o,c≠z->c≠i1->s.heap.get? c=some o->gb.get? c=some o:=λc o n n' e=>cb.extBut _ _ n' (ka c o n e);have hOb:IsPair gb TO a b:=kb _ _ ap.oz (λe=>z1.2.1 e.symm) hO;refine Aa (CZ hOb rfl (Aa (wpAny_updateSeq_pair hOb λgc hOc cc=>Aa (wpAny_letGo (Ag ?_)))));replace hOc:IsPair gc TO x b:=hOc;have kc:∀ c o,c≠z->c≠i1->c≠TO->s.heap.get? c=some o->gc.get? c=some o:=λc o n n' n2 e=>cc.extBut _ _ n2 (kb c o n n' e);have sc1:S1 (k+1) gc:=D1.frame _ _ _ sb λc hc o e=>cc.extBut _ _ (ap.a1 c hc).2.1 e;refine Aa (Aa (wpAny_onRaise (Aa (m:=Bk (.ref i2)) (D2.item k _ _ _ l2 (D2.frame _ _ _ h2 λc hc o e=>kc c o (ap.a2 c hc).1 (ap.a2 c hc).2.2 (ap.a2 c hc).2.1 e) λy gd td py sd cd=>Ag ?_))));have hOd:IsPair gd TO x b:=cd.extBut _ _ (λe=>z2.2.1 e.symm) hOc;refine Aa (CZ hOd rfl (Aa (wpAny_updateSeq_pair hOd λge hOe ce=>Aa (wpAny_letGo (Ag (Ag ?_))))));replace hOe:IsPair ge TO x y:=hOe;have ke:∀ c o,c≠z->c≠TO->c≠i1->c≠i2->s.heap.get? c=some o->ge.get? c=some o:=λc o n n1 n2 n3 e=>ce.extBut _ _ n1 (cd.extBut _ _ n3 (kc c o n n2 n1 e));have hze:IsZip ge z TI TO .ellipsis:=ce.extBut _ _ (Bg ap.oz) (cd.extBut _ _ (Bg z2.1) (cc.extBut _ _ (Bg ap.oz) (cb.extBut _ _ (Bg z1.1) ca)));have se1:S1 (k+1) ge:=D1.frame _ _ _ sc1 λc hc o e=>ce.extBut _ _ (ap.a1 c hc).2.1 (cd.extBut _ _ (ap.a1 c hc).2.2 e);have se2:S2 (k+1) ge:=D2.frame _ _ _ sd λc hc o e=>ce.extBut _ _ (ap.a2 c hc).2.1 e;have szs:s.heap.objs.size=ge.objs.size:=by rw [ce.1,cd.1,cc.1,cb.1,sa.1]
 refine Aa (CZ hOe rfl (Aa (wpAny_newTuple (Aa (m:=Fi (.ref z) (.ref ge.objs.size)) ?_))));unfold Fi;have zl:z<ge.objs.size:=Aq hze;refine Aa (Cu (show IsZip (ge.push { cls:=.type "tuple",data:=.seq #[x,y] }) z TI TO .ellipsis from Ad _ hze) (by simp) λgf cf sf=>?_);replace cf:IsZip gf z TI TO (rawInt ge.objs.size):=cf;refine Cu cf (by simp) λgg cg sg=>Ag ⟨_,rfl,?_⟩;replace cg:IsZip gg z TI TO (rawInt ge.objs.size):=cg;have up:∀ c o,c≠z->ge.get? c=some o->gg.get? c=some o:=λc o n e=>sg.extBut _ _ n (sf.extBut _ _ n (Ad _ e));have hT:IsPair gg ge.objs.size x y:=sg.extBut _ _ (Dw zl) (sf.extBut _ _ (Dw zl) (Ai _ rfl));exact q x y ge.objs.size gg _ px py szs.symm cg (up _ _ ap.oz hOe) (D1.frame _ _ _ se1 λc hc o e=>up c o (ap.a1 c hc).1 e) (D2.frame _ _ _ se2 λc hc o e=>up c o (ap.a2 c hc).1 e) hT λc o n n1 n2 n3 e=>up c o n (ke c o n n1 n2 n3 e)
def aDf (D1:Draws prog w A i1 f1 n1 P1 S1)(D2:Draws prog w A i2 f2 n2 P2 S2)(ap:Ap z TI TO i1 i2 f1 f2)(hz:IsZip s.heap z TI TO .none)(hI:IsPair s.heap TI (.ref i1) (.ref i2))(hO:IsPair s.heap TO a b)(h1:S1 k s.heap)(h2:S2 k s.heap)(hk:k=n1\/(k<n1/\k=n2))(q:∀ g e t',(∀ c o,c≠z->c≠TO->c≠i1->c≠i2->s.heap.get? c=some o->g.get? c=some o)->(∃ o,g.get? e=some o/\o.cls=.type "StopIteration")->E (.ref e) { s with heap:=g,toks:=t' }) :
  wpAny (model prog w) A (AI.«zip.__next__» ⟨[.ref z],[]⟩) Q E s:=by
 have z1:=ap.a1 i1 ap.m1;have z2:=ap.a2 i2 ap.m2;refine Aa (m:=field (.ref z) 2) (BO hz rfl (x:=.bool false) rfl (Aa (m:=field (.ref z) 3) (BO hz rfl (x:=.ref TI) rfl (Aa (CZ hI rfl (Aa (m:=Cz (.ref z)) ?_))))));unfold Cz;refine Aa (BO hz rfl (x:=.none) rfl (Ag ?_));simp only [if_true];refine Aa (Dz (Aa (BO hz rfl (x:=.ref TO) rfl (Aa (Cu hz (by simp) λga ca sa=>Aa ?_)))));replace ca:IsZip ga z TI TO .ellipsis:=ca;have ka:∀ c o,c≠z->s.heap.get? c=some o->ga.get? c=some o:=λc o n e=>sa.extBut _ _ n e;simp only [List.zipIdx_cons,List.zipIdx_nil,List.forIn_cons,List.forIn_nil]
 rcases hk with e|⟨l1,e⟩
 ·subst e
  refine Aa (Aa (wpAny_onRaise (Aa (m:=Bk (.ref i1)) (D1.done _ _ _ (D1.frame _ _ _ h1 λc hc o e=>ka c o (ap.a1 c hc).1 e) λgb e cb he=>?_))));obtain ⟨oe,h3,h4⟩:=he;have hzb:IsZip gb z TI TO .ellipsis:=cb _ _ (Bg z1.1) ca;have hez:e≠z:=λx=>by rw [x,hzb] at h3;cases h3;simp at h4
  exact Cu hzb (by simp) λgc _ cc=>q gc e s.toks (λc o n _ n2 _ x=>cc.extBut _ _ n (cb _ _ n2 (ka c o n x))) ⟨oe,cc.extBut _ _ hez h3,h4⟩
 ·subst e
  refine Aa (Aa (wpAny_onRaise (Aa (m:=Bk (.ref i1)) (D1.item k _ _ _ l1 (D1.frame _ _ _ h1 λc hc o e=>ka c o (ap.a1 c hc).1 e) λx gb tb px sb cb=>Ag ?_))));have kb:∀ c o,c≠z->c≠i1->s.heap.get? c=some o->gb.get? c=some o:=λc o n n' e=>cb.extBut _ _ n' (ka c o n e);have hOb:IsPair gb TO a b:=kb _ _ ap.oz (λe=>z1.2.1 e.symm) hO;refine Aa (CZ hOb rfl (Aa (wpAny_updateSeq_pair hOb λgc hOc cc=>Aa (wpAny_letGo (Ag ?_)))));have kc:∀ c o,c≠z->c≠i1->c≠TO->s.heap.get? c=some o->gc.get? c=some o:=λc o n n' n2 e=>cc.extBut _ _ n2 (kb c o n n' e);refine Aa (Aa (wpAny_onRaise (Aa (m:=Bk (.ref i2)) (D2.done _ _ _ (D2.frame _ _ _ h2 λc hc o e=>kc c o (ap.a2 c hc).1 (ap.a2 c hc).2.2 (ap.a2 c hc).2.1 e) λgd e cd he=>?_))));obtain ⟨oe,h3,h4⟩:=he;have hzd:IsZip gd z TI TO .ellipsis:=cd _ _ (Bg z2.1) (cc.extBut _ _ (Bg ap.oz) (cb.extBut _ _ (Bg z1.1) ca));have hez:e≠z:=λx=>by rw [x,hzd] at h3;cases h3;simp at h4
  exact Cu hzd (by simp) λge _ ce=>q ge e tb (λc o n n1 n2 n3 x=>ce.extBut _ _ n (cd _ _ n3 (kc c o n n2 n1 x))) ⟨oe,ce.extBut _ _ hez h3,h4⟩
def aIe {Q:Option Value->Shared->Prop}(D1:Draws prog w A.in1 i1 f1 n1 P1 S1)(D2:Draws prog w A.in1 i2 f2 n2 P2 S2)(ap:Ap z TI TO i1 i2 f1 f2)(hz:IsZip s.heap z TI TO .none)(hI:IsPair s.heap TI (.ref i1) (.ref i2))(hO:IsPair s.heap TO a b)
  (h1:S1 k s.heap) (h2:S2 k s.heap) (l1:k<n1) (l2:k<n2)
  (q:∀ x y T g t',P1 k x->P2 k y->T=s.heap.objs.size->IsZip g z TI TO (rawInt T)->IsPair g TO x y->S1 (k+1) g->S2 (k+1) g->IsPair g T x y->(∀ c o,c≠z->c≠TO->c≠i1->c≠i2->s.heap.get? c=some o->g.get? c=some o)->Q (some (.ref T)) { s with heap:=g,toks:=t' }) :
  wpAny (model prog w) A (pyNext (.ref z)) Q E s:=by
 have ty:s.TypeIs (.ref z) "zip":=⟨_,hz,rfl⟩;unfold pyNext;exact Aa (DG (BA (name:=CS "__next__") ty F.slot_zip_next (Bs F.slot_zip_next ty F.entry_zip_next (aDg D1 D2 ap hz hI hO h1 h2 l1 l2 λx y T g t' c1 c2 c3 c4 c5 c6 c7 c8 c9=>Ag (q x y T g t' c1 c2 c3 c4 c5 c6 c7 c8 c9)) (F.args_zip_next_1 _))))
def uQ (D1:Draws prog w A.in1 i1 f1 n1 P1 S1)(D2:Draws prog w A.in1 i2 f2 n2 P2 S2)(ap:Ap z TI TO i1 i2 f1 f2)(hz:IsZip s.heap z TI TO .none)(hI:IsPair s.heap TI (.ref i1) (.ref i2))(hO:IsPair s.heap TO a b)(h1:S1 k s.heap)(h2:S2 k s.heap)(hk:k=n1\/(k<n1/\k=n2))(q:∀ g t',(∀ c o,c≠z->c≠TO->c≠i1->c≠i2->s.heap.get? c=some o->g.get? c=some o)->Q none { s with heap:=g,toks:=t' }):wpAny (model prog w) A (pyNext (.ref z)) Q E s:=by
 have ty:s.TypeIs (.ref z) "zip":=⟨_,hz,rfl⟩;unfold pyNext;refine Aa (DG (BA (name:=CS "__next__") ty F.slot_zip_next (Bs F.slot_zip_next ty F.entry_zip_next (aDf D1 D2 ap hz hI hO h1 h2 hk λg e t' kp he=>?_) (F.args_zip_next_1 _))));obtain ⟨o,h3,h4⟩:=he;exact Aa (Fh (T:="StopIteration") (b:=true) ⟨o,h3,h4⟩ isSubtype_stop (Ag (q _ _ kp)))
end
end
def Itz (K:Ab)(a b:Addr):It:=
  ⟨λi H=>∃ xs ys,SqT K H a xs/\SqL K H b ys/\i<xs.length/\i<ys.length,
   λi H v H'=>∃ T,H T=none/\v=.ref T/\∀ xs ys,SqT K H a xs->SqL K H b ys->∃ x y,xs[i]?=some x/\ys[i]?=some y/\H'=upd H T (.tup [x,y]),
   λi H=>∃ xs ys,SqT K H a xs/\SqL K H b ys/\(i=xs.length\/(i<xs.length/\i=ys.length))⟩
def Inv.turnedL {X:Cx}{pins:List (Addr×Obj)}{σ:St}{H:Hp}{s:Shared}{h':Heap}{t':Nat}{ch:List Addr}(I:Inv X pins σ H s)(k:∀ b o,b∉ch->s.heap.get? b=some o->h'.get? b=some o)(hf:∀ b∈ch,FpOk X pins H b):Inv X pins σ H { s with heap:=h',toks:=t' }:=by
 have nit:∀ b u,H b=some u->b∉ch:=λb u e z=>by rw [(hf b z).1] at e;cases e
 refine I.step (g':=s.gens) (d':=s.drawn) (ch:=ch) (λb hb=>⟨(hf b hb).2.2.2.1,(hf b hb).2.1,(hf b hb).2.2.2.2.1,(hf b hb).2.2.2.2.2⟩) (λb o _ _ hc e _=>k b o hc e) (λb o _ _ hc e _=>⟨o.slots,k b o hc e⟩) (λ_ _ _ _ n=>n)
  (λb o hc e=>⟨o,k b o hc e⟩) (λ_ _ e=>e) (λ_ _ _ e=>e) (λb ps e=>⟨#[],by rw [e];simp⟩) (λm hm=>?_) (λb u e=>?_) I.bare
 ·obtain ⟨o,es,ep,ho,r⟩:=hm
  exact ⟨o,es,ep,k _ o (λz=>(hf _ z).2.1 rfl) ho,r⟩
 ·refine (I.hok b u e).stay (λc v hc q=>k c v ?_ q) (λ_ q=>q) λ_ _ q=>q
  rcases hc with z|z
  ·rw [z];exact nit b u e
  ·exact nit c _ z
def ZipSt (n a b:Nat)(i:Nat)(h:Heap):Prop:=IsZip h (n+4) (n+2) (n+3) .none/\IsPair h (n+2) (.ref n) (.ref (n+1))/\(∃ x y,IsPair h (n+3) x y)/\h.IsTupleIter n a i/\h.IsListIter (n+1) b i
def aDb {n a b:Nat}(ha:a<n)(hb:b<n):Ap (n+4) (n+2) (n+3) n (n+1) [n,a] [n+1,b] where
 a1:=λc hc=>by
  have hc':c=n\/c=a:=by simpa using hc
  rcases hc' with e|e<;>(subst e;exact ⟨by show (_:Nat)≠_;omega,by show (_:Nat)≠_;omega,by show (_:Nat)≠_;omega⟩)
 a2:=λc hc=>by
  have hc':c=n+1\/c=b:=by simpa using hc
  rcases hc' with e|e<;>(subst e;exact ⟨by show (_:Nat)≠_;omega,by show (_:Nat)≠_;omega,by show (_:Nat)≠_;omega⟩)
 m1:=by simp
 m2:=by simp
 tz:=by show (_:Nat)≠_;omega
 tO:=by show (_:Nat)≠_;omega
 t1:=by show (_:Nat)≠_;omega
 t2:=by show (_:Nat)≠_;omega
 oz:=by show (_:Nat)≠_;omega
abbrev zo1 (h:Heap)(a:Addr):Heap:=h.push { cls:=.type "tuple_iterator",data:=.fields #[.ref a,.int 0 0] }
abbrev zo2 (h:Heap)(a b:Addr):Heap:=(zo1 h a).push { cls:=.type "list_iterator",data:=.fields #[.ref b,.int 0 0] }
abbrev zo3 (h:Heap)(a b:Addr):Heap:=(zo2 h a b).push { cls:=.type "tuple",data:=.seq #[.ref h.objs.size,.ref (zo1 h a).objs.size] }
abbrev zo4 (h:Heap)(a b:Addr):Heap:=(zo3 h a b).push { cls:=.type "tuple",data:=.seq #[.none,.none] }
abbrev zo5 (h:Heap)(a b:Addr):Heap:=(zo4 h a b).push { cls:=.type "zip",data:=.fields #[.none,.bool false,.bool false,.ref (zo2 h a b).objs.size,.ref (zo3 h a b).objs.size] }
def iZip (K:Ab)(ta:TA):TI:=λσ H R=>ta σ H λvs H1=>∃ a b,vs=[.ref a,.ref b]/\(∃ xs,SqT K H1 a xs)/\(∃ ys,SqL K H1 b ys)/\R (Itz K a b) H1
def aH8:Ce "zip" = some (.type "zip"):=by decide +kernel
def aEs {X:Cx}{K:Ab}(h:X.K=K)(hu:X.A.units+64<cLine):OpR X (Bl .NotEq) (rNeI K):=h▸nG hu
section
variable {κ:Type}[DecidableEq κ]
def valV (kvs:List (κ×V))(k:κ):Option V:=(kvs.find? λkv=>decide (kv.1=k)).map (·.2)
def putK (kvs:List (κ×V))(k:κ)(v:V):List (κ×V):=
 if (kvs.any λkv=>decide (kv.1=k))=true then kvs.map (λkv=>if kv.1=k then (kv.1,v) else kv) else kvs++[(k,v)]
def aFn (kvs:List (κ×V))(k:κ):List (κ×V):=kvs.filter λkv=>decide (kv.1≠k)
theorem dG {p:κ×V}{r:List (κ×V)}{k:κ}(e:p.1=k):valV (p::r) k=some p.2:=by simp [valV,DO,e]
theorem dH {p:κ×V}{r:List (κ×V)}{k:κ}(e:¬ p.1=k):valV (p::r) k=valV r k:=by simp [valV,DO,e]
theorem eX (k:κ):∀ kvs:List (κ×V),(kvs.any λkv=>decide (kv.1=k))=(valV kvs k).isSome
 |[]=>rfl
 |p::r=>by
  rw [List.any_cons]
  by_cases e:p.1=k
  ·simp only [dG e,decide_eq_true e,Bool.true_or,Option.isSome_some]
  ·rw [dH e,decide_eq_false e,Bool.false_or];exact eX k r
theorem qP (k j:κ)(y:V):∀ kvs:List (κ×V),valV (kvs.map λkv=>if kv.1=k then (kv.1,y) else kv) j=(valV kvs j).map λx=>if j=k then y else x
 |[]=>rfl
 |p::r=>by
  have ih:=qP k j y r;rw [An]
  by_cases h:p.1=k
  ·rw [if_pos h]
   by_cases e:p.1=j
   ·rw [dG (p:=(p.1,y)) e,dG e,CT,if_pos (e.symm.trans h)]
   ·rw [dH (p:=(p.1,y)) e,dH e,ih]
  ·rw [if_neg h]
   by_cases e:p.1=j
   ·rw [dG (p:=p) e,dG e,CT,if_neg (λz=>h (e.trans z))]
   ·rw [dH (p:=p) e,dH e,ih]
theorem mF (k j:κ)(y:V):∀ kvs:List (κ×V),valV kvs k=none->valV (kvs++[(k,y)]) j=if j=k then some y else valV kvs j
 |[],_=>by
  by_cases e:k=j
  ·rw [if_pos e.symm];exact dG (p:=(k,y)) e
  ·rw [if_neg (λz=>e z.symm)];exact dH (p:=(k,y)) e
 |p::r,hn=>by
  rw [List.cons_append];have hk:¬ p.1=k:=λz=>by rw [dG z] at hn;cases hn
  rw [dH hk] at hn;have ih:=mF k j y r hn
  by_cases e:p.1=j
  ·rw [dG e,dG e,if_neg (λz=>hk (e.trans z))]
  ·rw [dH e,dH e,ih]
theorem qN (kvs:List (κ×V))(k j:κ)(y:V):valV (putK kvs k y) j=if j=k then some y else valV kvs j:=by
 unfold putK
 by_cases a:(kvs.any λkv=>decide (kv.1=k))=true
 ·rw [if_pos a,qP]
  rw [eX] at a
  by_cases e:j=k
  ·obtain ⟨x,hx⟩:=Option.isSome_iff_exists.mp a
   rw [if_pos e,e,hx,CT,if_pos rfl]
  ·rw [if_neg e]
   cases valV kvs j with
   |none=>rfl
   |some x=>rw [CT,if_neg e]
 ·rw [if_neg a]
  refine mF k j y kvs ?_;rw [eX] at a;cases q:valV kvs k with
  |none=>rfl
  |some x=>rw [q] at a;exact (a rfl).elim
def gB (kvs:List (κ×V))(k:κ)(v:V):(putK kvs k v).length<=kvs.length+1:=by
 unfold putK;split
 ·rw [Af];omega
 ·rw [Ay,AZ,List.length_nil];omega
theorem RelO.isSome_eq (r:RelO o u):o.isSome=u.isSome:=by
 cases o with
 |none=>cases u with
  |none=>rfl
  |some _=>exact (show False from r).elim
 |some _=>cases u with
  |none=>exact (show False from r).elim
  |some _=>rfl
theorem RelO.getD (r:RelO o u)(rd:RelV d d'):RelV (o.getD d) (u.getD d'):=by
 cases o with
 |none=>cases u with
  |none=>exact rd
  |some _=>exact (show False from r).elim
 |some _=>cases u with
  |none=>exact (show False from r).elim
  |some _=>exact r
theorem KV.val (r:KV kvs vs)(k:κ):RelO (valV kvs k) (valueAt vs k):=by
 unfold KV at r
 induction r with
 |nil=>exact Ds
 |@cons p q ps qs h t ih=>
  obtain ⟨h1,h2⟩:=h
  by_cases e:p.1=k
  ·have e':q.1=k:=h1.symm.trans e
   have b:valueAt (q::qs) k=some q.2:=by simp [valueAt,DO,e']
   rw [dG e,b];exact h2
  ·have e':¬ q.1=k:=λz=>e (h1.trans z)
   have b:valueAt (q::qs) k=valueAt qs k:=by simp [valueAt,DO,e']
   rw [dH e,b];exact ih
theorem KV.any (r:KV kvs vs)(k:κ):(kvs.any λkv=>decide (kv.1=k))=vs.any λkv=>decide (kv.1=k):=by
 unfold KV at r
 induction r with
 |nil=>rfl
 |cons h t ih=>rw [List.any_cons,List.any_cons,ih,h.1]
def KV.repl (r:KV kvs vs)(k:κ)(ry:RelV y u) :
  KV (kvs.map λkv=>if kv.1=k then (kv.1,y) else kv) (vs.map λkv=>if kv.1=k then (kv.1,u) else kv):=by
 unfold KV at r ⊢
 induction r with
 |nil=>exact .nil
 |@cons p q ps qs h t ih=>
  rw [An,An];refine .cons ?_ ih;obtain ⟨h1,h2⟩:=h
  by_cases e:p.1=k
  ·rw [if_pos e,if_pos (h1.symm.trans e)];exact ⟨h1,ry⟩
  ·rw [if_neg e,if_neg (λz=>e (h1.trans z))];exact ⟨h1,h2⟩
def KV.put (r:KV kvs vs)(k:κ)(ry:RelV y u):KV (putK kvs k y) (stored vs k u):=by
 unfold putK stored;rw [r.any k]
 by_cases e:(vs.any λkv=>decide (kv.1=k))=true
 ·rw [if_pos e,if_pos e];exact r.repl k ry
 ·rw [if_neg e,if_neg e];exact Paired.snoc r ⟨rfl,ry⟩
theorem KV.keys {kvs:List (κ×V)}{vs:List (κ×Value)}(r:KV kvs vs):kvs.map (·.1)=vs.map (·.1):=by
 unfold KV at r
 induction r with
 |nil=>rfl
 |cons h t ih=>rw [An,An,ih,h.1]
theorem KV.length (r:KV kvs vs):kvs.length=vs.length:=Paired.length r
end
def uC {w:World}{k:Key}(r:RelV (kV k) u):(bD P w).is k u=true:=by
 cases k with
 |inl i=>obtain ⟨t,e⟩:=(show ∃ t,u=Value.int i t from r);subst e;exact pT P w i t
 |inr x=>obtain ⟨t,e⟩:=(show ∃ t,u=Value.str x t from r);subst e;exact pS P w x t
theorem nM {w:World}:∀ {ks:List Key} {us:List Value},Vals (ks.map kV) us->ItemsAre (bD P w) ks us
 |[],_,r=>by rw [List.map_nil] at r;cases r;exact .nil
 |k::ks,_,r=>by
  rw [An] at r;cases r with
  |cons h t=>exact .cons (uC h) (nM t)
abbrev KT (H:Hp):List (List Key×V)->List (List Key×Addr×Value)->Prop:=Paired λp q=>p.1=q.1/\H q.2.1=some (.tup (p.1.map kV))/\RelV p.2 q.2.2
theorem KT.val (r:KT H kvs xs)(k:List Key):RelO (valV kvs k) ((atKey xs k).map (·.2)):=by
 induction r with
 |nil=>exact Ds
 |@cons p q ps qs h t ih=>
  obtain ⟨h1,_,h2⟩:=h
  by_cases e:p.1=k
  ·have e':q.1=k:=h1.symm.trans e
   have b:atKey (q::qs) k=some q.2:=by simp [atKey,DO,e']
   rw [dG e,b];exact h2
  ·have e':¬ q.1=k:=λz=>e (h1.trans z)
   have b:atKey (q::qs) k=atKey qs k:=by simp [atKey,DO,e']
   rw [dH e,b];exact ih
def KT.repl (r:KT H kvs xs)(k:List Key)(ry:RelV y u) :
  KT H (kvs.map λkv=>if kv.1=k then (kv.1,y) else kv) (xs.map (putAt k u)):=by
 induction r with
 |nil=>exact .nil
 |@cons p q ps qs h t ih=>
  rw [An,An];refine .cons ?_ ih;obtain ⟨h1,h2,h3⟩:=h;unfold putAt
  by_cases e:p.1=k
  ·rw [if_pos e,if_pos (h1.symm.trans e)];exact ⟨h1,h2,ry⟩
  ·rw [if_neg e,if_neg (λz=>e (h1.trans z))];exact ⟨h1,h2,h3⟩
def KT.put (r:KT H kvs xs)(k:List Key)(hb:H b=some (.tup (k.map kV)))(ry:RelV y u) :
  KT H (putK kvs k y) (storedH xs k b u):=by
 have e:(kvs.any λkv=>decide (kv.1=k))=(atKey xs k).isSome:=by
  rw [eX,(r.val k).isSome_eq,Option.isSome_map]
 unfold putK storedH;rw [e]
 by_cases q:(atKey xs k).isSome=true
 ·rw [if_pos q,if_pos q];exact r.repl k ry
 ·rw [if_neg q,if_neg q];exact Paired.snoc r ⟨rfl,hb,ry⟩
def KT.keeps (r:KT H kvs xs)(ht:∀ b ys,H b=some (.tup ys)->H' b=some (.tup ys)):KT H' kvs xs:=
 Paired.mapP r λ_ _ z=>⟨z.1,ht _ _ z.2.1,z.2.2⟩
section
variable {P:Av}{w:World}{H:Hp}{h:Heap}{a:Addr}
def aGt (ok:HOk P w H h)(e:Rd H a u):ObjOk P w H h a u:=e.ok ok
def yZ (ok:HOk P w H h)(e:Rd H a (.dK kvs)):kvs.length<=Au/\(a==DB)=false/\∃ vs,KV kvs vs/\h.DictOf (bD P w) a vs:=
 show ObjOk P w H h a (.dK kvs) from aGt ok e
def uJ (ok:HOk P w H h)(e:H a=some (.dK kvs)):kvs.length<=Au/\(a==DB)=false/\∃ vs,KV kvs vs/\h.DictOf (bD P w) a vs:=yZ ok (.inl e)
def rW (ok:HOk P w H h)(e:H a=some (.tup (ks.map kV))):(tupleKind (bD P w)).is h ks a:=by
 obtain ⟨_,its,r,o,h1,h2,n,h3⟩:=(show ObjOk P w H h a (.tup (ks.map kV)) from ok a _ e);exact ⟨o,its.toArray,n,h1,h2,h3,by simpa using nM r⟩
def yY (ok:HOk P w H h)(e:Rd H a (.dT kvs)):kvs.length<=Au/\(a==DB)=false /\
  ∃ xs,KT H kvs xs/\h.DictOfH (tupleKind (bD P w)) a xs:=by
 obtain ⟨z,y,xs,r,o,es,ep,h1,h2,h3,h4,h5⟩:=(show ObjOk P w H h a (.dT kvs) from aGt ok e);refine ⟨z,y,xs,r,o,es,ep,h1,h2,h3,h4,λx hx=>?_,h5⟩;have all:∀ {l:List (List Key×V)} {m:List (List Key×Addr×Value)},KT H l m->∀ x∈m,(tupleKind (bD P w)).is h x.1 x.2.1:=by
  intro l m q
  induction q with
  |nil=>intro x hx;exact nomatch hx
  |@cons p q ps qs hq t ih=>
   intro x hx
   rcases AA.mp hx with e|hx
   ·subst e
    exact rW ok (by rw [<- hq.1];exact hq.2.1)
   ·exact ih x hx
 exact all r x hx
def aJl (ok:HOk P w H h)(e:H a=some (.dT kvs)):kvs.length<=Au/\(a==DB)=false /\
  ∃ xs,KT H kvs xs/\h.DictOfH (tupleKind (bD P w)) a xs:=yY ok (.inl e)
end
def DGet (H:Hp)(a:Addr)(y:V)(r:Option V):Prop:=
 (∃ kvs k,Rd H a (.dK kvs)/\y=kV k/\r=valV kvs k)\/∃ kvs k b,Rd H a (.dT kvs)/\y=.ref b/\H b=some (.tup (k.map kV))/\r=valV kvs k
def DPut (H:Hp)(a:Addr)(y v:V)(H':Hp):Prop:=
 (∃ kvs k,H a=some (.dK kvs)/\y=kV k/\kvs.length<Au/\H'=upd H a (.dK (putK kvs k v))) \/
 ∃ kvs k b,H a=some (.dT kvs)/\y=.ref b/\H b=some (.tup (k.map kV))/\kvs.length<Au/\H'=upd H a (.dT (putK kvs k v))
theorem DGet.k {k:Key}(e:H a=some (.dK kvs)):DGet H a (kV k) (valV kvs k):=.inl ⟨kvs,k,.inl e,rfl,rfl⟩
theorem DPut.k {k:Key}(e:H a=some (.dK kvs))(hl:kvs.length<Au):DPut H a (kV k) v (upd H a (.dK (putK kvs k v))):=.inl ⟨kvs,k,e,rfl,hl,rfl⟩
section
variable {X:Cx}{pins:List (Addr×Obj)}{σ:St}{H:Hp}{s:Shared}{a:Addr}{y v:V}{u r:Value}{o:Option V}{A:Around}{E:Value->Shared->Prop}
def Inv.big (I:Inv X pins σ H s):DB<s.heap.objs.size:=by
 have h:AD<s.heap.objs.size:=(I.mod.glob.keeps I.bk).lt;exact Ej (by decide) h
def zG (hu:A.units+1<cLine)(I:Inv X pins σ H s)(g:DGet H a y (some v))(ry:RelV y u)(h:∀ w' s',Inv X pins σ H s'->RelV v w'->Q w' s') :
  wpAny (model X.prog X.w) A (getItem (.ref a) u) Q E s:=by
 rcases g with ⟨kvs,k,e,ey,l⟩|⟨kvs,k,b,e,ey,eb,l⟩
 ·subst ey
  obtain ⟨z,hd,vs,rel,dd⟩:=yZ I.hok e;obtain ⟨w',hw,rw'⟩:=RelO.some_of (v:=v) (o:=valueAt vs k) (by rw [l];exact rel.val k);exact wpAny_getItem_of (uC ry) dd.mapOf hw (h w' _ (I.tok _) rw')
 ·subst ey
  cases (show u=AC b from ry);obtain ⟨z,hd,xs,rel,dd⟩:=yY I.hok e;obtain ⟨w',hw,rw'⟩:=RelO.some_of (v:=v) (o:=(atKey xs k).map (·.2)) (by rw [l];exact rel.val k);obtain ⟨p,hp,hp2⟩:=AO.mp hw;refine wpAny_getItem_heap (tupleKind_room_in1 hu) (rW I.hok eb) dd hp ?_;rw [hp2];exact h w' _ (I.tok _) rw'
def qE {t':Nat}(I:Inv X pins σ H s)(mu:Mut (H a))(hs:Cj a s.heap h')(he:∃ q,h'.get? a=some q)(new:ObjOk X.prog X.w (upd H a ob) h' a ob) :
  Inv X pins σ (upd H a ob) { s with heap:=h',toks:=t' }:=
 I.write (x:=a) (e:=a) mu (.inl rfl) (λb q hb z=>(hs.2 b hb).trans z) he new
def aC6 {w:World}(z:kvs.length<=Au)(hd:(a==DB)=false)(rel:KV kvs vs)(dd:h'.DictOf (bD P w) a vs) :
  ObjOk P w H' h' a (.dK kvs):=⟨z,hd,vs,rel,dd⟩
def zF (hu:A.units+1<cLine)(I:Inv X pins σ H s)(g:DPut H a y v H')(ry:RelV y u)(rv:RelV v r)(h:∀ s',Inv X pins σ H' s'->Q () s') :
  wpAny (model X.prog X.w) A (setItem (.ref a) u r) Q E s:=by
 rcases g with ⟨kvs,k,e,ey,l,eH⟩|⟨kvs,k,b,e,ey,eb,l,eH⟩
 ·subst ey eH
  obtain ⟨z,hd,vs,rel,dd⟩:=uJ I.hok e;have hz:vs.length<=Au:=by rw [<- rel.length];exact z
  have hl:(putK kvs k v).length<=Au:=by have:=gB kvs k v;omega
  refine wpAny_setItem_pairs (hsz:=hz) (uC ry) dd λh' dd' hs=>h _ ?_;have he:∃ q,h'.get? a=some q:=let ⟨q,_,_,hq,_⟩:=dd';⟨q,hq⟩;exact qE I (by rw [e];exact Ds) hs he (aC6 hl hd (rel.put k rv) dd')
 ·subst ey eH
  cases (show u=AC b from ry);obtain ⟨z,hd,xs,rel,dd⟩:=aJl I.hok e;have hz:xs.length<=Au:=by rw [<- Paired.length rel];exact z
  have hl:(putK kvs k v).length<=Au:=by have:=gB kvs k v;omega
  refine wpAny_setItem_heap (hsz:=hz) (tupleKind_room_in1 hu) (rW I.hok eb) dd λh' dd' hs=>h _ ?_;obtain ⟨q,es,ep,hq,h2,h3,h4,_,h5⟩:=dd';refine qE I (by rw [e];exact Ds) hs ⟨q,hq⟩ ⟨hl,hd,_,(rel.put k eb rv).keeps λc ys ec=>?_,q,es,ep,hq,h2,h3,h4,h5⟩;rw [aI (aI9 ec e (λz=>nomatch z))];exact ec
end
section
variable {X:Cx}{pins:List (Addr×Obj)}{σ:St}{H:Hp}{s:Shared}{a:Addr}{kvs:List (Key×V)}{k:Key}{u:Value}{A:Around}{E:Value->Shared->Prop}
end
def NoSl (i:Expr):Prop:=∀ ov iv,subscripted i false ov iv=operate [ov,iv] (getItem ov iv)
def aDn {prog:Av}{w:World}{A:Around}{E:Value->Shared->Prop}{s:Shared}{env:Env}{value slice:Expr}{pos:Pos}{T id:String}{Q:Value->Shared->Prop}
  (hl:typeLookup (.type T) "__getitem__" = pure (some (.builtin id))) (hs:NoSl slice)
  (h:wpAny (model prog w) A (eval value env) (λo s₁=>wpAny (model prog w) A (eval slice env) (λi s₂=>s₂.TypeIs o T/\wpAny (model prog w) A (getItem o i) Q E s₂) E s₁) E s) :
  wpAny (model prog w) A (eval (.Subscript value slice pos) env) Q E s:=by
 refine Subscript_ (BX h (λo s₁ h₁=>BX h₁ (λi s₂ h₂=>?_) λ_ _ x=>x) λ_ _ x=>x);obtain ⟨hT,h₂⟩:=h₂;unfold subscriptTail;refine Aa ?_;rw [getitemInPython_of_ne hT.not_modules];refine Aa (wpAny_specialOf hT hl ?_);have fin:wpAny (model prog w) A (subscripted slice false o i) (λr s₃=>wpAny (model prog w) A (letTemporaryGo value o r >>= λ_=>pure r) Q E s₃) E s₂:=by
  rw [hs o i];exact wpAny_operating (BX h₂ (λr s₃ h₃=>Aa (wpAny_letTemporaryGo (Ag h₃))) λ_ _ x=>x)
 first
  |exact Ag (Aa fin)
  |exact Aa (Ag (Aa fin))
  |exact Aa fin
def qD {σ:St}(I:Inv X pins σ H s)(g:DGet H a y o):s.TypeIs (.ref a) "dict":=by
 rcases g with ⟨kvs,k,e,_,_⟩|⟨kvs,k,b,e,_,_,_⟩
 ·obtain ⟨_,_,vs,_,dd⟩:=yZ I.hok e
  exact dd.typeIs
 ·obtain ⟨_,_,xs,_,dd⟩:=yY I.hok e
  exact dd.typeIs
inductive RDGet (Q:VK)(x y:V)(H:Hp):Prop
 |mk (a:Addr) (v:V) (e:x=.ref a) (g:DGet H a y (some v)) (h:Q v H)
def aIp (td ty:TE):TE:=λσ H Q=>td σ H λx H1=>ty σ H1 λy H2=>RDGet Q x y H2
def tDIn (ty td:TE):TE:=λσ H Q=>ty σ H λy H1=>td σ H1 λx H2=>∃ a o,x=.ref a/\DGet H2 a y o/\Q (.bl o.isSome) H2
def tDNotIn (ty td:TE):TE:=λσ H Q=>ty σ H λy H1=>td σ H1 λx H2=>∃ a o,x=.ref a/\DGet H2 a y o/\Q (.bl (!o.isSome)) H2
inductive RDPut (N:Hp->Prop)(x y v:V)(H:Hp):Prop
 |mk (a:Addr) (H4:Hp) (e:x=.ref a) (g:DPut H a y v H4) (h:N H4)
def aIu (td ty tv:TE):TS:=λD σ H=>tv σ H λv H1=>td σ H1 λx H2=>ty σ H2 λy H3=>RDPut (D.nx σ) x y v H3
def sDAug (td ty tv:TE)(rd:V->V->Hp->VK->Prop):TS:=λD σ H=>td σ H λx H1=>ty σ H1 λy H2=>∃ a v,x=.ref a/\DGet H2 a y (some v) /\
 tv σ H2 λy2 H3=>rd v y2 H3 λz H4=>∃ H5,DPut H4 a y z H5/\D.nx σ H5
def sDDel (td ty:TE):TS:=λD σ H=>td σ H λx H1=>ty σ H1 λy H2=>∃ a kvs k,x=.ref a/\H2 a=some (.dK kvs)/\y=kV k/\(valV kvs k).isSome=true/\D.nx σ (upd H2 a (.dK (aFn kvs k)))
section
variable {X:Cx}{o i e value:Expr}{pos pos' tpos:Pos}{td ty tv:TE}
def jJ (hu:X.A.units+1<cLine)(ho:PE X o td)(hi:PE X i ty)(hs:NoSl i):PE X (.Subscript o i pos) (aIp td ty):=by
 intro pins s σ H Q I h;refine aDn PySem.F.slot_dict_getitem.lookup hs (thn (ho pins s σ H _ I h) λu s1 ⟨x,H1,I1,rx,q1⟩=>thn (hi pins s1 σ H1 _ I1 q1) λiv s2 ⟨y,H2,I2,ry,a,v,ex,g,q2⟩=>?_);subst ex;obtain rfl:u=AC a:=rx;exact ⟨qD I2 g,zG hu I2 g ry λw' s3 I3 rw'=>⟨v,H2,I3,rw',q2⟩⟩
def pJ (hu:X.A.units+1<cLine)(ho:PE X o td)(hi:PE X i ty)(hv:PE X value tv)(hs:swapsWith value (some (.Subscript o i pos')) pos.line X.env=pure false) :
  PS X (.Assign [.Subscript o i pos'] value pos) (aIu td ty tv):=by
 intro pins s σ H D I h;refine wpAny_Assign_Subscript (thn (hv pins s σ H _ I h) λr s1 ⟨v,H1,I1,rv,q1⟩=>thn (ho pins s1 σ H1 _ I1 q1) λu s2 ⟨x,H2,I2,rx,q2⟩=>thn (hi pins s2 σ H2 _ I2 q2) λiv s3 ⟨y,H3,I3,ry,a,H4,ex,g,q3⟩=>?_) hs;subst ex;obtain rfl:u=AC a:=rx;exact zF hu I3 g ry rv λs4 I4=>⟨σ,H4,I4,q3⟩
end
def sP {w:World}(h:Heap)(hb:DB<h.objs.size):ObjOk P w H (h.push { cls:=.type "dict",data:=.dict #[] }) h.objs.size (.dK []):=
 ⟨Bi _,beq_eq_false_iff_ne.mpr (Bg (As hb)),[],.nil,Heap.DictOf.new h⟩
def aGa:TE:=λ_ H Q=>∀ p,H p=none->Q (.ref p) (upd H p (.dK []))
def tDNewT:TE:=λ_ H Q=>∀ p,H p=none->Q (.ref p) (upd H p (.dT []))
section
variable {X:Cx}{pos:Pos}
def rF:PE X (.Dict [] [] pos) aGa:=λpins s σ H Q I h=>
 wpAny_Dict_empty ⟨.ref s.heap.objs.size,_,I.laid (a:=s.heap.objs.size) (o:=.dK []) (t':=s.toks) (λ_ _ q=>Ad _ q) (Aj _) (sP s.heap I.big),rfl,h _ (I.hok.fresh (Aj _))⟩
end
def uX:List (TE×TE)->St->Hp->(List (V×V)->Hp->Prop)->Prop
  |[],_,H,Q=>Q [] H
  |(tk,tv)::r,σ,H,Q=>tk σ H λx H1=>tv σ H1 λy H2=>uX r σ H2 λps H3=>Q ((x,y)::ps) H3
abbrev VV:List (V×V)->List (Value×Value)->Prop:=Paired λp q=>RelV p.1 q.1/\RelV p.2 q.2
def PPs (X:Cx)(pos:Pos)(keys:List (Option Expr))(values:List Expr)(trs:List (TE×TE)):Prop:=
 ∀ (pins:List (Addr×Obj)) (s:Shared) (σ:St) (H:Hp) (Q:List (V×V)->Hp->Prop),Inv X pins σ H s->uX trs σ H Q ->
  wpAny (model X.prog X.w) X.A (evalPairs (pairTrees keys values X.env pos)) (λvs s'=>∃ ps H',Inv X pins σ H' s'/\VV ps vs/\Q ps H') X.xe s
def wC :PPs X pos [] [] []:=λpins s σ H Q I h=>pairTrees_nil_walk ⟨[],H,I,.nil,h⟩
def rE {k v:Expr}{tk tv:TE}(hk:PE X k tk)(hv:PE X v tv)(hr:PPs X pos ks vs trs) :
  PPs X pos (some k::ks) (v::vs) ((tk,tv)::trs):=λpins s σ H Q I h=>
 pairTrees_cons_walk (thn (hk pins s σ H _ I h) λu s1 ⟨x,H1,I1,rx,q1⟩=>thn (hv pins s1 σ H1 _ I1 q1) λw2 s2 ⟨y,H2,I2,ry,q2⟩=>
  thn (hr pins s2 σ H2 _ I2 q2) λws s3 ⟨ps,H3,I3,rel,q3⟩=>⟨(x,y)::ps,H3,I3,.cons ⟨rx,ry⟩ rel,q3⟩)
def kN (kvs more:List (Key×V)):List (Key×V):=more.foldl (λacc kv=>putK acc kv.1 kv.2) kvs
def KV.merge:∀ {more:List (Key×V)} {rs:List (Key×Value)} {kvs:List (Key×V)} {vs:List (Key×Value)},KV more rs->KV kvs vs->KV (kN kvs more) (merged vs rs):=by
 intro more rs kvs vs r;unfold KV at r
 induction r generalizing kvs vs with
 |nil=>intro q;exact q
 |@cons p q ps qs h t ih=>
  intro r0;have e:KV (putK kvs p.1 p.2) (stored vs q.1 q.2):=by
   have:=r0.put p.1 h.2;rw [<- h.1];exact this
  exact ih e
theorem gP:∀ (more kvs:List (Key×V)),(kN kvs more).length<=kvs.length+more.length
 |[],kvs=>by show kvs.length<=kvs.length+0;omega
 |p::r,kvs=>by
  have h1:=gP r (putK kvs p.1 p.2);have h2:=gB kvs p.1 p.2;show (kN (putK kvs p.1 p.2) r).length<=_;rw [AZ];omega
theorem kU {w:World}:∀ {kvs:List (Key×V)} {ws:List (Value×Value)},VV (kvs.map λkv=>(kV kv.1,kv.2)) ws->∃ rs,Carries (bD P w) ws rs/\KV kvs rs
 |[],_,r=>by rw [List.map_nil] at r;cases r;exact ⟨[],Ds,.nil⟩
 |p::kvs,_,r=>by
  rw [An] at r;cases r with
  |@cons a b as bs h t=>
   obtain ⟨rs,c,q⟩:=kU (P:=P) (w:=w) t;obtain ⟨b1,b2⟩:=b;exact ⟨(p.1,b2)::rs,⟨uC h.1,rfl,c⟩,.cons ⟨rfl,h.2⟩ q⟩
def aIo (trs:List (TE×TE)):TE:=λσ H Q=>∀ p,H p=none->uX trs σ (upd H p (.dK [])) λps H2=>H2 p=some (.dK [])/\∃ kvs:List (Key×V),ps=kvs.map (λkv=>(kV kv.1,kv.2))/\kvs.length<=15/\Q (.ref p) (upd H2 p (.dK (kN [] kvs)))
def wK {keys:List (Option Expr)}(h:PPs X pos keys values trs)(hall:keys.all (·.isSome)=true)(hl:keys.length=values.length)(h0:keys≠[])(h15:keys.length<=15):PE X (.Dict keys values pos) (aIo trs):=by
 intro pins s σ H Q I q;have hn:=I.hok.fresh (Aj s.heap.objs.size);have I1:=I.laid (a:=s.heap.objs.size) (o:=.dK []) (h':=s.heap.push { cls:=.type "dict",data:=.dict #[] }) (t':=s.toks) (λ_ _ q=>Ad _ q) (Aj _) (sP s.heap I.big);refine wpAny_Dict_walk (knd:=bD X.prog X.w) hall hl h0 h15 (thn (h pins _ σ _ _ I1 (q _ hn)) λws s2 ⟨ps,H2,I2,rel,e,kvs,ep,lk,q2⟩=>?_);subst ep;obtain ⟨rs,c,rk⟩:=kU (P:=X.prog) (w:=X.w) rel;obtain ⟨z,hd,vs0,r0,dd⟩:=uJ I2.hok e;cases r0;refine ⟨rs,c,dd,λh' dd' hs=>⟨.ref s.heap.objs.size,_,?_,rfl,q2⟩⟩;have hz:(kN [] kvs).length<=Au:=by
  have h1:=gP kvs [];rw [List.length_nil] at h1;rw [sizeLine_eq];omega
 have he:∃ q,h'.get? s.heap.objs.size=some q:=let ⟨q,_,_,hq,_⟩:=dd';⟨q,hq⟩;exact qE I2 (by rw [e];exact Ds) hs he (aC6 hz hd (rk.merge .nil) dd')
structure M1 (X:Cx)(o:Expr)(m:Str)(apos:Pos)(e:Expr)(cpos:Pos):Prop where
 base:EJ o m X.env (eval o X.env)=eval o X.env
 few:((backTo cpos (AQ [e] X.env)).all (λx=>!x.1)&&(backToKw cpos (keywordEach [] X.env)).all (λx=>x.1.isSome)
  && decide (([e]:List Expr).length+([]:List Keyword).length+(if ([]:List Keyword).isEmpty then 0 else 1)<30))=true
 line:(apos.endLine==cpos.line)=true
 trees:backTo cpos (AQ [e] X.env)=[(false,eval e X.env)]
structure M2 (X:Cx)(o:Expr)(m:Str)(apos:Pos)(e f:Expr)(cpos:Pos):Prop where
 base:EJ o m X.env (eval o X.env)=eval o X.env
 few:((backTo cpos (AQ [e,f] X.env)).all (λx=>!x.1)&&(backToKw cpos (keywordEach [] X.env)).all (λx=>x.1.isSome)
  && decide (([e,f]:List Expr).length+([]:List Keyword).length+(if ([]:List Keyword).isEmpty then 0 else 1)<30))=true
 line:(apos.endLine==cpos.line)=true
 trees:backTo cpos (AQ [e,f] X.env)=[(false,eval e X.env),(false,eval f X.env)]
def IsD (H:Hp)(a:Addr):Prop:=(∃ kvs,Rd H a (.dK kvs))\/∃ kvs,Rd H a (.dT kvs)
def aCy {σ:St}(I:Inv X pins σ H s)(d:IsD H a) :
  s.TypeIs (.ref a) "dict" /\ (∀ b,AC a=.ref b->∃ ob,s.heap.get? b=some ob/\ob.dict=none)/\(a==DB)=false:=by
 rcases d with ⟨kvs,e⟩|⟨kvs,e⟩
 ·obtain ⟨_,hd,vs,_,dd⟩:=yZ I.hok e
  refine ⟨dd.typeIs,λb q=>?_,hd⟩;cases q;obtain ⟨ob,_,_,h1,h2,_⟩:=dd;exact ⟨ob,h1,h2.2.1⟩
 ·obtain ⟨_,hd,xs,_,dd⟩:=yY I.hok e
  refine ⟨dd.typeIs,λb q=>?_,hd⟩;cases q;obtain ⟨ob,_,_,h1,h2,_⟩:=dd;exact ⟨ob,h1,h2.2.1⟩
section
variable {X:Cx}{pins:List (Addr×Obj)}{σ:St}{H:Hp}{s:Shared}{a:Addr}{y d:V}{u r:Value}{o:Option V}{A:Around}{E:Value->Shared->Prop}
def aH6 (hu:A.units+1<cLine)(I:Inv X pins σ H s)(g:DGet H a y o)(ry:RelV y u)(rd:RelV d r)(h:∀ w' s',Inv X pins σ H s'->RelV (o.getD d) w'->Q w' s') :
  wpAny (model X.prog X.w) A (call (.builtin "dict.get") [.ref a,u,r]) Q E s:=by
 rcases g with ⟨kvs,k,e,ey,l⟩|⟨kvs,k,b,e,ey,eb,l⟩
 ·subst ey
  obtain ⟨z,hd,vs,rel,dd⟩:=yZ I.hok e;refine call_meetsIn DH dd.typeIs PySem.F.entry_dict_get (PySem.F.args_dict_get_3 _ _ _) (meets_dict_get_default (bD X.prog X.w) a (uC ry) hd r) ⟨_,dd.mapOf,h _ _ (I.tok _) ?_⟩;rw [l];exact (rel.val k).getD rd
 ·subst ey
  cases (show u=AC b from ry);obtain ⟨z,hd,xs,rel,dd⟩:=yY I.hok e;refine call_meetsIn DH dd.typeIs PySem.F.entry_dict_get (PySem.F.args_dict_get_3 _ _ _) (meetsH_dict_get_default (tupleKind (bD X.prog X.w)) a b hd r) ⟨tupleKind_room_in1 hu,k,xs,rW I.hok eb,dd,h _ _ (I.tok _) ?_⟩;rw [l];exact (rel.val k).getD rd
end
def tDGet1 (td ty:TE):TE:=λσ H Q=>td σ H λx H1=>∃ a,x=.ref a/\IsD H1 a/\ty σ H1 λy H2=>∃ o,DGet H2 a y o/\Q (o.getD .non) H2
def aGb (td ty tx:TE):TE:=λσ H Q=>td σ H λx H1=>∃ a,x=.ref a/\IsD H1 a/\ty σ H1 λy H2=>tx σ H2 λz H3=>∃ o,DGet H3 a y o/\Q (o.getD z) H3
def tDPop1 (td ty:TE):TE:=λσ H Q=>td σ H λx H1=>∃ a,x=.ref a/\IsD H1 a/\ty σ H1 λy H2=>∃ kvs k v,H2 a=some (.dK kvs)/\y=kV k/\valV kvs k=some v/\Q v (upd H2 a (.dK (aFn kvs k)))
def tDPop2 (td ty tx:TE):TE:=λσ H Q=>td σ H λx H1=>∃ a,x=.ref a/\IsD H1 a/\ty σ H1 λy H2=>tx σ H2 λz H3=>∃ kvs k,H3 a=some (.dK kvs)/\y=kV k /\
 (∀ v,valV kvs k=some v->Q v (upd H3 a (.dK (aFn kvs k))))/\(valV kvs k=none->Q z H3)
section
variable {X:Cx}{o e f:Expr}{apos cpos:Pos}{td ty tx:TE}
def rG (hu:X.A.units+1<cLine)(ho:PE X o td)(he:PE X e ty)(hf:PE X f tx)(m:M2 X o "get" apos e f cpos):PE X (.Call (.Attribute o "get" apos) [e,f] [] cpos) (aGb td ty tx):=by
 intro pins s σ H Q I h;refine wpAny_Call_method m.base m.few m.line Fu DH PySem.F.type_dict_get (thn (ho pins s σ H _ I h) λu s1 ⟨x,H1,I1,rx,a,ex,d,q1⟩=>?_);subst ex;obtain rfl:u=AC a:=rx;obtain ⟨t1,t2,_⟩:=aCy I1 d;refine ⟨t1,t2,?_⟩;rw [m.trees];refine DE rfl (ES (DF (thn (he pins s1 σ H1 _ I1 q1) λiv s2 ⟨y,H2,I2,ry,q2⟩=>
  DF (thn (hf pins s2 σ H2 _ I2 q2) λfv s3 ⟨z,H3,I3,rz,ov,g,q3⟩=>EC ?_))))
 exact aH6 hu I3 g ry rz λw' s4 I4 rw'=>⟨_,H3,I4,rw',q3⟩
end
section
variable {X:Cx}{pins:List (Addr×Obj)}{σ:St}{H:Hp}{s:Shared}{a:Addr}{kvs:List (Key×V)}{A:Around}{E:Value->Shared->Prop}
end
section
variable {X:Cx}{pins:List (Addr×Obj)}{σ:St}{H:Hp}{s:Shared}{a:Addr}{y:V}{u:Value}{A:Around}{E:Value->Shared->Prop}
end
def gY :∀ {us:List Value},Vals (ss.map V.str) us->EK us ss:=by
 induction ss with
 |nil=>intro us r;rw [List.map_nil] at r;cases r;exact .nil
 |cons n ns ih=>
  intro us r;rw [An] at r;cases r with
  |cons r1 r2=>
   obtain ⟨t,rfl⟩:=r1;exact .cons _ _ (ih r2)
theorem eO:∀ {us:List Value} {ss:List Str},EK us ss->Vals (ss.map V.str) us
 |_,_,.nil=>.nil
 |_,_,.cons _ _ h=>.cons ⟨_,rfl⟩ (eO h)
def rR {w:World}{e:Nat}(hv:Vals xs its)(hz:xs.length<=Au)(ho:h.get? a=some (seqObj "list" its.toArray e)):ObjOk P w H h a (.lst xs):=⟨hz,its,e,hv,ho⟩
section
variable {X:Cx}
def aGv (K:Ab):List V->Hp->VK->Prop:=λxs H Q=>∃ a,∃ ss:List Str,xs=[.ref a]/\SqL K H a (ss.map V.str)/\ss.length<64/\∀ (p:Addr) (ss':List Str),ss'.Perm ss->sortedS ss'=true->H p=none->Q (.ref p) (upd H p (.lst (ss'.map V.str)))
def kW:fG X (.builtin "sorted") (aGv X.K):=by
 intro pins s σ H xs us Q I r h;obtain ⟨a,ss,rfl,hq,h64,q⟩:=h;obtain ⟨u,rfl,rx⟩:=vals1 r;cases rx;obtain ⟨its,r',pl,hz⟩:=I.list hq;have hl:=r'.length;rw [Af] at hl;refine sorted_strs (pl.isList) (gY r') (by omega) λout ss' a1 a2 a3=>?_;obtain ⟨e,he⟩:=sortedAll_at s.heap its out;refine ⟨.ref (s.heap.objs.size+1),_,I.laid (a:=s.heap.objs.size+1) (o:=.lst (ss'.map V.str)) (t':=s.toks) (λ_ _=>sortedAll_old) (Dq _) (rR (its:=out.toList) (e:=e) (eO a1) ?_ (by rw [ET];exact he)),rfl,q _ ss' a2 a3 (I.hok.fresh (Dq _))⟩;rw [Af,a2.length_eq];exact bV (by omega)
def rSortI (K:Ab):List V->Hp->VK->Prop:=λxs H Q=>∃ a,∃ ns:List Int,xs=[.ref a]/\SqL K H a (ns.map V.int)/\ns.length<64/\∀ (p:Addr) (ns':List Int),ns'.Perm ns->ns'.Pairwise (·<=·)->H p=none->Q (.ref p) (upd H p (.lst (ns'.map V.int)))
theorem nI {w:World}:∀ {ss:List Str} {vs:List (Key×Value)} {acc:List Value},vs.map (·.1)=ss.map AR->acc.length=vs.length->(∀ (j:Nat) (v:Value),acc[j]?=some v->∃ k x,vs[j]?=some (k,x)/\(bD P w).is k v=true)->EK acc ss
 |[],[],[],_,_,_=>.nil
 |[],_::_,_,e,_,_=>by simp at e
 |_::_,[],_,e,_,_=>by simp at e
 |[],[],_::_,_,l,_=>by simp at l
 |_::_,_::_,[],_,l,_=>by simp at l
 |x::ss,(k,y)::vs,v::acc,e,l,h=>by
  simp only [An,List.cons.injEq] at e;obtain ⟨e1,e2⟩:=e;obtain ⟨k',x',h1,h2⟩:=h 0 v rfl;simp at h1;obtain ⟨rfl,rfl⟩:=h1;subst e1;obtain ⟨t,rfl⟩:=Du (x:=x) (v:=v) h2;exact .cons _ _ (nI e2 (by simpa using l) λj v hv=>h (j+1) v (by simpa using hv))
def oS {σ:St}(hh:A.handled=none)(I:Inv X pins σ H s)(hH:H a=some (.dK kvs))(h:∀ (h':Heap) (tk:Nat) (acc:List Value) (vs:List (Key×Value)),KV kvs vs->acc.length=vs.length->(∀ (j:Nat) (v:Value),acc[j]?=some v->∃ k x,vs[j]?=some (k,x)/\(bD X.prog X.w).is k v=true)->(∀ b o,s.heap.get? b=some o->h'.get? b=some o) ->
   wpAny (model X.prog X.w) A.in1 (call (.builtin "list.sort") [.ref h'.objs.size]) (λ_ s'=>Q (.ref h'.objs.size) s') E { s with heap:=h'.push (seqObj "list" acc.toArray 0),toks:=tk }) :
  wpAny (model X.prog X.w) A (call (.builtin "sorted") [.ref a]) Q E s:=by
 obtain ⟨z,lo,vs,rel,dd⟩:=uJ I.hok hH;obtain ⟨ep,hat⟩:=dd.dictAt;have hlen:=rel.length;refine Fm kind_sorted plain_sorted entry_sorted (args_sorted1 _) ?_;unfold AI.«sorted»;refine Aa (m:=checkCount "sorted" 1 1 _) (Ag ?_);refine Aa (PySem.W.kdu_collect (A:=A.in1) (PySem.W.kdl_dict (knd:=bD X.prog X.w) (kvs:=vs) (ep:=ep) lo) hh hat (by rw [<- hlen];exact z) λh' tk acc hk hacc=>?_);have hl:acc.toList.length=vs.length:=by rw [Bv];exact hacc.1
 refine Aa (wpAny_newList ?_ (by rw [hl,<- hlen];exact z));have hg:=h h' tk acc.toList vs rel hl (λj v e=>hacc.2 j v (by rw [<- AW];exact e)) hk;refine Aa (Bz (BX hg (λ_ s' x=>?_) λ_ _ e=>e));exact Ag ⟨_,rfl,x⟩
def aEe:List V->Hp->VK->Prop:=λxs H Q=>∃ a kvs,∃ ss:List Str,xs=[.ref a]/\H a=some (.dK kvs)/\kvs.map (·.1)=ss.map AR/\kvs.length<64/\∀ (p:Addr) (ss':List Str),ss'.Perm ss->sortedS ss'=true->H p=none->Q (.ref p) (upd H p (.lst (ss'.map V.str)))
def qG (hc:X.calm=true):fG X (.builtin "sorted") aEe:=by
 intro pins s σ H xs us Q I r h;obtain ⟨a,kvs,ss,rfl,hH,hk,h64,q⟩:=h;obtain ⟨u,rfl,rx⟩:=vals1 r;cases rx;refine oS (I.ok.hd hc) I hH λh' tk acc vs rel hl hacc keep=>?_;have hS:=nI (ss:=ss) (by rw [<- rel.keys];exact hk) hl hacc;have hlen:=rel.length;have hssl:ss.length=kvs.length:=by
  have:=congrArg List.length hk;rw [Af,Af] at this;exact this.symm
 have hoL:(h'.push (seqObj "list" acc.toArray 0)).get? h'.objs.size=some (seqObj "list" acc.toArray 0):=Ai _ rfl;refine Bs slot_list_sort ⟨_,hoL,rfl⟩ entry_list_sort (list_sort_treeK strKind_oneLt hoL hS.keysOf (λv₁ v₂ rest e=>keyKind_strs (by rw [<- e];exact hS)) (by omega) λst' hp hs=>⟨_,rfl,?_⟩) (args_list_sort _);obtain ⟨ss',a1,a2,a3⟩:=sorted_out_str hS hp hs;obtain ⟨e,he⟩:∃ e,(sortedHeap (h'.push (seqObj "list" acc.toArray 0)) h'.objs.size acc ((arrOf st').map (·.2))).get? h'.objs.size=some (seqObj "list" ((arrOf st').map (·.2)) e):=sortedHeap_at hoL;have I1:=I.kept (t':=tk) keep;refine ⟨.ref h'.objs.size,_,I1.laid (a:=h'.objs.size) (o:=.lst (ss'.map V.str)) (t':=tk) (λb o hb'=>?_) (Aj _) (rR (its:=((arrOf st').map (·.2)).toList) (e:=e) (eO a1) ?_ (by rw [ET];exact he)),rfl,q _ ss' a2 a3 (I1.hok.fresh (Aj _))⟩
 ·have lt:=Aq hb'
  rw [sortedHeap_old (As lt) (by rw [BL];exact Ck lt)];exact Ad _ hb'
 ·rw [Af,a2.length_eq]
  exact bV (by omega)
def rSortDI:List V->Hp->VK->Prop:=λxs H Q=>∃ a kvs,∃ ns:List Int,xs=[.ref a]/\H a=some (.dK kvs)/\kvs.map (·.1)=ns.map Sum.inl/\kvs.length<64/\∀ (p:Addr) (ns':List Int),ns'.Perm ns->ns'.Pairwise (·<=·)->H p=none->Q (.ref p) (upd H p (.lst (ns'.map V.int)))
end
variable {X:Cx}
theorem Vals.of_get:∀ {xs:List V} {us:List Value},xs.length=us.length->(∀ (i:Nat) (x:V) (u:Value),xs[i]?=some x->us[i]?=some u->RelV x u)->Vals xs us
 |[],[],_,_=>.nil
 |x::xs,u::us,hl,h=>.cons (h 0 x u rfl rfl) (Vals.of_get (by simpa using hl) λi y v hy hv=>h (i+1) y v (by simpa using hy) (by simpa using hv))
 |[],_::_,hl,_=>by simp at hl
 |_::_,[],hl,_=>by simp at hl
def tRev (K:Ab)(te:TE)(tk:TO):TE:=λσ H Q=>te σ H λx H1=>tk σ H1 λst H2=>st=some (-1)/\∃ a xs,x=.ref a/\SqL K H2 a xs/\∀ p,H2 p=none->Q (.ref p) (upd H2 p (.lst xs.reverse))
def tListRng (ta:TA):TE:=λσ H Q=>ta σ H λvs H1=>∃ i j:Int,vs=[.int i,.int j]/\(-(2^62)<=i/\i<2^62/\-(2^62)<=j/\j<2^62)/\(j-i).toNat<=1000/\∀ p,H1 p=none->Q (.ref p) (upd H1 p (.lst (rngV i (j-i).toNat)))
def aAw {a:Int}{n:Nat}(h:ItemsOf (λi v=>∃ t,v=.int (a+i*1) t) acc n):Vals (rngV a n) acc.toList:=by
 refine Vals.of_get (by rw [dU,Bv,h.1]) λi x u hx hu=>?_;obtain ⟨_,rfl⟩:=lJ hx;obtain ⟨t,rfl⟩:=h.2 i u (by rw [<- AW];exact hu);exact ⟨t,by rw [Int.mul_one]⟩
def tListVals (td:TE):TE:=λσ H Q=>td σ H λx H1=>∃ a kvs,x=.ref a/\H1 a=some (.dK kvs)/\∀ p,H1 p=none->Q (.ref p) (upd H1 p (.lst (kvs.map (·.2))))
def Itz2 (K:Ab)(a b:Addr):It:=
  ⟨λi H=>∃ xs ys,SqT K H a xs/\SqT K H b ys/\i<xs.length/\i<ys.length,
   λi H v H'=>∃ T,H T=none/\v=.ref T/\∀ xs ys,SqT K H a xs->SqT K H b ys->∃ x y,xs[i]?=some x/\ys[i]?=some y/\H'=upd H T (.tup [x,y]),
   λi H=>∃ xs ys,SqT K H a xs/\SqT K H b ys/\(i=xs.length\/(i<xs.length/\i=ys.length))⟩
def aDc (n a b:Nat)(i:Nat)(h:Heap):Prop:=IsZip h (n+4) (n+2) (n+3) .none/\IsPair h (n+2) (.ref n) (.ref (n+1))/\(∃ x y,IsPair h (n+3) x y)/\h.IsTupleIter n a i/\h.IsTupleIter (n+1) b i
def uS {P:Av}{w:World}{K:Ab}{es:List Expr}{k1:Nat}{p1:Pos}{n a b:Nat}(ha:a<n)(hb:b<n) :
  Turn P w K (.Tuple es k1 p1) (Itz2 K a b) [n+4,n+2,n+3,n,n+1] (n+4) (aDc n a b) where
 mem:=by simp
 obj:=λi h st c hc=>by
  obtain ⟨c1,c2,⟨x,y,c3⟩,⟨o4,d4,_,f4⟩,⟨o5,d5,_,f5⟩⟩:=st;have hc':c=n+4\/c=n+2\/c=n+3\/c=n\/c=n+1:=by simpa using hc
  rcases hc' with e|e|e|e|e
  ·subst e;exact ⟨_,c1,λv z=>by cases z⟩
  ·subst e;exact ⟨_,c2,λv z=>by cases z⟩
  ·subst e;exact ⟨_,c3,λv z=>by cases z⟩
  ·subst e;exact ⟨_,d4,λv z=>by rw [f4] at z;cases z⟩
  ·subst e;exact ⟨_,d5,λv z=>by rw [f5] at z;cases z⟩
 keep:=λi h h' st k=>by
  obtain ⟨c1,c2,⟨x,y,c3⟩,c4,c5⟩:=st;exact ⟨k _ (by simp) _ c1,k _ (by simp) _ c2,⟨x,y,k _ (by simp) _ c3⟩,c4.at λo e=>k _ (by simp) o e,c5.at λo e=>k _ (by simp) o e⟩
 item:=by
  intro X hP hw hK hc i pins s σ H E I hf st hg;subst hP hw hK;obtain ⟨xs,ys,hx,hy,l1,l2⟩:=hg;obtain ⟨its,r1,tx,_⟩:=I.tuple hx;obtain ⟨its',r2,ty,_⟩:=I.tuple hy;have e1:=r1.length;have e2:=r2.length;obtain ⟨c1,c2,⟨x0,y0,c3⟩,c4,c5⟩:=st;have hh:X.A.in1.handled=none:=I.ok.hd hc;refine aIe (iP hh n a (by show (_:Nat)≠_;omega) its.toArray) (iP hh (n+1) b (by show (_:Nat)≠_;omega) its'.toArray) (aDb ha hb) c1 c2 c3 ⟨c4,tx⟩ ⟨c5,ty⟩ (by rw [Ak];omega) (by rw [Ak];omega) λx y T g t' px py hT cz cO s1 s2 cT kp=>⟨.ref T,rfl,?_⟩;subst hT;refine wpAny_letOwnedTupleGo_zip (s:={ s with heap:=g,toks:=t' }) cz λg' cz' sb=>?_;obtain ⟨vx,hvx⟩:∃ v,xs[i]?=some v:=⟨_,Ac l1⟩;obtain ⟨vy,hvy⟩:∃ v,ys[i]?=some v:=⟨_,Ac l2⟩;obtain ⟨ux,hux,rx⟩:=r1.get hvx;obtain ⟨uy,huy,ry⟩:=r2.get hvy;have ex:x=ux:=by
   have:its.toArray[i]?=some x:=px;rw [<- AW,Fd,hux] at this;exact (AG this).symm
  have ey:y=uy:=by
   have:its'.toArray[i]?=some y:=py;rw [<- AW,Fd,huy] at this;exact (AG this).symm
  subst ex ey;have hfr:H s.heap.objs.size=none:=I.hok.fresh (Aj _);have I0:Inv X pins σ (upd H s.heap.objs.size (.tup [vx,vy])) { s with heap:=s.heap.push { cls:=.type "tuple",data:=.seq #[x,y] },toks:=t' }:=
   I.laid (λc u q=>Ad _ q) (Aj _) ⟨⟨by show 2<=Au;decide,_,Ai s.heap rfl,rfl⟩,[x,y],.cons rx (.cons ry .nil),⟨_,Ai s.heap rfl,rfl,_,rfl⟩⟩
  have lz:n+4<s.heap.objs.size:=Aq c1;have fpn:∀ c∈[n+4,n+2,n+3,n,n+1],c≠s.heap.objs.size:=λc hc'=>by
   have hc'':c=n+4\/c=n+2\/c=n+3\/c=n\/c=n+1:=by simpa using hc'
   rcases hc'' with e|e|e|e|e<;>(subst e;exact As (by omega))
  have hf0:∀ c∈[n+4,n+2,n+3,n,n+1],FpOk X pins (upd H s.heap.objs.size (.tup [vx,vy])) c:=λc hc'=>⟨by rw [aI (fpn c hc')];exact (hf c hc').1,(hf c hc').2⟩;have I1:Inv X pins σ (upd H s.heap.objs.size (.tup [vx,vy])) { s with heap:=g',toks:=t' }:=by
   refine Inv.turnedL (s:={ s with heap:=s.heap.push { cls:=.type "tuple",data:=.seq #[x,y] },toks:=t' }) (h':=g') (t':=t') (ch:=[n+4,n+2,n+3,n,n+1]) I0 (λc o hc' e=>?_) hf0;replace e:(s.heap.push { cls:=.type "tuple",data:=.seq #[x,y] }).get? c=some o:=e;have hn:∀ d∈[n+4,n+2,n+3,n,n+1],c≠d:=λd hd z=>hc' (by rw [z];exact hd);refine sb.extBut _ _ (hn _ (by simp)) ?_
   by_cases ec:c=s.heap.objs.size
   ·rw [ec] at e ⊢
    rw [Ai s.heap rfl] at e;cases e;exact cT
   ·rw [DT _ _ _ ec] at e
    exact kp c o (hn _ (by simp)) (hn _ (by simp)) (hn _ (by simp)) (hn _ (by simp)) e
  refine ⟨.ref s.heap.objs.size,_,I1,rfl,⟨_,hfr,rfl,λxs' ys' hx' hy'=>⟨vx,vy,by rw [I.tuple_inj hx' hx];exact hvx,by rw [I.tuple_inj hy' hy];exact hvy,rfl⟩⟩,?_,λc hc'=>(hf0 c hc').1⟩;have nz:∀ d:Nat,d<n+4->d≠n+4:=λd hd=>As hd;exact ⟨cz',sb.extBut _ _ (nz _ (by omega)) (kp _ _ (nz _ (by omega)) (by show (_:Nat)≠_;omega) (by show (_:Nat)≠_;omega) (by show (_:Nat)≠_;omega) c2),⟨x,y,sb.extBut _ _ (nz _ (by omega)) cO⟩,s1.1.extBut sb.extBut (nz _ (by omega)),s2.1.extBut sb.extBut (nz _ (by omega))⟩
 done:=by
  intro X hP hw hK hc i pins s σ H E I hf st hg;subst hP hw hK;obtain ⟨xs,ys,hx,hy,l⟩:=hg;obtain ⟨its,r1,tx,_⟩:=I.tuple hx;obtain ⟨its',r2,ty,_⟩:=I.tuple hy;have e1:=r1.length;have e2:=r2.length;obtain ⟨c1,c2,⟨x0,y0,c3⟩,c4,c5⟩:=st;have hh:X.A.in1.handled=none:=I.ok.hd hc;refine uQ (iP hh n a (by show (_:Nat)≠_;omega) its.toArray) (iP hh (n+1) b (by show (_:Nat)≠_;omega) its'.toArray) (aDb ha hb) c1 c2 c3 ⟨c4,tx⟩ ⟨c5,ty⟩ (by rw [Ak,Ak];omega) λg t' kp=>⟨rfl,I.turnedL (ch:=[n+4,n+2,n+3,n,n+1]) (λc o hc' e=>?_) hf⟩;have hn:∀ d∈[n+4,n+2,n+3,n,n+1],c≠d:=λd hd z=>hc' (by rw [z];exact hd);exact kp c o (hn _ (by simp)) (hn _ (by simp)) (hn _ (by simp)) (hn _ (by simp)) e
 self:=λ_ _ _ _ _ st h=>wpAny_pyIter_zip st.1 h
abbrev yo1 (h:Heap)(a:Addr):Heap:=h.push { cls:=.type "tuple_iterator",data:=.fields #[.ref a,.int 0 0] }
abbrev yo2 (h:Heap)(a b:Addr):Heap:=(yo1 h a).push { cls:=.type "tuple_iterator",data:=.fields #[.ref b,.int 0 0] }
abbrev yo3 (h:Heap)(a b:Addr):Heap:=(yo2 h a b).push { cls:=.type "tuple",data:=.seq #[.ref h.objs.size,.ref (yo1 h a).objs.size] }
abbrev yo4 (h:Heap)(a b:Addr):Heap:=(yo3 h a b).push { cls:=.type "tuple",data:=.seq #[.none,.none] }
abbrev yo5 (h:Heap)(a b:Addr):Heap:=(yo4 h a b).push { cls:=.type "zip",data:=.fields #[.none,.bool false,.bool false,.ref (yo2 h a b).objs.size,.ref (yo3 h a b).objs.size] }
def aAb (a b:Addr)(xs ys:Array Value):Meets (AI.«zip.__new__» ⟨[.type "zip",.ref a,.ref b],[]⟩) (λ_ R s=>s.heap.IsTuple a xs/\s.heap.IsTuple b ys/\R (.ok (.ret (.ref (yo4 s.heap a b).objs.size))) { s with heap:=yo5 s.heap a b }):=.of_wp λprog w A R s h=>by
 obtain ⟨hp,g,d,tk,os⟩:=s;obtain ⟨q1,q2,q⟩:=h;have hsub:=sub_zip;have u1:Heap.IsTuple (Shared.heap ⟨hp,g,d,tk,os⟩) a xs:=q1;have u2:Heap.IsTuple (Shared.heap ⟨hp.push { cls:=.type "tuple_iterator",data:=.fields #[.ref a,.int 0 0] },g,d,tk,os⟩) b ys:=Heap.IsTuple.push q2 _
 wp_walk using EG u1,EG u2
 exact ⟨_,rfl,q⟩
def uM {w:World}(q1:s.heap.IsTuple a xs)(q2:s.heap.IsTuple b ys)(q:∀ g,aDc s.heap.objs.size a b 0 g->(∀ c o,s.heap.get? c=some o->g.get? c=some o)->Q (.ref (s.heap.objs.size+4)) { s with heap:=g }):wpAny (model prog w) A (call (.type "zip") [.ref a,.ref b]) Q E s:=by
 refine callType_new F.called_zip (by decide) (F.typeCall_zip_2 _ _) (F.newCall_zip_2 _ _) (λobj=>F.args_object_init_3 obj _ _) F.entry_zip_new (aAb a b xs ys) ⟨q1,q2,?_⟩;have z1:(yo1 s.heap a).objs.size=s.heap.objs.size+1:=BL ..;have z2:(yo2 s.heap a b).objs.size=s.heap.objs.size+2:=by rw [BL,z1]
 have z3:(yo3 s.heap a b).objs.size=s.heap.objs.size+3:=by rw [BL,z2]
 have z4:(yo4 s.heap a b).objs.size=s.heap.objs.size+4:=by rw [BL,z3]
 have o5:(yo5 s.heap a b).get? (yo4 s.heap a b).objs.size=some _:=Ai _ rfl;have o4:(yo5 s.heap a b).get? (yo3 s.heap a b).objs.size=some _:=Ad _ (Ai _ rfl);have o3:(yo5 s.heap a b).get? (yo2 s.heap a b).objs.size=some _:=Ad _ (Ad _ (Ai _ rfl));have o2:(yo5 s.heap a b).get? (yo1 s.heap a).objs.size=some _:=Ad _ (Ad _ (Ad _ (Ai _ rfl)));have o1:(yo5 s.heap a b).get? s.heap.objs.size=some _:=Ad _ (Ad _ (Ad _ (Ad _ (Ai _ rfl))));rw [z2,z3,z4] at o5;rw [z1,z2] at o3;rw [z3] at o4;rw [z1] at o2;show _/\_;rw [z4];exact ⟨⟨_,o5,rfl⟩,q _ ⟨o5,o3,⟨_,_,o4⟩,⟨_,o1,rfl,rfl⟩,⟨_,o2,rfl,rfl⟩⟩ λc o x=>Ad _ (Ad _ (Ad _ (Ad _ (Ad _ x))))⟩
def aJe (K:Ab)(ta:TA):TI:=λσ H R=>ta σ H λvs H1=>∃ a b,vs=[.ref a,.ref b]/\(∃ xs,SqT K H1 a xs)/\(∃ ys,SqT K H1 b ys)/\R (Itz2 K a b) H1
def aEi {k1:Nat}{p pos:Pos}(hg:Gl X "zip")(hm:X.mg "zip" = none)(ha:PA X [e1,e2] ta)(hs:AQ [e1,e2] X.env=[(false,eval e1 X.env),(false,eval e2 X.env)]:=by rfl)(hs2:AQ [e2] X.env=[(false,eval e2 X.env)]:=by rfl) :
  PI X (.Tuple es k1 p1) (.Call (.Name "zip" p) [e1,e2] [] pos) (aJe X.K ta):=by
 intro pins s σ H R I h;refine Call_ (fS I hg hm aH8 (Bw (thn (ha pos pins s σ H _ I h) λus s1 ⟨vs,H1,I1,r1,q1⟩=>?_) (by rw [hs,hs2]) (by rw [hs2];rfl)));obtain ⟨a,b,rfl,⟨xs,hx⟩,⟨ys,hy⟩,q⟩:=q1;cases r1 with
 |cons r rr=>
  cases rr with
  |cons r' rr=>
   cases rr;cases r;cases r';obtain ⟨its,_,tx,_⟩:=I1.tuple hx;obtain ⟨its',_,ty,_⟩:=I1.tuple hy;have la:a<s1.heap.objs.size:=by obtain ⟨o,e,_⟩:=tx;exact Aq e
   have lb:b<s1.heap.objs.size:=by obtain ⟨o,e,_⟩:=ty;exact Aq e
   refine uM tx (ty) λg st kp=>wpAny_pyIter_zip st.1 ?_;have I2:Inv X pins σ H1 { s1 with heap:=g }:=I1.kept (t':=s1.toks) kp;refine ⟨s1.heap.objs.size+4,_,_,_,H1,rfl,I2,uS la lb,st,λc hc=>?_,q⟩;refine I1.fpOk ?_ (I1.hok.fresh ?_)
   all_goals
    have hc':c=s1.heap.objs.size+4\/c=s1.heap.objs.size+2\/c=s1.heap.objs.size+3\/c=s1.heap.objs.size\/c=s1.heap.objs.size+1:=by simpa using hc
    rcases hc' with e|e|e|e|e<;>(subst e;omega)
variable {X:Cx}
def rListD:List V->Hp->VK->Prop:=λxs H Q=>∃ a kvs,∃ ss:List Str,xs=[.ref a]/\H a=some (.dK kvs)/\kvs.map (·.1)=ss.map AR/\∀ p,H p=none->Q (.ref p) (upd H p (.lst (ss.map V.str)))
def tListRng3 (ta:TA):TE:=λσ H Q=>ta σ H λvs H1=>∃ i j c:Int,vs=[.int i,.int j,.int c]/\(-(2^20)<=i/\i<2^20/\-(2^20)<=j/\j<2^20/\1<=c/\c<2^20)/\(j-i)/c<=900 /\
 ∀ p (ms:List Int),(∀ x∈ms,i<=x/\x<j)->(ms.length:Int)<=max 0 ((j-i-1)/c+1)->H1 p=none->Q (.ref p) (upd H1 p (.lst (ms.map V.int)))
variable {X:Cx}
def Inv.freeze {σ:St}(I:Inv X pins σ H s)(hH:H d=some (.dK kvs))(ho:s.heap.get? d=some ob) :
  Inv X pins σ (upd H d (.frz ob (.dK kvs))) s:=by
 have nd:∀ b u,H b=some u->u≠.dK kvs->b≠d:=λb u e n z=>by
  rw [z,hH] at e;exact n (AG e).symm
 refine I.step (g':=s.gens) (d':=s.drawn) (t':=s.toks) (h':=s.heap) (ch:=[]) (λ_ z=>nomatch z) (λb o _ _ _ e _=>e) (λb o _ _ _ e _=>⟨o.slots,e⟩) (λb o _ e n=>?_) (λb o _ e=>⟨o,e⟩) (λb xs e=>?_) (λb o u e=>?_) (λb ps e=>⟨#[],?_⟩) (λm hm=>hm) (λb u e=>?_) I.bare
 ·rw [aI (λz=>by rw [z,hH] at n;cases n)]
  exact n
 ·rw [aI (nd b _ e (by intro z;cases z))]
  exact e
 ·rw [aI (nd b _ e (by intro z;cases z))]
  exact e
 ·rw [aI (nd b _ e (by intro z;cases z)),e]
  simp
 ·have st:∀ {a:Addr} {u:HO},ObjOk X.prog X.w H s.heap a u->ObjOk X.prog X.w (upd H d (.frz ob (.dK kvs))) s.heap a u:=λx=>
   x.stay (λc v _ q=>q) (λc q=>by rw [aI (nd c _ q (by intro z;cases z))];exact q) λc xs q=>by rw [aI (nd c _ q (by intro z;cases z))];exact q
  by_cases e':b=d
  ·subst e'
   rw [aB] at e;cases e;exact ⟨ho,st (I.hok b _ hH)⟩
  ·rw [aI e'] at e
   exact st (I.hok b u e)
def Itd (d:Addr)(ob:Obj)(kvs:List (Key×V)):It:=
 ⟨λi H=>H d=some (.frz ob (.dK kvs))/\i<kvs.length,λi H v H'=>H'=H/\∃ kv,kvs[i]?=some kv/\v=kV kv.1,λi H=>H d=some (.frz ob (.dK kvs))/\kvs.length<=i⟩
def aFg {w:World}{k:Key}(h:(bD P w).is k v=true):RelV (kV k) v:=by
 cases k with
 |inl n=>
  obtain ⟨t,rfl⟩:=Value.isInt_shape (k:=n) (v:=v) h;exact ⟨t,rfl⟩
 |inr x=>
  obtain ⟨t,rfl⟩:=Du (x:=x) (v:=v) h;exact ⟨t,rfl⟩
def uV {P:Av}{w:World}{K:Ab}{tg:Expr}(d it:Addr)(ob:Obj)(kvs:List (Key×V))(vs:List (Key×Value))(ep:Nat)(rel:KV kvs vs)(hob:∀ h:Heap,h.get? d=some ob->h.DictAt (bD P w) d vs ep) :
  Turn P w K tg (Itd d ob kvs) [it] it (λi h=>h.IsKeyIter it d i vs.length ep) where
 mem:=by simp
 obj:=λi h st b hb=>by
  have e:b=it:=by simpa using hb
  subst e;obtain ⟨o,e,c,d⟩:=st;exact ⟨o,e,λv z=>by rw [d] at z;cases z⟩
 keep:=λi h h' st k=>st.at λo e=>k it (by simp) o e
 item:=by
  intro X hP hw hK hc i pins s σ H E I hf st hg;subst hP hw hK;obtain ⟨hfz,hi⟩:=hg;have ho:s.heap.get? d=some ob:=(show ObjOk X.prog X.w H s.heap d (.frz ob (.dK kvs)) from I.hok d _ hfz).1;have hat:=hob _ ho;have hl:=rel.length;obtain ⟨⟨k,x⟩,hx⟩:∃ p,vs[i]?=some p:=⟨_,Ac (by omega)⟩;obtain ⟨f0,f1,f2,f3,f4,f5⟩:=hf it (by simp);refine wpAny_pyNext_dict_item st hat hx λkey h' hkey st' sb=>?_;have I1:Inv X pins σ H { s with heap:=h' }:=I.turned (t':=s.toks) (λb o hb e=>(sb.2 b hb).trans e) f0 f1 f3 f4 f5;obtain ⟨kv,hkv⟩:∃ kv,kvs[i]?=some kv:=⟨_,Ac hi⟩;have ek:kv.1=k:=by
   have:=congrArg (λl=>l[i]?) rel.keys;simp only [Ao,hkv,hx,CT] at this;exact AG this
  obtain ⟨o,e,c,d'⟩:=id st';exact ⟨key,rfl,uF (s:={ s with heap:=h' }) e c d' (by decide) ⟨kV k,H,I1,aFg hkey,⟨rfl,kv,hkv,by rw [ek]⟩,st',λb hb=>(hf b hb).1⟩⟩
 done:=by
  intro X hP hw hK hc i pins s σ H E I hf st hg;subst hP hw hK;obtain ⟨hfz,hi⟩:=hg;have ho:s.heap.get? d=some ob:=(show ObjOk X.prog X.w H s.heap d (.frz ob (.dK kvs)) from I.hok d _ hfz).1;have hat:=hob _ ho;have hl:=rel.length;obtain ⟨f0,f1,f2,f3,f4,f5⟩:=hf it (by simp);exact wpAny_pyNext_dict_end (I.ok.hd hc) st hat (Ax (by omega)) λh' eb=>⟨rfl,I.turned (t':=s.toks) (λb o hb e=>eb b o hb e) f0 f1 f3 f4 f5⟩
 self:=λ_ _ _ _ _ st h=>wpAny_pyIter_keyiter st h
def aJj (tl:TE):TI:=λσ H R=>tl σ H λx H1=>∃ d kvs,x=.ref d/\H1 d=some (.dK kvs)/\∀ ob,R (Itd d ob kvs) (upd H1 d (.frz ob (.dK kvs)))
def wH {tg l:Expr}{tl:TE}(hl:PE X l tl):PI X tg l (aJj tl):=by
 intro pins s σ H R I h;refine thn (hl pins s σ H _ I h) λv s1 ⟨x,H1,I1,r1,q1⟩=>?_;obtain ⟨d,kvs,e,hH,q⟩:=q1;subst e;cases r1;obtain ⟨z,lo,vs,rel,dd⟩:=uJ I1.hok hH;obtain ⟨ep,hat⟩:=dd.dictAt;obtain ⟨ob,es,ho,rest⟩:=id hat;refine wpAny_pyIter_dict lo hat ?_;have I2:=I1.freeze hH ho;refine ⟨s1.heap.objs.size,[s1.heap.objs.size],_,_,_,rfl,I2.kept (t':=s1.toks) λb o e=>Ad _ e,uV d _ ob kvs vs ep rel (λh e=>⟨ob,es,e,rest⟩),⟨_,Ai _ rfl,rfl,rfl⟩,λb hb=>?_,q ob⟩;have e:b=s1.heap.objs.size:=by simpa using hb
 subst e;exact I2.fpOk (Aj _) (I2.hok.fresh (Aj _))
def aBx {d:Addr}{ob:Obj}{kvs:List (Key×V)}{g:TG}{tb:TS}{D:Ends}{σ:St}{H:Hp}(Pv:Nat->St->Hp->Prop)(h0:Pv 0 σ H)(hl:∀ i σ H,i<=kvs.length->Pv i σ H->H d=some (.frz ob (.dK kvs)))
  (hs:∀ i kv σ H,kvs[i]?=some kv->Pv i σ H->g (kV kv.1) σ H λσ2 H2=>tb { D with nx:=Pv (i+1),ct:=Pv (i+1),bk:=D.nx } σ2 H2) (hd:∀ σ H,Pv kvs.length σ H->D.nx σ H) :
  ∃ W:Nat->Nat->St->Hp->Prop,(∃ m,W 0 m σ H)/\∀ i m σ H,W i m σ H ->
   ((Itd d ob kvs).stop i H/\D.nx σ H)\/((Itd d ob kvs).go i H/\∃ N:St->Hp->Prop,(∀ σ' H',N σ' H'->∃ m',m'<m/\W (i+1) m' σ' H')/\∀ v H',(Itd d ob kvs).yld i H v H'->g v σ H' λσ2 H2=>tb { D with nx:=N,ct:=N,bk:=D.nx } σ2 H2):=by
 refine ⟨λi m σ H=>m=kvs.length-i/\i<=kvs.length/\Pv i σ H,⟨kvs.length,by simp,Bi _,h0⟩,?_⟩
 rintro i m σ H ⟨rfl,hi,p⟩
 have q:=hl i σ H hi p
 by_cases hlt:i<kvs.length
 ·refine .inr ⟨⟨q,hlt⟩,Pv (i+1),λσ' H' p'=>⟨kvs.length-(i+1),by omega,rfl,hlt,p'⟩,λv H' y=>?_⟩
  obtain ⟨rfl,kv,hkv,rfl⟩:=y;exact hs i kv σ H' hkv p
 ·have e:i=kvs.length:=by omega
  subst e;exact .inl ⟨⟨q,Aj _⟩,hd σ H p⟩
end L2
namespace L2
open PySem PySem.Spec PyProof.Rows PySem.W
def mB (CX:CXT)(X:Cx)(σ:St)(E:XK):Prop:=∀ (pins:List (Addr×Obj)) (H:Hp) (s:Shared) (e:Value) (s':Shared),Inv X pins σ H s->CX X.stack H s E e s'->X.xe e s'
section
variable {X:Cx}
def aEb {k:Nat}{σ:St}(F:FnOk X.prog X.w X.K X.mg X.base CX k f fd ps sp)(hr:Room k X.A)(hb:Binds X.K fd ps [])(hx:mB CX X σ E)(I:Inv X pins σ H s)(r:Vals vs us)(h:sp (vs++[]) H Q E):wpAny (model X.prog X.w) X.A (call (.ref f) us) (EP X pins σ Q) X.xe s:=by
 have r2:Vals (vs++[]) (us++[]):=r.append .nil;have hl:(us++[]).length=ps.length:=by rw [<- r2.length];exact F.len _ _ _ _ h
 refine Ez (Cn (F.run X.A X.stack s H ⟨us,[]⟩ (us++[]) (vs++[]) Q E hr I.env0 (hb s us I.kIn hl) r2 h) λr s' hq=>?_);cases r with
 |error e=>exact hx pins H s e s' I hq
 |ok fl=>
  cases fl with
  |ret u=>exact I.after hq
  |next=>exact CH hq
  |brk=>exact CH hq
  |cont=>exact CH hq
def aEp {k:Nat}{p pos:Pos}{σ:St}(C:Cal X.prog X.w X.K X.mg X.base CX k x ps sp)(hr:Room k X.A)(hg:Gl X x)(hx:mB CX X σ E)(ha:PA X (e::es) t)(hdb:(x==("__debug__":Str))=false:=by decide)(he:AQ (e::es) X.env=(false,eval e X.env)::AQ es X.env:=by rfl)(hpl:(backTo pos (AQ es X.env)).any (·.1)=false:=by rfl) :
  PE X (.Call (.Name x p) (e::es) [] pos) (λσ' H Q=>σ'=σ/\aDm sp [] E t σ' H Q):=by
 obtain ⟨f,fd,hm,hk,hb,F⟩:=C.ex;intro pins s σ' H Q I h;obtain ⟨es',h⟩:=h;subst es';refine CQ (fR I hg hm ?_ hdb);refine Ei (h₀:=X.base) I.ok.mod.kin hk (thn (ha pos pins s σ' H _ I h) λus s1 ⟨vs,H1,I1,r,q⟩=>⟨I1.kIn,?_⟩) he hpl;exact aEb F hr hb hx I1 r q
def tTryS (K:Frag)(i j:Nat)(Dc:Addr)(tb:St->XK->TS):TS:=λD σ H=>tb σ (λcls dd H'=>∃ C,cls=.ref C/\ExK K C/\subIn K (.ref C) (.ref Dc)=some true/\∀ a,H' a=none->D.nx (((σ.set i (some (.ref a))).set j (some (.ref a))).set i none) (upd H' a (excD a C dd))) D σ H
end
end L2
namespace L2
open PySem PySem.Spec PyProof.Rows
variable {X:Cx}
def rSortDSR:List V->Hp->VK->Prop:=λxs H Q=>∃ a kvs,∃ ss:List Str,xs=[.ref a]/\Rd H a (.dK kvs)/\kvs.map (·.1)=ss.map AR/\kvs.length<64/\∀ (p:Addr) (ss':List Str),ss'.Perm ss->sortedS ss'=true->H p=none->Q (.ref p) (upd H p (.lst (ss'.map V.str)))
def tListValsR (td:TE):TE:=λσ H Q=>td σ H λx H1=>∃ a kvs,x=.ref a/\Rd H1 a (.dK kvs)/\∀ p,H1 p=none->Q (.ref p) (upd H1 p (.lst (kvs.map (·.2))))
def Fz (H H':Hp):Prop:=∀ b o,H b=some o->H' b=some o\/∃ ob kvs,o=.dK kvs/\H' b=some (.frz ob (.dK kvs))
def Hld (d:Addr)(ob:Obj)(kvs:List (Key×V))(H H':Hp):Prop:=H' d=some (.frz ob (.dK kvs))/\(∀ b,b≠d->H' b=H b)/\(H d=some (.dK kvs)\/H d=some (.frz ob (.dK kvs)))
section
variable {X:Cx}
def iDictR (tl:TE):TI:=λσ H R=>tl σ H λx H1=>∃ d kvs,x=.ref d/\Rd H1 d (.dK kvs)/\∀ ob H2,Hld d ob kvs H1 H2->R (Itd d ob kvs) H2
def rDictD:List V->Hp->VK->Prop:=λxs H Q=>∃ a kvs,xs=[.ref a]/\Rd H a (.dK kvs)/\∀ p,H p=none->Q (.ref p) (upd H p (.dK kvs))
def DDeq (K:Ab)(H:Hp)(ka kb:List (Key×V)):Prop:=ka.length=kb.length/\∀ kv∈ka,∃ v' d,valV kb kv.1=some v'/\Dv K H 30 kv.2 d/\Dv K H 30 v' d
def rNeDD (K:Ab):R2:=λx y H Q=>∃ a b ka kb,x=.ref a/\y=.ref b/\Rd H a (.dK ka)/\Rd H b (.dK kb)/\DDeq K H ka kb/\Q (.bl false) H
def rEqDD (K:Ab):R2:=λx y H Q=>∃ a b ka kb,x=.ref a/\y=.ref b/\Rd H a (.dK ka)/\Rd H b (.dK kb)/\DDeq K H ka kb/\Q (.bl true) H
end
def EqIn (P:Av)(w:World)(A:Around)(s:Shared)(y x:Value):Prop:=∀ (E:Value->Shared->Prop) (Q:Bool->Shared->Prop),Q true s->wpAny (model P w) A (eqBool y x) Q E s
section
open AutoSeq1 MeetsSeq MeetsSeq2 MeetsSeq3 SeqAt
variable {P:Av}{w:World}
end
section
variable {X:Cx}
def rNeLD (K:Ab):R2:=λx y H Q=>∃ a b xs ys,x=.ref a/\y=.ref b/\SqL K H a xs/\SqL K H b ys/\xs.length=ys.length /\
 (∀ (j:Nat) x y,xs[j]?=some x->ys[j]?=some y->∃ da db ka kb,x=.ref da/\y=.ref db/\Rd H da (.dK ka)/\Rd H db (.dK kb)/\DDeq K H ka kb)/\Q (.bl false) H
end
end L2
namespace HT
open PySem PyProof.Rows
def lexLtS:List Str->List Str->Bool
 |[],[]=>false
 |[],_::_=>true
 |_::_,[]=>false
 |x::xs,y::ys=>if x=y then lexLtS xs ys else decide (x.cps.toList<y.cps.toList)
theorem lexLtS_cons (x y:Str)(xs ys:List Str):lexLtS (x::xs) (y::ys)=if x=y then lexLtS xs ys else decide (x.cps.toList<y.cps.toList):=rfl
section
open PySem.SeqAt
open PySem.AutoSeq1 (wpAny_loadPart')
open PySem.MeetsSeq PySem.MeetsSeq2 PySem.MeetsSeq3
end
section
variable {prog:Av}{w:World}{A:Around}{E:Value->Shared->Prop}{s:Shared}
end
end HT
namespace L2
open PySem PySem.Spec PyProof.Rows
section
variable {X:Cx}
def rLtTS (K:Ab):R2:=λx y H Q=>∃ a b ns ms,x=.ref a/\y=.ref b/\SqT K H a (ns.map V.str)/\SqT K H b (ms.map V.str)/\Q (.bl (HT.lexLtS ns ms)) H
end
end L2
namespace HT
open PySem PySem.Spec PyProof.Rows
section
variable {prog:Av}{w:World}{A:Around}{E:Value->Shared->Prop}{s:Shared}
def cat_tup0 {t b:Addr}{ws:List Value}{Q:Value->Shared->Prop}(ht:IsTup s.heap t #[])(hb:IsTup s.heap b ws.toArray)(h:Q (.ref b) s):wpAny (model prog w) A (Em .Add (.ref t) (.ref b)) Q E s:=by
 obtain ⟨⟨cls,dd,data,sl⟩,ho,hc,n,hd⟩:=id ht;obtain ⟨⟨cls2,dd2,data2,sl2⟩,ho2,hc2,n2,hd2⟩:=id hb;simp only at hc hd hc2 hd2;subst hc hd hc2 hd2;exact concat_meets ⟨_,ho,rfl⟩ ⟨_,ho2,rfl⟩ noFill_tuple_add seq_tuple_add PySem.F.slot_tuple_add Fv (Fk _ _)
   (tuple_addW0 t b #[] ws.toArray n n2 dd dd2 sl sl2 (by simp)) ⟨ho,ho2,h⟩
end
end HT
namespace L2
open PySem PySem.Spec PyProof.Rows
section
variable {X:Cx}
def aCq (K:Ab):R2:=λx y H Q=>∃ a b ys,x=.ref a/\y=.ref b/\SqT K H a []/\SqT K H b ys/\Q (.ref b) H
def aA4:OpR X (Em .Add) (aCq X.K):=by
 intro pins s σ H x y v u Q I rx ry h;obtain ⟨a,b,ys,rfl,rfl,ha,hb,q⟩:=h;cases rx;cases ry;obtain ⟨its,r1,p1,_⟩:=I.tuple ha;obtain ⟨its2,r2,p2,_⟩:=I.tuple hb;cases r1;exact HT.cat_tup0 p1 p2 ⟨.ref b,H,I,rfl,q⟩
def aCp (K:Ab):R2:=λx y H Q=>aCq K x y H Q\/aGx K x y H Q
def aA3:OpR X (Em .Add) (aCp X.K):=by
 intro pins s σ H x y v u Q I rx ry h
 rcases h with h|h
 ·exact aA4 pins s σ H x y v u Q I rx ry h
 ·exact aEv pins s σ H x y v u Q I rx ry h
def rRepT (K:Ab):R2:=λx y H Q=>∃ a k xs,x=.ref a/\y=.int k/\SqT K H a xs/\xs≠[]/\2<=k/\k<=1000/\xs.length<=1000/\∀ p,H p=none->Q (.ref p) (upd H p (.tup (Co k.toNat xs).flatten))
end
def Itr3 (lo c:Int)(n:Nat):It:=⟨λi _=>i<n,λi H x H'=>H'=H/\x=.int (lo+(i:Nat)*c),λi _=>n<=i⟩
def iRng3 (ta:TA):TI:=λσ H R=>ta σ H λvs H1=>∃ i j c:Int,vs=[.int i,.int j,.int c]/\(-(2^20)<=i/\i<=2^20/\-(2^20)<=j/\j<=2^20/\0<c/\c<=2^20)/\R (Itr3 i c (if i<j then (j-i-1)/c+1 else 0).toNat) H1
def tSortR (K:Ab)(te:TE):TE:=λσ H Q=>te σ H λx H1=>∃ (a:Addr) (ns:List Int),x=.ref a/\SqL K H1 a (ns.map V.int)/\ns.length<64 /\
 ∀ (p:Addr) (ns':List Int),ns'.Perm ns->ns'.Pairwise (· ≥ ·)->H1 p=none->Q (.ref p) (upd H1 p (.lst (ns'.map V.int)))
abbrev rngObj (n:Int)(t u v:Tok):Obj:={ cls:=.type "range",data:=.fields #[.int 0 t,.int n u,.int 1 v] }
abbrev rngIt (n:Int):Obj:={ cls:=.type "range_iterator",data:=.fields #[rawInt (n-1),rawInt n,rawInt (-1)] }
section
variable {prog:Av}{w:World}{A:Around}{E:Value->Shared->Prop}{s:Shared}
end
def iRev (ta:TA):TI:=λσ H R=>ta σ H λvs H1=>∃ n:Int,vs=[.int n]/\0<=n/\n<2^62/\R (Itr3 (n-1) (-1) n.toNat) H1
def Itv (K:Ab)(a:Addr)(n:Nat):It:=
 ⟨λi H=>∃ xs,SqL K H a xs/\xs.length=n/\i<n,λi H x H'=>H'=H/\∀ xs,SqL K H a xs->xs[n-1-i]?=some x,λi H=>n<=i⟩
def aAf {P:Av}{w:World}{K:Ab}{tg:Expr}(a it:Addr)(n:Nat):Turn P w K tg (Itv K a n) [it] it (λi h=>i<=n/\h.IsRevIter it a ((n:Int)-1-i)) where
 mem:=by simp
 obj:=λi h st b hb=>by
  have e:b=it:=by simpa using hb
  subst e;obtain ⟨_,o,e,c,d⟩:=st;exact ⟨o,e,λv z=>by rw [d] at z;cases z⟩
 keep:=λi h h' st k=>⟨st.1,st.2.at λo e=>k it (by simp) o e⟩
 item:=by
  intro X hP hw hK hc i pins s σ H E I hf st hg;subst hP hw hK;obtain ⟨xs,hq,hl,hi⟩:=hg;obtain ⟨x,hx⟩:∃ x,xs[n-1-i]?=some x:=⟨_,Ac (by omega)⟩;obtain ⟨its,rv,p,hz⟩:=I.list hq;obtain ⟨u,hu,ru⟩:=rv.get hx;obtain ⟨f0,f1,f2,f3,f4,f5⟩:=hf it (by simp);obtain ⟨_,st⟩:=st;have ei:(n:Int)-1-i=((n-1-i:Nat):Int):=by omega
  rw [ei] at st;refine wpAny_pyNext_rev_item st p.isList (x:=u) (by simpa using hu) λh' st' sb=>?_;have I1:Inv X pins σ H { s with heap:=h' }:=I.turned (t':=s.toks) (λb o hb e=>(sb.2 b hb).trans e) f0 f1 f3 f4 f5;obtain ⟨o,e,c,d⟩:=id st';have ej:((n-1-i:Nat):Int)-1=(n:Int)-1-((i+1:Nat):Int):=by omega
  rw [ej] at st';exact ⟨u,rfl,uF (s:={ s with heap:=h' }) e c d (by decide) ⟨x,H,I1,ru,⟨rfl,λys hy=>by rw [I.list_inj hy hq];exact hx⟩,⟨hi,st'⟩,λb hb=>(hf b hb).1⟩⟩
 done:=by
  intro X hP hw hK hc i pins s σ H E I hf st hg;subst hP hw hK;obtain ⟨f0,f1,f2,f3,f4,f5⟩:=hf it (by simp);obtain ⟨l,st⟩:=st;have hg':n<=i:=hg;have ei:(n:Int)-1-i=-1:=by omega
  rw [ei] at st;exact wpAny_pyNext_rev_end (I.ok.hd hc) st λh' eb=>⟨rfl,I.turned (t':=s.toks) (λb o hb e=>eb b o hb e) f0 f1 f3 f4 f5⟩
 self:=λ_ _ _ _ _ st h=>wpAny_pyIter_revIter st.2 h
def aJh (K:Ab)(ta:TA):TI:=λσ H R=>ta σ H λvs H1=>∃ a xs,vs=[.ref a]/\SqL K H1 a xs/\R (Itv K a xs.length) H1
def aEj {X:Cx}{tg a:Expr}{ta:TA}{p pos:Pos}(hg:Gl X "reversed")(hm:X.mg "reversed" = none)(ha:PA X [a] ta)(hs:AQ [a] X.env=[(false,eval a X.env)]:=by rfl) :
  PI X tg (.Call (.Name "reversed" p) [a] [] pos) (aJh X.K ta):=by
 intro pins s σ H R I h;refine Call_ (fS I hg hm boot_reversed (Bw (thn (ha pos pins s σ H _ I h) λus s1 ⟨vs,H1,I1,r1,q1⟩=>?_) hs rfl));obtain ⟨l,xs,e,hq,q⟩:=q1;subst e;cases r1 with
 |cons r rr=>
  cases rr;cases r;obtain ⟨its,rv,pl,hz⟩:=I1.list hq;have hl:=rv.length;refine call_reversed_list pl.isList ?_;have I2:Inv X pins σ H1 { s1 with heap:=s1.heap.push (revObj l ((its.toArray.size:Int)-1)) }:=I1.kept (t':=s1.toks) λb o e=>Ad _ e;have hi:(s1.heap.push (revObj l ((its.toArray.size:Int)-1))).IsRevIter s1.heap.objs.size l ((its.toArray.size:Int)-1):=⟨_,Ai _ rfl,rfl,rfl⟩;refine wpAny_pyIter_revIter hi ?_;refine ⟨_,[_],_,_,H1,rfl,I2,aAf l _ xs.length,⟨Bi _,?_⟩,λb hb=>?_,q⟩
  ·have e:((xs.length:Nat):Int)-1-((0:Nat):Int)=(its.toArray.size:Int)-1:=by rw [Ak];omega
   rw [e];exact hi
  ·have e:b=s1.heap.objs.size:=by simpa using hb
   subst e;exact I1.fpOk (Aj _) (I1.hok.fresh (Aj _))
def aBv {K:Ab}{a:Addr}{xs:List V}{g:TG}{tb:TS}{D:Ends}{σ:St}{H:Hp}(Pv:Nat->St->Hp->Prop)(h0:Pv 0 σ H)(hl:∀ i σ H,i<=xs.length->Pv i σ H->SqL K H a xs)
  (hs:∀ i x σ H,i<xs.length->xs[xs.length-1-i]?=some x->Pv i σ H->g x σ H λσ2 H2=>tb { D with nx:=Pv (i+1),ct:=Pv (i+1),bk:=D.nx } σ2 H2) (hd:∀ σ H,Pv xs.length σ H->D.nx σ H) :
  ∃ W:Nat->Nat->St->Hp->Prop,(∃ m,W 0 m σ H)/\∀ i m σ H,W i m σ H ->
   ((Itv K a xs.length).stop i H/\D.nx σ H)\/((Itv K a xs.length).go i H/\∃ N:St->Hp->Prop,(∀ σ' H',N σ' H'->∃ m',m'<m/\W (i+1) m' σ' H')/\∀ v H',(Itv K a xs.length).yld i H v H'->g v σ H' λσ2 H2=>tb { D with nx:=N,ct:=N,bk:=D.nx } σ2 H2):=by
 refine ⟨λi m σ H=>m=xs.length-i/\i<=xs.length/\Pv i σ H,⟨xs.length,by simp,Bi _,h0⟩,?_⟩
 rintro i m σ H ⟨rfl,hi,p⟩
 have q:=hl i σ H hi p
 by_cases hlt:i<xs.length
 ·refine .inr ⟨⟨xs,q,rfl,hlt⟩,Pv (i+1),λσ' H' p'=>⟨xs.length-(i+1),by omega,rfl,hlt,p'⟩,λv H' y=>?_⟩
  obtain ⟨rfl,y⟩:=y;exact hs i v σ H' hlt (y xs q) p
 ·have e:i=xs.length:=by omega
  subst e;exact .inl ⟨Aj _,hd σ H p⟩
end L2
namespace L2
open PySem PySem.Spec PyProof.Rows PySem.W
structure Cal1 (P:Av)(w:World)(K:Frag)(mg:Str->Option Value)(base:Heap)(CX:CXT)(k:Nat)(x:Str)(ps:List Str)(sp:Sp)(dv:V):Prop where
 ex:∃ (f:Addr) (fd:Az) (u:Value),mg x=some (.ref f)/\keepIn K (.ref f)=true/\Binds K fd ps [u]/\RelV dv u/\FnOk P w K mg base CX k f fd ps sp
end L2
namespace L2
open PySem PySem.Spec PyProof.Rows
def eV {lo:Int}{n:Nat}{g:TG}{tb:TS}{D:Ends}{σ:St}{H:Hp}(Pv:Nat->St->Hp->Prop)(h0:Pv 0 σ H)
  (hs:∀ i σ H (D':Ends),(∀ σ' H',Pv (i+1) σ' H'->D'.nx σ' H')->i<n->Pv i σ H->g (.int (lo+i)) σ H (tb D')) (hd:∀ σ H,Pv n σ H->D.nx σ H) :
  ∃ W:Nat->Nat->St->Hp->Prop,(∃ m,W 0 m σ H)/\∀ i m σ H,W i m σ H ->
   ((Itr lo n).stop i H/\D.nx σ H)\/((Itr lo n).go i H/\∃ N:St->Hp->Prop,(∀ σ' H',N σ' H'->∃ m',m'<m/\W (i+1) m' σ' H')/\∀ x H',(Itr lo n).yld i H x H'->g x σ H' λσ2 H2=>tb { D with nx:=N,ct:=N,bk:=D.nx } σ2 H2):=
 eJ Pv h0 (λi σ H hi p=>hs i σ H { D with nx:=Pv (i+1),ct:=Pv (i+1),bk:=D.nx } (λ_ _ h=>h) hi p) hd
def nN {d:Addr}{ob:Obj}{kvs:List (Key×V)}{g:TG}{tb:TS}{D:Ends}{σ:St}{H:Hp}(Pv:Nat->St->Hp->Prop)(h0:Pv 0 σ H)(hl:∀ i σ H,i<=kvs.length->Pv i σ H->H d=some (.frz ob (.dK kvs)))
  (hs:∀ i kv σ H (D':Ends),(∀ σ' H',Pv (i+1) σ' H'->D'.nx σ' H')->kvs[i]?=some kv->Pv i σ H->g (kV kv.1) σ H (tb D')) (hd:∀ σ H,Pv kvs.length σ H->D.nx σ H) :
  ∃ W:Nat->Nat->St->Hp->Prop,(∃ m,W 0 m σ H)/\∀ i m σ H,W i m σ H ->
   ((Itd d ob kvs).stop i H/\D.nx σ H)\/((Itd d ob kvs).go i H/\∃ N:St->Hp->Prop,(∀ σ' H',N σ' H'->∃ m',m'<m/\W (i+1) m' σ' H')/\∀ v H',(Itd d ob kvs).yld i H v H'->g v σ H' λσ2 H2=>tb { D with nx:=N,ct:=N,bk:=D.nx } σ2 H2):=
 aBx Pv h0 hl (λi x σ H hx p=>hs i x σ H { D with nx:=Pv (i+1),ct:=Pv (i+1),bk:=D.nx } (λ_ _ h=>h) hx p) hd
def yU {K:Ab}{a:Addr}{xs:List V}{g:TG}{tb:TS}{D:Ends}{σ:St}{H:Hp}(Pv:Nat->St->Hp->Prop)(h0:Pv 0 σ H)(hl:∀ i σ H,i<=xs.length->Pv i σ H->SqL K H a xs)
  (hs:∀ i x σ H (D':Ends),(∀ σ' H',Pv (i+1) σ' H'->D'.nx σ' H')->i<xs.length->xs[xs.length-1-i]?=some x->Pv i σ H->g x σ H (tb D')) (hd:∀ σ H,Pv xs.length σ H->D.nx σ H) :
  ∃ W:Nat->Nat->St->Hp->Prop,(∃ m,W 0 m σ H)/\∀ i m σ H,W i m σ H ->
   ((Itv K a xs.length).stop i H/\D.nx σ H)\/((Itv K a xs.length).go i H/\∃ N:St->Hp->Prop,(∀ σ' H',N σ' H'->∃ m',m'<m/\W (i+1) m' σ' H')/\∀ v H',(Itv K a xs.length).yld i H v H'->g v σ H' λσ2 H2=>tb { D with nx:=N,ct:=N,bk:=D.nx } σ2 H2):=
 aBv Pv h0 hl (λi x σ H hi hx p=>hs i x σ H { D with nx:=Pv (i+1),ct:=Pv (i+1),bk:=D.nx } (λ_ _ h=>h) hi hx p) hd
section
variable {D:Ends}{σ:L2.St}{H:Hp}
def cut3 (h:let u3:TS:=t3;let u2:TS:=tSeq t2 u3;tSeq t1 u2 D σ H):(tSeq t1 (tSeq t2 (t3))) D σ H:=h
def cut5 (h:let u5:TS:=t5;let u4:TS:=tSeq t4 u5;let u3:TS:=tSeq t3 u4;let u2:TS:=tSeq t2 u3;tSeq t1 u2 D σ H):(tSeq t1 (tSeq t2 (tSeq t3 (tSeq t4 (t5))))) D σ H:=h
def cut7 (h:let u7:TS:=t7;let u6:TS:=tSeq t6 u7;let u5:TS:=tSeq t5 u6;let u4:TS:=tSeq t4 u5;let u3:TS:=tSeq t3 u4;let u2:TS:=tSeq t2 u3;tSeq t1 u2 D σ H):(tSeq t1 (tSeq t2 (tSeq t3 (tSeq t4 (tSeq t5 (tSeq t6 (t7))))))) D σ H:=h
end
end L2
namespace L2
open PySem PySem.Spec PyProof.Rows PySem.W
section
variable {X:Cx}
end
end L2
namespace TM
open PySem PySem.Spec PyProof.Rows PySem.W
def aG0 {α:Type}[BEq α][LawfulBEq α](f:Nat->α):∀ (j:Nat) (l:List α),(∀ i,i<j->f i∈l)->(∀ i k,i<j->k<j->f i=f k->i=k)->j<=l.length:=by
 intro j
 induction j with
 |zero=>
  intro l _ _;exact Bi _
 |succ j ih=>
  intro l hm hi;have h1:=hm j (Cg _);have:=ih (l.erase (f j)) (λi hij=>(List.mem_erase_of_ne (λe=>by
   have:=hi i j (by omega) (by omega) e;omega)).mpr (hm i (by omega))) (λi k a b e=>hi i k (by omega) (by omega) e)
  rw [List.length_erase_of_mem h1] at this;have:0<l.length:=List.length_pos_of_mem h1;omega
def rd (c j:Nat):Nat:=97+(c-97+j)%26
abbrev LET:Str:="abcdefghijklmnopqrstuvwxyz"
def sX {j:Nat}(h:j<26):(cps LET)[j]?=some (97+j):=by
 have all:∀ k:Fin 26,(cps LET)[k.val]?=some (97+k.val):=by decide +kernel
 exact all ⟨j,h⟩
end TM
namespace GM
structure Fr (M t b N:Int):Prop where
 am:Amt t b
 e:t*M=N*b
def Fr.of {M t b:Int}(am:Amt t b)(d:b∣M):Fr M t b (t*(M/b)):=⟨am,by rw [BM,Int.ediv_mul_cancel d]⟩
def Fr.zero {M:Int}:Fr M 0 1 0:=⟨aFq (by decide),by simp⟩
def Fr.plus {M t1 b1 N1 t2 b2 N2:Int}(h1:Fr M t1 b1 N1)(h2:Fr M t2 b2 N2):Fr M ((t1*b2+t2*b1)/G (t1*b2+t2*b1) (b1*b2)) (b1*b2/G (t1*b2+t2*b1) (b1*b2)) (N1+N2):=by
 have a1:=h1.am.b1;have a2:=h2.am.b1;have n1:=BB h1.am.t0 (show 0<=b2 by omega);have n2:=BB h2.am.t0 (show 0<=b1 by omega);have hb:1<=b1*b2:=by
  have:=Int.mul_le_mul a1 a2 (by decide) (by omega);omega
 refine ⟨jO (by omega) hb,?_⟩;have crs:=gO (t1*b2+t2*b1) (b1*b2);generalize (t1*b2+t2*b1)/G (t1*b2+t2*b1) (b1*b2)=x at *
 generalize b1*b2/G (t1*b2+t2*b1) (b1*b2)=y at *
 refine Bm (show b1*b2≠0 by omega) ?_
 calc x*M*(b1*b2)=(x*(b1*b2))*M:=by rw [BM,BJ M,<- BM]
  _=((t1*b2+t2*b1)*y)*M:=by rw [crs]
  _=((t1*M)*b2+(t2*M)*b1)*y:=by
   rw [AS,Int.add_mul,AS t1,AS t2]
  _=((N1*b1)*b2+(N2*b2)*b1)*y:=by rw [h1.e,h2.e]
  _=(N1+N2)*y*(b1*b2):=by
   rw [AS (N1+N2),Int.add_mul N1,BM N1,BM N2,BJ b2 b1]
def Fr.uniq {M t b N t' b':Int}(hM:0<M)(h:Fr M t b N)(h':Fr M t' b' N):t=t'/\b=b':=by
 have c:t'*b=t*b':=by
  refine Bm (show M≠0 by omega) ?_
  calc t'*b*M=(t'*M)*b:=by rw [AS]
   _=(N*b')*b:=by rw [h'.e]
   _=(N*b)*b':=by rw [AS]
   _=t*M*b':=by rw [h.e]
   _=t*b'*M:=by rw [AS]
 obtain ⟨e1,e2⟩:=kP h.am.t0 h.am.b1 h'.am c;rw [h.am.g,Int.ediv_one] at e1 e2;exact ⟨e1,e2⟩
def Fr.nonneg {M t b N:Int}(hM:0<M)(h:Fr M t b N):0<=N:=by
 have a1:=h.am.b1;have n1:=BB h.am.t0 (show 0<=M by omega);rw [h.e] at n1
 by_cases z:0<=N
 ·exact z
 ·have:=Int.mul_neg_of_neg_of_pos (show N<0 by omega) (show 0<b by omega)
  omega
def Fr.dvd {M t b N:Int}(h:Fr M t b N):b∣M:=by
 have d:b∣M*t:=⟨N,by rw [BJ M,h.e,BJ]⟩;have g:Int.gcd b t=1:=by
  have:=h.am.g;unfold G at this;rw [Int.gcd_comm];omega
 have d':b.natAbs∣M.natAbs*t.natAbs:=by
  rw [<- Int.natAbs_mul];exact Int.natAbs_dvd_natAbs.mpr d
 have c:Nat.Coprime b.natAbs t.natAbs:=g;exact Int.natAbs_dvd_natAbs.mp (c.dvd_of_dvd_mul_right d')
def Fr.nought {M t b N:Int}(hM:0<M)(h:Fr M t b N):N=0↔t=0:=by
 have a1:=h.am.b1;constructor
 ·intro z
  have:=h.e;rw [z,Br] at this
  rcases DQ.mp this with q|q
  ·exact q
  ·omega
 ·intro z
  have:=h.e;rw [z,Br] at this
  rcases DQ.mp this.symm with q|q
  ·exact q
  ·omega
end GM
namespace K52
open PySem PySem.Spec PyProof.Rows L2 GM TM
def top (i:Nat):Stmt:=PySem.Challenge.pw_phialhouse_k52_thinned.main.body.getD i (.Pass ⟨0,0,0,0⟩)
abbrev aD6:Stmt:=top 13
abbrev sGcd:Stmt:=top 14
abbrev sLow:Stmt:=top 15
abbrev aD7:Stmt:=top 16
abbrev aD3:Stmt:=top 17
abbrev vS:Stmt:=top 18
abbrev vN:Stmt:=top 19
abbrev aD5:Stmt:=top 20
abbrev pF:Stmt:=top 24
abbrev gH:Stmt:=top 25
abbrev oX:Stmt:=top 26
abbrev iZ:Stmt:=top 27
abbrev pA:Stmt:=top 29
abbrev oW:Stmt:=top 38
abbrev iX:Stmt:=top 39
abbrev pI:Stmt:=top 40
abbrev mR:Stmt:=top 41
abbrev pB:Stmt:=top 42
abbrev pH:Stmt:=top 44
abbrev oY:Stmt:=top 45
abbrev jC:Stmt:=top 47
abbrev gG:Stmt:=top 48
abbrev gA:Stmt:=top 49
abbrev aEa:Stmt:=top 51
abbrev vR:Stmt:=top 52
abbrev vL:Stmt:=top 53
abbrev pE:Stmt:=top 54
abbrev sAdd:Stmt:=top 55
abbrev aD2:Stmt:=top 56
abbrev sBy:Stmt:=top 57
abbrev vM:Stmt:=top 58
abbrev vV:Stmt:=top 59
abbrev vQ:Stmt:=top 60
abbrev iY:Stmt:=top 61
abbrev sSum:Stmt:=top 62
abbrev aD8:Stmt:=top 63
abbrev oZ:Stmt:=top 64
abbrev vY:Stmt:=top 65
abbrev aD9:Stmt:=top 66
abbrev vW:Stmt:=top 67
abbrev aD4:Stmt:=top 68
abbrev lI:Stmt:=top 69
abbrev sRow:Stmt:=top 70
abbrev pG:Stmt:=top 71
abbrev sEnd:Stmt:=top 72
abbrev jA:Stmt:=top 73
abbrev vX:Stmt:=top 74
abbrev sLaw:Stmt:=top 75
structure Txt (mg:Str->Option Value):Prop where
 isi:mg "isinstance" = none
 int':mg "int" = none
 bool':mg "bool" = none
 tup':mg "tuple" = none
 str':mg "str" = none
 len:mg "len" = none
 range:mg "range" = none
 min':mg "min" = none
 max':mg "max" = none
 abs':mg "abs" = none
 list':mg "list" = none
 sorted':mg "sorted" = none
 zip':mg "zip" = none
 set':mg "set" = none
 all':mg "all" = none
 enum':mg "enumerate" = none
 val:mg "ValueError" = none
 dict':mg "dict" = none
 rev':mg "reversed" = none
def aDq:Sp:=λvs H Q _=>∃ a b:Int,vs=[.int a,.int b]/\0<=a/\0<=b/\Q (.int (G a b)) H
def mG (K:Ab):Sp:=λvs H Q _=>∃ (a:Addr) (ns:List Int) (k:Int),vs=[.ref a,.int k]/\SqL K H a (ns.map V.int)/\0<=k/\∀ c:Int,Q (.int c) H
structure Wr (x:Str):Prop where
 l1:1<=x.length
 l8:x.length<=8
 lt:∀ c∈cps x,97<=c/\c<=122
instance (x:Str):Decidable (Wr x):=decidable_of_iff ((1<=x.length/\x.length<=8)/\∀ c∈cps x,97<=c/\c<=122) ⟨λh=>⟨h.1.1,h.1.2,h.2⟩,λh=>⟨⟨h.l1,h.l8⟩,h.lt⟩⟩
instance (x:Str):Decidable (Wr x):=decidable_of_iff ((1<=x.length/\x.length<=8)/\∀ c∈cps x,97<=c/\c<=122) ⟨λh=>⟨h.1.1,h.1.2,h.2⟩,λh=>⟨⟨h.l1,h.l8⟩,h.lt⟩⟩
abbrev ltP (p q:Str×Str):Prop:=HT.lexLtS [p.1,p.2] [q.1,q.2]=true
def PsL (K:Ab)(H:Hp)(us:List V)(ps:List (Str×Str)):Prop:=us.length=ps.length/\∀ (i:Nat) u p,us[i]?=some u->ps[i]?=some p->∃ q,u=.ref q/\SqT K H q [.str p.1,.str p.2]
def aH9 (ps:List (Str×Str)):Prop:=∀ (i:Nat) p q,ps[i]?=some p->ps[i+1]?=some q->ltP p q
section
variable {P:Av}{w:World}{K:Ab}{mg:Str->Option Value}{base:Heap}
def rY {a0 b0 a b:Int}(e:G a b=G a0 b0)(hb:0<=b)(h:¬ b=0):0<=a%b/\G b (a%b)=G a0 b0:=⟨Int.emod_nonneg a h,by rw [aIc];exact e⟩
def aAr:FnScope ["one","other","rest"] ["one","other"] (aG sGcd):=fnScOk (by decide +kernel)
def aHe {f:Addr}{fd:Az}(F:Fun K "common_divisor" "common_divisor" sGcd f fd):FnOk P w K mg base CX0 1 f fd ["one","other"] aDq:=by
 refine F.ok aAr (λvs H Q E h=>?_) (λcdv A outer s H vs Q E hr h=>?_)
 ·obtain ⟨a,b,rfl,_⟩:=h
  rfl
 ·obtain ⟨a,b,rfl,ha,hb,k⟩:=h
  refine ⟨_,aD (lM AJ (aM pP (pv 1) aH (aV _))
   (aD (aL (i:=2) aAr.nd rfl (Or.inl rfl) (aP bQ (pv 0) (pv 1)))
   (aD (aL (i:=0) aAr.nd rfl (Or.inl rfl) (pv 1))
   (aE (aL (i:=1) aAr.nd rfl (Or.inl rfl) (pv 2))))))
   (aE (aK (pv 0))),?_⟩
  refine qM (λσ H'=>H'=H/\∃ (x y:Int) (r:Option V),σ=[some (.int x),some (.int y),r]/\0<=x/\0<=y/\G x y=G a b) (λσ _=>match σ with|[_,some (.int y),_]=>y.toNat|_=>0) ⟨rfl,a,b,none,rfl,ha,hb,rfl⟩ ?_ ?_
  ·rintro σ H' ⟨rfl,x,y,r,rfl,hx,hy,e⟩
   refine ⟨_,rfl,rfl,_,rfl,?_⟩;refine ite2 (λhc=>?_) (λhc=>?_)
   ·have hy0:¬ y=0:=by
     intro z;subst z;simp at hc
    have t:=rY e hy hy0;refine ⟨_,rfl,_,rfl,_,_,rfl,rfl,(by show 0<y;omega),_,rfl,_,rfl,⟨rfl,y,x%y,_,rfl,hy,t.1,t.2⟩,?_⟩;have:=Int.emod_lt_of_pos x (show 0<y by omega);have:=t.1;show (x%y).toNat<y.toNat;omega
   ·have hy0:y=0:=by
     by_cases z:y=0
     ·exact z
     ·exfalso
      apply hc
      simp [z]
    subst hy0;rw [aDe hx] at e;exact ⟨_,rfl,by rw [e];exact k⟩
  ·rintro σ H' Q1 Q2 hq ⟨v,e,z,q⟩
   exact ⟨v,e,z,by obtain ⟨k,e,q⟩:=q;exact ⟨k,e,hq _ _ q⟩⟩
def b6 {n:Nat}{x:Int}(h:Bt n x)(hn:n<=1000000:=by decide):Bt 1000000 x:=h.mono hn
def dZ (n:Nat){x c:Int}(h0:0<=x)(h:x<c)(hc:c<=((2^n:Nat):Int):=by decide +kernel):Bt n x:=by
 show x.natAbs<2^n;omega
def bR (x:Int){m:Int}(h:0<m):0<=x%m/\x%m<m:=⟨Int.emod_nonneg x (by omega),Int.emod_lt_of_pos x h⟩
def zR:Ce "int" = some (.type "int"):=by decide +kernel
def zU:Ce "bool" = some (.type "bool"):=by decide +kernel
def cY:Ce "tuple" = some (.type "tuple"):=by decide +kernel
def aC9:Ce "str" = some (.type "str"):=by decide +kernel
def bl {c:Int}(h0:0<=c:=by decide)(h:c<18446744073709551616:=by decide):Bt 1000000 c:=b6 (dZ 64 h0 h)
def bk {c:Int}(h0:0<=c:=by decide)(h:c<18446744073709551616:=by decide):Bt 1000 c:=(dZ 64 h0 h).mono (by decide)
def aGp:FnScope ["_law_script","_law_k"] ["_law_script","_law_k"] (aG aEa):=fnScOk (by decide +kernel)
def aE6 {f:Addr}{fd:Az}(F:Fun K "_law_cell_at" "_law_cell_at" aEa f fd)(T:Txt mg):FnOk P w K mg base CX0 1 f fd ["_law_script","_law_k"] (mG K):=by
 refine F.ok aGp (λvs H Q E h=>?_) (λcdv A outer s H vs Q E hr h=>?_)
 ·obtain ⟨_,_,_,rfl,_⟩:=h
  rfl
 ·obtain ⟨a,ns,j,rfl,hS,h0,k⟩:=h
  refine ⟨_,(aD (bF (aM wV (pv 1) (aU aY rfl T.len Bu (aA (pv 0) aC)) (aV _))
    (aE (aK (bC bB (pv 0) (pv 1) (λ_ _=>rfl))))
    aQ)
   (aE (aK aH))),?_⟩
  refine ⟨_,rfl,_,rfl,a,_,rfl,.inl hS,_,_,rfl,rfl,_,rfl,ite2 (λhc=>?_) (λ_=>k _)⟩;have hc':j<((ns.map V.int).length:Int):=of_decide_eq_true hc;rw [Af] at hc';obtain ⟨i,rfl⟩:=Bb h0;obtain ⟨c,hc⟩:∃ c,ns[i]?=some c:=⟨_,Ac (show i<ns.length by omega)⟩;exact ⟨_,rfl,_,rfl,a,_,(i:Int),.int c,rfl,rfl,hS,bA (by rw [Ao,hc];rfl),k c⟩
def nX:Ce "abs" = some (.builtin "abs"):=by decide +kernel
theorem lenC (x:Str):x.length=(cps x).length:=by simp [Str.length,cps]
theorem lenA (x y:Str):(x++y).length=x.length+y.length:=by rw [lenC,dR,Ay,<- lenC,<- lenC]
def dY {x:Str}{ws:List Str}:inV (.str x) (ws.map V.str)=true↔x∈ws:=by
 unfold inV;rw [List.any_map,List.any_eq_true];constructor
 ·rintro ⟨y,hy,e⟩
  have:y=x:=by simpa [eqV] using e
  exact this▸hy
 ·intro h
  exact ⟨x,h,by simp [eqV]⟩
def eK (ws:List Str):(ws.map V.str).all eW=true:=by
 rw [List.all_map,Cf];intro x _;rfl
def tW {ws:List Str}{x:Str}(h:ws.Nodup)(n:x∉ws):(ws++[x]).Nodup:=by
 rw [List.nodup_append];refine ⟨h,by simp,λy hy z hz e=>?_⟩;rw [AE.mp hz] at e;exact n (e▸hy)
def kR {X:Cx}{scope:Scope}(h:∀ y∈scope.names,y.2=.local\/y.2=.globalImplicit):ClOk X scope []:=by
 refine ⟨closureFor_none λx hx z=>?_,λx c e=>by simp at e,λx e=>?_⟩
 ·rcases h x hx with q|q<;>rw [q] at z<;>cases z
 ·exfalso
  have e':∃ k,(k=CI\/k=AX)/\(relabel scope X.env).names.lookup x=some k:=by
   rcases e with e|e
   ·exact ⟨_,.inl rfl,e⟩
   ·exact ⟨_,.inr rfl,e⟩
  obtain ⟨k,hk,e⟩:=e';have hm:=CV e;obtain ⟨y,hy,hy2⟩:=AH.mp hm;have hl:=h y hy;obtain ⟨n,kk⟩:=y;simp only at hl
  rcases hl with hl|hl<;>subst hl<;>simp at hy2<;>rcases hk with rfl|rfl<;>exact absurd hy2.2 (by decide)
def list_eq {α:Type}{ys l:List α}(hl:ys.length=l.length)(h:∀ (i:Nat) x y,l[i]?=some x->ys[i]?=some y->y=x):ys=l:=by
 refine Ci λi=>?_
 by_cases hi:i<l.length
 ·have e1:=Ac hi
  have e2:ys[i]?=some (ys[i]'(by omega)):=Ac (by omega);rw [e1,e2,h i _ _ e1 e2]
 ·rw [Ax (by omega),Ax (by omega)]
end
end K52
namespace L2
open PySem PySem.Spec PyProof.Rows
def jn (sep:Str):List Str->Str
 |[x]=>x
 |l=>AI.Str.glued sep l
def rJoin (K:Ab):V->List V->Hp->VK->Prop:=λz vs H Q=>∃ sep a ss,z=.str sep/\vs=[.ref a]/\SqL K H a (ss.map V.str)/\sep.length<=10/\ss.length<=100/\(∀ x∈ss,x.length<=1000)/\Q (.str (jn sep ss)) H
def aFl {x:Str}{g:TG}{tb:TS}{D:Ends}{σ:St}{H:Hp}(Pv:Nat->St->Hp->Prop)(h0:Pv 0 σ H)
  (hs:∀ i c σ H,x.cps[i]?=some c->Pv i σ H->g (.str ⟨#[c]⟩) σ H λσ2 H2=>tb { D with nx:=Pv (i+1),ct:=Pv (i+1),bk:=D.nx } σ2 H2) (hd:∀ σ H,Pv x.cps.size σ H->D.nx σ H) :
  ∃ W:Nat->Nat->St->Hp->Prop,(∃ m,W 0 m σ H)/\∀ i m σ H,W i m σ H ->
   ((Its x).stop i H/\D.nx σ H)\/((Its x).go i H/\∃ N:St->Hp->Prop,(∀ σ' H',N σ' H'->∃ m',m'<m/\W (i+1) m' σ' H')/\∀ v H',(Its x).yld i H v H'->g v σ H' λσ2 H2=>tb { D with nx:=N,ct:=N,bk:=D.nx } σ2 H2):=by
 refine ⟨λi m σ H=>m=x.cps.size-i/\i<=x.cps.size/\Pv i σ H,⟨x.cps.size,by simp,Bi _,h0⟩,?_⟩
 rintro i m σ H ⟨rfl,hi,p⟩
 by_cases hlt:i<x.cps.size
 ·refine .inr ⟨⟨x.cps[i],Fn hlt⟩,Pv (i+1),λσ' H' p'=>⟨x.cps.size-(i+1),by omega,rfl,hlt,p'⟩,λv H' y=>?_⟩
  obtain ⟨e,c,hc,rfl⟩:=y;subst e;exact hs i c σ _ hc p
 ·have e:i=x.cps.size:=by omega
  subst e;exact .inl ⟨Array.getElem?_eq_none (Aj _),hd σ H p⟩
section
variable {X:Cx}
def tx:V->Str
 |.int n=>toString n
 |.str x=>x
 |_=>Str.empty
def TxOk (v:V):Prop:=(∃ n:Nat,v=.int n/\n<10^60)\/∃ x,v=.str x/\x.length<=100
end
end L2
namespace K52
open PySem PySem.Spec PyProof.Rows L2 GM TM
def SmB (a:Addr)(H H':Hp):Prop:=∀ b o,b≠a->H b=some o->H' b=some o
def SmB.refl {a:Addr}{H:Hp}:SmB a H H:=λ_ _ _ h=>h
theorem SmB.trans {a:Addr}{H H1 H2:Hp}(h:SmB a H H1)(k:SmB a H1 H2):SmB a H H2:=λb o n e=>k b o n (h b o n e)
def SmB.of {a:Addr}{H H':Hp}(h:Same H H'):SmB a H H':=λb o _ e=>h b o e
theorem SmB.upd {a:Addr}{H:Hp}{o:HO}:SmB a H (upd H a o):=λb u n e=>by rw [aI n];exact e
def SmB.own {a p:Addr}{H H':Hp}{o:HO}(h:SmB a H H')(n:H p=none):SmB a H (L2.upd H' p o):=λb u nb e=>by
 have ne:b≠p:=λz=>by rw [z,n] at e;cases e
 rw [aI ne];exact h b u nb e
theorem SmB.none {a p:Addr}{H H':Hp}(h:SmB a H H')(n:H' p=none)(pa:p≠a):H p=none:=by
 cases e:H p with
 |none=>rfl
 |some o=>
  have:=h p o pa e;rw [n] at this;cases this
def Lf (H:Hp)(a:Addr):Prop:=∃ n:Int,H a=some (.lst [.int n])/\0<=n
def Lf.keep {H H':Hp}{a:Addr}(h:Lf H a)(s:Same H H'):Lf H' a:=by
 obtain ⟨n,e,r⟩:=h;exact ⟨n,s _ _ e,r⟩
def Lf.there {H:Hp}{a b:Addr}(h:Lf H a)(n:H b=none):b≠a:=λz=>by
 obtain ⟨_,e,_⟩:=h;rw [<- z,n] at e;cases e
def Lf.own {H:Hp}{a p:Addr}{o:HO}(h:Lf H a)(n:p≠a):Lf (upd H p o) a:=by
 obtain ⟨m,e,r⟩:=h;exact ⟨m,by rw [aI (Bg n)];exact e,r⟩
def iS:Sp:=λvs H Q _=>∃ c k:Int,vs=[.int c,.int k]/\0<=k/\k<=1000/\∀ n:Int,0<=n->n<2147483647->Q (.int n) H
def eP:Sp:=λvs H Q _=>∃ t b:Int,vs=[.int t,.int b]/\0<=t/\1<=b/\Bt 9000 b/\∀ p H',Same H H'->H p=none->H' p=some (.tup [.int (t/G t b),.int (b/G t b)])->Q (.ref p) H'
def lD:Sp:=λvs H Q _=>∃ (a:Addr) (m:Int),vs=[.ref a,.int m]/\Lf H a/\1<=m/\Bt 9000 m/\∀ (d:Int) H',0<=d->d<m->SmB a H H'->Lf H' a->Q (.int d) H'
def vE:Sp:=λvs H Q _=>∃ a:Addr,vs=[.ref a]/\Lf H a/\∀ (ws:List Str) p H',ws.length=6->ws.Nodup->(∀ x∈ws,Wr x)->SmB a H H'->H p=none->p≠a->H' p=some (.lst (ws.map V.str))->Q (.ref p) H'
structure Rm (t b:Int):Prop where
 t1:1<=t
 b1:1<=b
 g:G t b=1
 st:Bt 100 t
 sb:Bt 100 b
def aCf:Sp:=λvs H Q _=>∃ n:Int,vs=[.int n]/\0<=n/\n<2147483647/\∀ t b p H',Rm t b->b<=12->Same H H'->H p=none->H' p=some (.tup [.int t,.int b])->Q (.ref p) H'
def rS {t b:Int}(h0:1<=t)(h1:1<=b)(ht:Bt 100 t)(hb:Bt 100 b):Rm (t/G t b) (b/G t b):=by
 have a:=jO (t:=t) (b:=b) (by omega) h1;have g:=qK (a:=t) (b:=b) (by omega);have l:=Int.le_of_dvd (by omega) (aAa t b);refine ⟨(Int.le_ediv_iff_mul_le g).mpr (by omega),(Int.le_ediv_iff_mul_le g).mpr (by have:=zZ (a:=t) (b:=b) (by omega);omega),a.3,ht.le a.1 (Dj _ (by omega)),hb.le (by have:=a.2;omega) (Dj _ (by omega))⟩
def nH {t b:Int}(h1:1<=b)(hs:Bt 9000 b):0<G t b/\Bt 9000 (G t b):=by
 have p:=qK (a:=t) (b:=b) (by omega);exact ⟨p,hs.le (by omega) (zZ (by omega))⟩
def b9 {c:Int}(h0:0<=c:=by decide)(h:c<18446744073709551616:=by decide):Bt 9000 c:=(dZ 64 h0 h).mono (by decide)
def e18:(10:Int)^Int.toNat 18=1000000000000000000:=by decide +kernel
section
variable {P:Av}{w:World}{K:Ab}{mg:Str->Option Value}{base:Heap}
def aDz:FnScope ["_law_cell","_law_k"] ["_law_cell","_law_k"] (aG vR):=fnScOk (by decide +kernel)
def aBe {f:Addr}{fd:Az}(F:Fun K "_law_mixed" "_law_mixed" vR f fd):FnOk P w K mg base CX0 1 f fd ["_law_cell","_law_k"] iS:=by
 refine F.ok aDz (λvs H Q E h=>?_) (λcdv A outer s H vs Q E hr h=>?_)
 ·obtain ⟨_,_,rfl,_⟩:=h
  rfl
 ·obtain ⟨c,k,rfl,k0,k1,q⟩:=h
  refine ⟨_,aE (aK (aP bQ (aP bO (aP bP (aP bP (aP bQ (pv 0) aH) (aP bO (pv 1) (pv 1))) aH) aH) aH)),?_⟩;have c1:=bR c (m:=1000003) (by decide);have bk1:Bt 32 k:=dZ 32 (c:=1001) k0 (by omega);have b3:Bt 66 (c%1000003+k*k+1):=((dZ 64 (c:=1000003) c1.1 c1.2).add (bk1.mul bk1)).add (dZ 65 (x:=1) (c:=2) (by decide) (by decide));refine ⟨_,rfl,_,_,rfl,rfl,(by show (0:Int)<1000003;decide),_,rfl,_,rfl,_,_,rfl,rfl,⟨b6 bk1,b6 bk1⟩,_,_,rfl,rfl,_,_,rfl,rfl,_,_,rfl,rfl,⟨b6 b3,bl⟩,_,_,rfl,rfl,(by show (0:Int)<2147483647;decide),?_⟩;have e:=bR ((c%1000003+k*k+1)*48271) (m:=2147483647) (by decide);exact q _ e.1 e.2
def iJ:FnScope ["_law_top","_law_bottom","_law_one","_law_other"] ["_law_top","_law_bottom"] (aG pE):=fnScOk (by decide +kernel)
def xN {f:Addr}{fd:Az}(F:Fun K "_law_lowest" "_law_lowest" pE f fd):FnOk P w K mg base CX0 1 f fd ["_law_top","_law_bottom"] eP:=by
 refine F.ok iJ (λvs H Q E h=>?_) (λcdv A outer s H vs Q E hr h=>?_)
 ·obtain ⟨a,b,rfl,_⟩:=h
  rfl
 ·obtain ⟨a,b,rfl,ha,hb,bb,k⟩:=h
  refine ⟨_,(aD (aL (i:=2) iJ.nd rfl (Or.inl rfl) (pv 0))
   (aD (aL (i:=3) iJ.nd rfl (Or.inl rfl) (pv 1))
   (aD (lM AJ (aM aG6 (pv 3) aH (aV _))
   (aE (aGz (i:=2) (j:=3) rfl iJ.nd rfl rfl (by decide) rfl rfl (aA (pv 3) (aA (aP bQ (pv 2) (pv 3)) aC)) rfl)))
   (aE (aK (aW (aA (aP bK (pv 0) (pv 2)) (aA (aP bK (pv 1) (pv 2)) aC)))))))),?_⟩
  refine ⟨_,rfl,_,rfl,?_⟩;refine qM (λσ H'=>H'=H/\∃ (x y:Int),σ=[some (.int a),some (.int b),some (.int x),some (.int y)]/\0<=x/\0<=y/\G x y=G a b) (λσ _=>match σ with|[_,_,_,some (.int y)]=>y.toNat|_=>0) ⟨rfl,a,b,rfl,ha,by omega,rfl⟩ ?_ ?_
  ·rintro σ H' ⟨rfl,x,y,rfl,hx,hy,e⟩
   refine ⟨_,rfl,_,_,rfl,rfl,_,rfl,?_⟩;refine ite2 (λhc=>?_) (λhc=>?_)
   ·have hy0:0<y:=of_decide_eq_true hc
    have t:=rY e hy (by omega);refine ⟨_,rfl,_,rfl,_,rfl,_,_,rfl,rfl,(by show 0<y;omega),_,_,rfl,⟨rfl,y,x%y,rfl,hy,t.1,t.2⟩,?_⟩;have:=Int.emod_lt_of_pos x (show 0<y by omega);have:=t.1;show (x%y).toNat<y.toNat;omega
   ·have hy0:y=0:=by
     have:¬ 0<y:=λz=>hc (decide_eq_true z);omega
    subst hy0;rw [aDe hx] at e;subst e;have g:=nH (t:=a) hb bb;refine ⟨_,rfl,_,rfl,_,_,rfl,rfl,g,_,rfl,_,rfl,_,_,rfl,rfl,g,zLn2,λp hp=>?_⟩;exact k p _ (Same.upd hp) hp aB
  ·rintro σ H' Q1 Q2 hq ⟨v,e,i,j,e1,e2,z,ez,q⟩
   exact ⟨v,e,i,j,e1,e2,z,ez,hq _ _ q⟩
def vK:FnScope ["_law_left","_law_many","_law_found"] ["_law_left","_law_many"] (aG vV):=fnScOk (by decide +kernel)
def aBk {f:Addr}{fd:Az}(F:Fun K "_law_digit" "_law_digit" vV f fd):FnOk P w K mg base CX0 1 f fd ["_law_left","_law_many"] lD:=by
 refine F.ok vK (λvs H Q E h=>?_) (λcdv A outer s H vs Q E hr h=>?_)
 ·obtain ⟨_,_,rfl,_⟩:=h
  rfl
 ·obtain ⟨a,m,rfl,⟨n,ha,n0⟩,m1,bm,k⟩:=h
  refine ⟨_,(aD (aL (i:=2) vK.nd rfl (Or.inl rfl) (aP bQ (bC bB (pv 0) aH (λ_ _=>rfl)) (pv 1)))
   (aD (gI (aP bK (bC bB (pv 0) aH (λ_ _=>rfl)) (pv 1)) (mX (pv 0) aH set_list))
   (aE (aK (pv 2))))),?_⟩
  refine ⟨_,rfl,a,_,0,.int n,rfl,rfl,SqL.of ha,bA (j:=0) rfl,_,rfl,_,_,rfl,rfl,(by show 0<m;omega),?_⟩;refine ⟨_,rfl,a,_,0,.int n,rfl,rfl,SqL.of ha,bA (j:=0) rfl,_,rfl,_,_,rfl,rfl,⟨by omega,bm⟩,_,rfl,a,_,0,0,rfl,rfl,ha,rfl,?_⟩;have e:=bR n (show (0:Int)<m by omega);exact ⟨_,rfl,k _ _ e.1 e.2 SmB.upd ⟨_,aB,Int.ediv_nonneg n0 (by omega)⟩⟩
def aIs:FnScope ["_law_number"] ["_law_number"] (aG aD4):=fnScOk (by decide +kernel)
def aHf {f:Addr}{fd:Az}(F:Fun K "_law_few" "_law_few" aD4 f fd)(cL:Cal P w K mg base CX0 1 "_law_lowest" ["_law_top","_law_bottom"] eP):FnOk P w K mg base CX0 2 f fd ["_law_number"] aCf:=by
 refine F.ok aIs (λvs H Q E h=>?_) (λcdv A outer s H vs Q E hr h=>?_)
 ·obtain ⟨_,rfl,_⟩:=h
  rfl
 ·obtain ⟨n,rfl,n0,nl,k⟩:=h
  refine ⟨_,aE (aK (aJ cL hr rfl aR (aA (aP bP aH (aP bQ (pv 0) aH)) (aA (aP bP aH (aP bQ (aP bK (pv 0) aH) aH)) aC)))),?_⟩;have e1:=bR n (m:=12) (by decide);have e2:=bR (n/12) (m:=4) (by decide);refine ⟨_,rfl,_,_,rfl,rfl,(by show (0:Int)<12;decide),_,_,rfl,rfl,_,rfl,_,_,rfl,rfl,⟨by decide,b9⟩,_,_,rfl,rfl,(by show (0:Int)<4;decide),_,_,rfl,rfl,?_⟩;exact ⟨_,_,rfl,by omega,by omega,b9 (by omega) (by omega),λp H' sm np hp=>k _ _ p H' (rS (by omega) (by omega) (dZ 100 (c:=2000000000000000000) (by omega) (by omega)) (dZ 100 (c:=2000000000000000000) (by omega) (by omega))) (Int.le_trans (Dj _ (by omega)) (by omega)) sm np hp⟩
end
def one (c:Nat):Str:=⟨#[c]⟩
theorem lX (c:Nat):cps (one c)=[c]:=rfl
def aFw {c:Nat}(h:97<=c/\c<=122):Wr (one c):=⟨(by show 1<=1;decide),(by show 1<=8;decide),λx hx=>by
 rw [lX] at hx;rw [AE.mp hx];exact h⟩
def one_inj {c d:Nat}(e:one c=one d):c=d:=by
 have:=congrArg cps e;rw [lX,lX] at this;exact (List.cons.inj this).1
def vD:Sp:=λvs H Q _=>∃ c:Int,vs=[.int c]/\∀ (ws:List Str) p H',ws.length=6->ws.Nodup->(∀ x∈ws,Wr x)->Same H H'->H p=none->H' p=some (.lst (ws.map V.str))->Q (.ref p) H'
section
variable {P:Av}{w:World}{K:Ab}{mg:Str->Option Value}{base:Heap}
def fA:FnScope ["_law_left","_law_letters","_law_found","_law_k","_law_word","_law_j","_law_tail"] ["_law_left"] (aG vQ):=fnScOk (by decide +kernel)
def aBd {f:Addr}{fd:Az}(F:Fun K "_law_names" "_law_names" vQ f fd)(T:Txt mg)(cD:Cal P w K mg base CX0 1 "_law_digit" ["_law_left","_law_many"] lD):FnOk P w K mg base CX0 2 f fd ["_law_left"] vE:=by
 refine F.ok fA (λvs H Q E h=>?_) (λcdv A outer s H vs Q E hr h=>?_)
 ·obtain ⟨_,rfl,_⟩:=h
  rfl
 ·obtain ⟨a,rfl,lf,k⟩:=h
  refine ⟨_,(aD (aL (i:=1) fA.nd rfl (Or.inl rfl) aT)
   (aD (aL (i:=2) fA.nd rfl (Or.inl rfl) (dP aC))
   (aD (cJ AJ rfl (dN rfl T.range (aA aH aC)) (aS (i:=3) fA.nd rfl (Or.inl rfl))
    (aD (aL (i:=4) fA.nd rfl (Or.inl rfl) aT)
    (aD (cJ AJ rfl (dN rfl T.range (aA (aP bP aH (aJ cD hr rfl aR (aA (pv 0) (aA aH aC)))) aC)) (aS (i:=5) fA.nd rfl (Or.inl rfl))
     (aE (aL (i:=4) fA.nd rfl (Or.inl rfl) (aP fU (pv 4) (bC yI (pv 1) (aJ cD hr rfl aR (aA (pv 0) (aA aH aC))) (λ_ _=>rfl))))))
    (aD (cJ AJ rfl (aCs (pv 1)) (aS (i:=6) fA.nd rfl (Or.inl rfl))
     (aE (bF (aM eT (pv 4) (pv 2) rfl) (aE (aL (i:=4) fA.nd rfl (Or.inl rfl) (pv 6))) aQ)))
    (aE (dJ (lQ BG BD BC cQ (pv 2) (aA (pv 4) aC))))))))
   (aE (aK (pv 2)))))),?_⟩
  have zL:LET.length<=Au:=by decide +kernel
  refine ⟨zLn0,λp hp=>?_⟩;have pa:p≠a:=lf.there hp;refine ⟨6,rfl,by decide,by decide,?_⟩;refine eJ (λi σ H'=>∃ (ws:List Str) (v3 v4 v5 v6:Option V),σ=[some (.ref a),some (.str LET),some (.ref p),v3,v4,v5,v6]/\ws.length=i/\ws.Nodup/\(∀ x∈ws,Wr x)/\SmB a H H'/\Lf H' a/\H' p=some (.lst (ws.map V.str)))
   ⟨[],none,none,none,none,rfl,rfl,Ea,(λ_ h=>nomatch h),SmB.refl.own hp,lf.own pa,aB⟩ ?_ ?_
  ·rintro i σ H2 hi ⟨ws,v3,v4,v5,v6,rfl,wl,nd,wr,s2,lf2,hp2⟩
   have hi6:i<6:=hi;refine ⟨_,rfl,a,8,rfl,lf2,by decide,b9,λe H3 e0 el s3 lf3=>⟨_,_,rfl,rfl,1+e,rfl,by omega,by omega,?_⟩⟩;refine eJ (λj σ H'=>∃ (x:Str) (v5:Option V),σ=[some (.ref a),some (.str LET),some (.ref p),some (.int (0+i)),some (.str x),v5,v6]/\x.length=j/\(∀ c∈cps x,97<=c/\c<=122)/\SmB a H H'/\Lf H' a/\H' p=some (.lst (ws.map V.str)))
    ⟨"",v5,rfl,rfl,(λ_ h=>nomatch h),s2.trans s3,lf3,s3 _ _ pa hp2⟩ ?_ ?_
   ·rintro j σ H4 hj ⟨x,u5,rfl,xl,xc,s4,lf4,hp4⟩
    refine ⟨_,rfl,_,rfl,_,rfl,a,26,rfl,lf4,by decide,b9,λg H5 g0 gl s5 lf5=>?_⟩;obtain ⟨gn,rfl⟩:=Bb g0;have lx:x.length<=8:=by omega
    refine ⟨LET,(gn:Int),97+gn,rfl,rfl,zL,bA (sX (by omega)),_,_,rfl,rfl,bV (by show x.length+1<=1000;omega),?_⟩;refine ⟨_,_,rfl,?_,λc hc=>?_,s4.trans s5,lf5,s5 _ _ pa hp4⟩
    ·rw [lenA,xl]
     rfl
    ·rw [dR] at hc
     rcases Bh.mp hc with h|h
     ·exact xc c h
     ·have:c=97+gn:=by simpa [cps] using h
      omega
   ·rintro σ H4 ⟨x,u5,rfl,xl,xc,s4,lf4,hp4⟩
    have wx:Wr x:=⟨by omega,by omega,xc⟩;refine ⟨_,rfl,LET,rfl,?_⟩;refine aFl (λj σ H'=>∃ (y:Str) (v6:Option V),σ=[some (.ref a),some (.str LET),some (.ref p),some (.int (0+i)),some (.str y),u5,v6]/\H'=H4/\Wr y/\(y∉ws\/j=0\/∃ q,j=q+1/\y=one (97+q)/\∀ r,r<q->one (97+r)∈ws)) ⟨x,v6,rfl,rfl,wx,.inr (.inl rfl)⟩ ?_ ?_
    ·rintro j c σ H5 hc ⟨y,v6',rfl,rfl,wy,inv⟩
     have hj:j<26:=by
      have:=(Ct.mp hc).1;exact this
     have ec:c=97+j:=by
      have h1:=sX hj;have h2:(cps LET)[j]?=some c:=by simpa [cps] using hc
      rw [h1] at h2;exact (AG h2).symm
     subst ec;refine ⟨_,rfl,_,rfl,p,_,rfl,.inl (SqL.of hp4),rfl,eK ws,_,rfl,ite2 (λhin=>?_) (λhno=>?_)⟩
     ·have hin':y∈ws:=dY.mp hin
      refine ⟨_,rfl,one (97+j),_,rfl,rfl,aFw (by omega),.inr (.inr ⟨j,rfl,rfl,λr hr=>?_⟩)⟩
      rcases inv with h|h|⟨q,e,ey,h⟩
      ·exact absurd hin' h
      ·omega
      ·by_cases z:r=q
       ·rw [z,<- ey]
        exact hin'
       ·exact h r (by omega)
     ·exact ⟨y,_,rfl,rfl,wy,.inl λz=>hno (dY.mpr z)⟩
    ·rintro σ H5 ⟨y,v6',rfl,rfl,wy,inv⟩
     have ny:y∉ws:=by
      rcases inv with h|h|⟨q,e,ey,h⟩
      ·exact h
      ·exact absurd h (by decide)
      ·exfalso
       have q25:q=25:=by
        have:LET.cps.size=26:=by decide +kernel
        omega
       have:=aG0 (λr=>one (97+r)) 25 ws (λr hr=>h r (by omega)) (λr1 r2 _ _ e=>by have:=one_inj e;omega);omega
     refine ⟨_,rfl,.inl ⟨rfl,_,SqL.of hp4⟩,_,rfl,p,_,_,rfl,rfl,hp4,bU (by rw [Af];omega),?_⟩;refine ⟨ws++[y],_,_,_,_,rfl,by rw [Ay,wl];rfl,tW nd ny,λz hz=>?_,s4.own hp,lf4.own pa,by rw [Bp];exact aB⟩
     rcases Bh.mp hz with h|h
     ·exact wr z h
     ·rw [AE.mp h]
      exact wy
  ·rintro σ H2 ⟨ws,v3,v4,v5,v6,rfl,wl,nd,wr,s2,lf2,hp2⟩
   exact ⟨_,rfl,k ws p H2 wl nd wr s2 hp pa hp2⟩
def ndW1:(["_law_tail","_law_word"]:List Str).Nodup:=by decide +kernel
def ndW2:(["_law_k","_law_word","_law_letters","_law_number"]:List Str).Nodup:=by decide +kernel
abbrev kZ:List Str:=["","a","aa","ab","b","ba"]
def aFo {x y:Str}(h:cps x=cps y):x=y:=by
 obtain ⟨⟨x⟩⟩:=x;obtain ⟨⟨y⟩⟩:=y;simp [cps] at h;rw [h]
def zW {x y z:Str}(h:x++y=x++z):y=z:=by
 have:=congrArg cps h;rw [dR,dR] at this;exact aFo (List.append_cancel_left this)
def aB8 {x y:Str}(l1:1<=x.length)(l:x.length+y.length<=8)(hx:∀ c∈cps x,97<=c/\c<=122)(hy:∀ c∈cps y,97<=c/\c<=122):Wr (x++y):=by
 refine ⟨by rw [lenA];omega,by rw [lenA];exact l,λc hc=>?_⟩;rw [dR] at hc
 rcases Bh.mp hc with h|h
 ·exact hx c h
 ·exact hy c h
def qS:∀ t∈kZ,t.length<=2/\∀ c∈cps t,97<=c/\c<=122:=by decide +kernel
def aAh:kZ.Nodup:=by decide +kernel
def uZ {ys:List V}{ws:List Str}(hl:ys.length=ws.length)(h:∀ (i:Nat) y b,ys[i]?=some y->ws[i]?=some b->y=.str b):ys=ws.map V.str:=by
 refine list_eq (by rw [Af];exact hl) λi x y hx hy=>?_;rw [Ao] at hx;cases e:ws[i]? with
 |none=>rw [e] at hx;cases hx
 |some b=>
  rw [e] at hx;cases hx;exact h i y b hy e
theorem jM {α β:Type}{f:α->β}:∀ {l:List α},(∀ x∈l,∀ y∈l,f x=f y->x=y)->l.Nodup->(l.map f).Nodup
 |[],_,_=>Ea
 |x::r,h,n=>by
  rw [Bo] at n;rw [An,Bo];refine ⟨λz=>?_,jM (λa ha b hb=>h a (Ah _ ha) b (Ah _ hb)) n.2⟩;obtain ⟨y,hy,e⟩:=AH.mp z;have:=h y (Ah _ hy) x (Ar ..) e;rw [this] at hy;exact n.1 hy
def gZ:FnScope ["_law_cell","_law_letters","_law_number","_law_word","_law_k"] ["_law_cell"] (aG iY):=fnScOk (by decide +kernel)
def aA6 {f:Addr}{fd:Az}(F:Fun K "_law_wares" "_law_wares" iY f fd)(T:Txt mg)(cN:Cal P w K mg base CX0 2 "_law_names" ["_law_left"] vE)(cM:Cal P w K mg base CX0 2 "_law_mixed" ["_law_cell","_law_k"] iS):FnOk P w K mg base CX0 3 f fd ["_law_cell"] vD:=by
 refine F.ok gZ (λvs H Q E h=>?_) (λcdv A outer s H vs Q E hr h=>?_)
 ·obtain ⟨_,rfl,_⟩:=h
  rfl
 ·obtain ⟨c,rfl,k⟩:=h
  refine ⟨_,(aD (aL (i:=1) gZ.nd rfl (Or.inr rfl) aT)
   (aD (bF (aM dD (aP bQ (pv 0) aH) aH (aV _))
    (aE (aK (aJ cN hr rfl aR (aA (dP (aA (aP bK (aU gR rfl T.abs' nX (aA (pv 0) aC)) aH) aC)) aC))))
    aQ)
   (aD (aL (i:=2) gZ.nd rfl (Or.inr rfl) (aJ cM hr rfl aR (aA (pv 0) (aA aH aC))))
   (aD (aL (i:=3) gZ.nd rfl (Or.inr rfl) aT)
   (aD (cJ AJ rfl (dN rfl T.range (aA (aP bP aH (aP bQ (pv 2) aH)) aC)) (aS (i:=4) gZ.nd rfl (Or.inl rfl))
    (aE (aL (i:=3) gZ.nd rfl (Or.inr rfl) (aP fU (pv 3) (bC yI (pv 1) (aP bQ (aP bK (aJ cM hr rfl aR (aA (pv 0) (aA (aP bP (pv 4) aH) aC))) aH) aH) (λ_ _=>rfl))))))
   (aD (bF (aM dD (aP bQ (aP bK (pv 2) aH) aH) aH (aV _))
    (aE (aK (eC (N':=["_law_tail","_law_word"]) (λσ=>[none,some 3].map λt=>t.bind λj=>(σ[j]?).join) rfl rfl (by decide +kernel) (by decide +kernel)
     (iG (sc:=aG iY) rfl (by decide +kernel)) (λ_ _ _=>eA (sc:=aG iY) (N:=["_law_cell","_law_letters","_law_number","_law_word","_law_k"]) [none,some 3] rfl rfl rfl rfl (by decide +kernel))
     (fY (aW (aA aT (aA aT (aA aT (aA aT (aA aT (aA aT aC)))))))) (λ_ _ _ _ _ _=>aS (i:=0) ndW1 rfl (Or.inl rfl)) (λ_ _ _ _ _ _=>dM)
     (λ_ _ _ _ _ _=>aP fU (pv 1) (pv 0)))))
    aQ)
   (aE (aK (eC (N':=["_law_k","_law_word","_law_letters","_law_number"]) (λσ=>[none,some 3,some 1,some 2].map λt=>t.bind λj=>(σ[j]?).join) rfl rfl (by decide +kernel) (by decide +kernel)
     (iG (sc:=aG iY) rfl (by decide +kernel)) (λ_ _ _=>eA (sc:=aG iY) (N:=["_law_cell","_law_letters","_law_number","_law_word","_law_k"]) [none,some 3,some 1,some 2] rfl rfl rfl rfl (by decide +kernel))
     (dN rfl T.range (aA aH aC)) (λ_ _ _ _ _ _=>aS (i:=0) ndW2 rfl (Or.inl rfl)) (λ_ _ _ _ _ _=>dM)
     (λ_ _ _ _ _ _=>aP fU (pv 1) (bC yI (pv 2) (aP bQ (aP bP (aP bK (pv 3) aH) (aP bO aH (pv 0))) aH) (λ_ _=>rfl)))))))))))),?_⟩
  have zL:LET.length<=Au:=by decide +kernel
  refine ⟨_,rfl,_,_,rfl,rfl,(by show (0:Int)<2;decide),rfl,_,rfl,ite2 (λ_=>?_) (λ_=>?_)⟩
  ·refine ⟨_,rfl,c,rfl,?_⟩
   have ha:0<=(if c<0 then -c else c):=by split<;>omega
   generalize (if c<0 then -c else c)=n at *
   refine ⟨_,_,rfl,rfl,⟨by decide,b9⟩,zLn1,λz hz=>⟨z,rfl,⟨_,aB,Int.ediv_nonneg ha (by decide)⟩,λws p H' wl nd wr sm hp pz hp'=>?_⟩⟩;have hpn:H p=none:=by
    cases e:H p with
    |none=>rfl
    |some o=>
     have:=Same.upd (o:=.lst [.int (n/2)]) hz _ _ e;rw [hp] at this;cases this
   exact k ws p H' wl nd wr (λb o e=>sm b o (λq=>by rw [q,hz] at e;cases e) (Same.upd hz _ _ e)) hpn hp'
  refine ⟨_,rfl,c,0,rfl,by decide,by decide,λn n0 nl=>?_⟩;have e5:=bR n (m:=5) (by decide);refine ⟨_,rfl,_,_,rfl,rfl,(by show (0:Int)<5;decide),_,_,rfl,rfl,_,rfl,by omega,by omega,?_⟩;refine eJ (λi σ H'=>∃ (x:Str) (v4:Option V),σ=[some (.int c),some (.str LET),some (.int n),some (.str x),v4]/\x.length=i/\(∀ d∈cps x,97<=d/\d<=122)/\H'=H) ⟨"",none,rfl,rfl,(λ_ h=>nomatch h),rfl⟩ ?_ ?_
  ·rintro i σ H' hi ⟨x,v4,rfl,xl,xc,rfl⟩
   refine ⟨_,rfl,_,rfl,_,rfl,_,rfl,_,_,rfl,rfl,c,_,rfl,by omega,by omega,λm m0 ml=>?_⟩;have e:=bR (m/64) (m:=26) (by decide);obtain ⟨gn,hg⟩:=Bb e.1;refine ⟨_,_,rfl,rfl,⟨by decide,b9⟩,_,_,rfl,rfl,(by show (0:Int)<26;decide),LET,_,97+gn,rfl,rfl,zL,(by rw [hg];exact bA (sX (by omega))),_,_,rfl,rfl,bV (by show x.length+1<=1000;omega),?_⟩;refine ⟨_,_,rfl,?_,λd hd=>?_,rfl⟩
   ·rw [lenA,xl]
    rfl
   ·rw [dR] at hd
    rcases Bh.mp hd with h|h
    ·exact xc d h
    ·have:d=97+gn:=by simpa [cps] using h
     omega
  ·rintro σ H' ⟨x,v4,rfl,xl,xc,rfl⟩
   have xl1:1<=x.length:=by omega
   have xl5:x.length<=5:=by omega
   refine ⟨_,rfl,_,_,rfl,rfl,⟨by decide,b9⟩,_,_,rfl,rfl,(by show (0:Int)<2;decide),rfl,_,rfl,ite2 (λ_=>?_) (λ_=>?_)⟩
   ·refine ⟨zLn6,λq hq=>⟨q,rfl,⟨_,SqT.of aB⟩,λD hD=>?_⟩⟩
    refine eD (Ys.tup (xs:=kZ.map V.str) (SqT.of aB)) (λi _ y _=>∀ t,kZ[i]?=some t->y=.str (x++t)) (λ_ _ _ _ _ h _=>h) hD (by decide) (λi y H2 R hy sm hR=>?_) (λys H2 sm hD' yl hy=>?_)
    ·rw [Ao] at hy
     cases et:kZ[i]? with
     |none=>rw [et] at hy;cases hy
     |some t=>
      rw [et] at hy;cases hy;have:=(qS t (Al et)).1;refine ⟨(Keep.refl _).set rfl,_,rfl,_,rfl,_,_,rfl,rfl,bV (by omega),hR _ _ (Same.refl _) λt' e'=>?_⟩;rw [et] at e';cases e';rfl
    ·have ey:=uZ (ws:=kZ.map λt=>x++t) (yl.trans (by rfl)) λi y b h1 h2=>by
      rw [Ao] at h2;cases et:kZ[i]? with
      |none=>rw [et] at h2;cases h2
      |some t=>
       rw [et] at h2;cases h2;exact hy i (.str t) y (by rw [Ao,et];rfl) h1 t et
     subst ey;refine k _ D H2 rfl (jM (λa _ b _ e=>zW e) aAh) (λz hz=>?_) ((Same.upd hq).trans sm) ?_ hD'
     ·obtain ⟨t,ht,rfl⟩:=AH.mp hz
      have tt:=qS t ht;exact aB8 xl1 (by omega) xc tt.2
     ·cases e:H' D with
      |none=>rfl
      |some o=>
       have h9:upd H' q (.tup (kZ.map V.str)) D=none:=hD;have:=Same.upd (o:=.tup (kZ.map V.str)) hq _ _ e;rw [h9] at this;cases this
   ·refine ⟨6,rfl,by decide,by decide,λD hD=>?_⟩
    refine eD (Ys.rng (lo:=0) (n:=6)) (λi _ y _=>y=.str (x++one (97+((n/10+3*((0:Int)+i))%26).toNat))) (λ_ _ _ _ _ h _=>h) hD (by decide) (λi y H2 R hy sm hR=>?_) (λys H2 sm hD' yl hy=>?_)
    ·obtain ⟨hi,rfl⟩:=lJ hy
     have e:=bR (n/10+3*((0:Int)+i)) (m:=26) (by decide);have bi:Bt 64 ((0:Int)+i):=dZ 64 (c:=100) (by omega) (by omega);obtain ⟨gn,hg⟩:=Bb e.1;refine ⟨(Keep.refl _).set rfl,_,rfl,_,rfl,_,rfl,_,_,rfl,rfl,⟨by decide,b9⟩,_,rfl,_,_,rfl,rfl,⟨bl,b6 bi⟩,_,_,rfl,rfl,_,_,rfl,rfl,(by show (0:Int)<26;decide),LET,_,97+gn,rfl,rfl,zL,(by rw [hg];exact bA (sX (by omega))),_,_,rfl,rfl,bV (by show x.length+1<=1000;omega),hR _ _ (Same.refl _) ?_⟩;rw [hg];rfl
    ·have ey:=uZ (ws:=(AF 6).map λi=>x++one (97+((n/10+3*((0:Int)+(i:Nat)))%26).toNat)) (yl.trans (by rfl)) λi y b h1 h2=>by
      rw [Ao] at h2;cases et:(AF 6)[i]? with
      |none=>rw [et] at h2;cases h2
      |some t=>
       rw [et] at h2;cases h2;have ti:i=t:=by
        obtain ⟨hl,e⟩:=Ae.mp et
        simpa using e
       subst ti;obtain ⟨v,hv⟩:∃ v,(rngV 0 6)[i]?=some v:=⟨_,Ac (by rw [dU];have:=(Ae.mp et).1;simpa using this)⟩;exact hy i v y hv h1
     subst ey;refine k _ D H2 rfl (jM (λa ha b hb e=>?_) List.nodup_range) (λz hz=>?_) sm hD hD'
     ·have h1:=one_inj (zW e)
      have ha':=Cp.mp ha;have hb':=Cp.mp hb;omega
     ·obtain ⟨t,ht,rfl⟩:=AH.mp hz
      have e:=bR (n/10+3*((0:Int)+(t:Nat))) (m:=26) (by decide);refine aB8 xl1 (by show x.length+1<=8;omega) xc (λd hd=>?_);rw [lX] at hd;rw [AE.mp hd];omega
end
def iT:∀ {ss:List Str},sortedS ss=true->ss.Pairwise (λa b=>a.cps.toList<=b.cps.toList)
 |[],_=>.nil
 |x::r,h=>by
  have key:∀ (r:List Str) (x:Str),risingS x r=true->(∀ y∈r,x.cps.toList<=y.cps.toList)/\r.Pairwise (λa b=>a.cps.toList<=b.cps.toList):=by
   intro r
   induction r with
   |nil=>intro x _;exact ⟨(λ_ h=>nomatch h),.nil⟩
   |cons y r ih=>
    intro x hx;have hx':(!ltCps y.cps.toList x.cps.toList&&risingS y r)=true:=hx;simp only [BU,Bool.not_eq_true'] at hx';obtain ⟨h1,h2⟩:=hx';rw [ltCps_eq] at h1;have le:x.cps.toList<=y.cps.toList:=List.not_lt.mp (of_decide_eq_false h1);obtain ⟨i1,i2⟩:=ih y h2;refine ⟨λz hz=>?_,.cons i1 i2⟩
    rcases AA.mp hz with rfl|hz
    ·exact le
    ·exact List.le_trans le (i1 z hz)
  obtain ⟨k1,k2⟩:=key r x h;exact .cons k1 k2
abbrev ltS (a b:Str):Prop:=a.cps.toList<b.cps.toList
structure Six (ss:List Str):Prop where
 l:ss.length=6
 up:ss.Pairwise ltS
 wr:∀ x∈ss,Wr x
structure Six0 (ss:List Str):Prop where
 l:ss.length=6
 nd:ss.Nodup
 wr:∀ x∈ss,Wr x
def aGd {x y:Str}(h:x.cps.toList=y.cps.toList):x=y:=by
 obtain ⟨x⟩:=x;obtain ⟨y⟩:=y;exact congrArg Str.mk (Array.toList_inj.mp h)
def Six.of {ws ss:List Str}(h:Six0 ws)(p:ss.Perm ws)(s:sortedS ss=true):Six ss:=by
 refine ⟨p.length_eq.trans h.l,?_,λx hx=>h.wr x (p.mem_iff.mp hx)⟩;have n:ss.Nodup:=p.nodup_iff.mpr h.nd;refine (List.pairwise_and_iff.mpr ⟨iT s,n⟩).imp λ{a b} hab=>?_
 rcases List.le_iff_lt_or_eq.mp hab.1 with q|q
 ·exact q
 ·exact absurd (aGd q) hab.2
def prS (ss:List Str)(q:Nat×Nat):Str×Str:=(ss.getD q.1 "",ss.getD q.2 "")
structure Qs (qs:List (Nat×Nat))(j k:Nat):Prop where
 pw:qs.Pairwise λq r=>q.1<r.1\/(q.1=r.1/\q.2<r.2)
 rg:∀ q∈qs,q.1<q.2/\q.2<6/\(q.1<j\/(q.1=j/\q.2<k))
def Qs.add {qs:List (Nat×Nat)}{j k:Nat}(h:Qs qs j k)(jk:j<k)(k6:k<6):Qs (qs++[(j,k)]) j (k+1):=by
 refine ⟨List.pairwise_append.mpr ⟨h.pw,List.pairwise_singleton _ _,λq hq r hr=>?_⟩,λq hq=>?_⟩
 ·rw [AE.mp hr]
  exact (h.rg q hq).2.2
 ·rcases Bh.mp hq with z|z
  ·have:=h.rg q z
   omega
  ·rw [AE.mp z]
   exact ⟨jk,k6,.inr ⟨rfl,Cg _⟩⟩
def Qs.more {qs:List (Nat×Nat)}{j k:Nat}(h:Qs qs j k):Qs qs j (k+1):=⟨h.pw,λq hq=>by have:=h.rg q hq;omega⟩
def Qs.next {qs:List (Nat×Nat)}{j k m:Nat}(h:Qs qs j k):Qs qs (j+1) m:=⟨h.pw,λq hq=>by have:=h.rg q hq;omega⟩
def Qs.nil:Qs [] 0 m:=⟨.nil,λq hq=>nomatch hq⟩
structure GoodPs (ps:List (Str×Str)):Prop where
 l:ps.length<=25
 r:aH9 ps
 ok:∀ p∈ps,Wr p.1/\Wr p.2/\ltS p.1 p.2
theorem Six.get {ss:List Str}(h:Six ss){i:Nat}(hi:i<6):ss[i]?=some (ss.getD i ""):=by
 have:=Ac (l:=ss) (i:=i) (by rw [h.l];exact hi);rw [this,BI,this];rfl
theorem Six.lt {ss:List Str}(h:Six ss){i k:Nat}(ik:i<k)(hk:k<6):ltS (ss.getD i "") (ss.getD k ""):=by
 have h1:i<ss.length:=by have:=h.l;omega
 have h2:k<ss.length:=by have:=h.l;omega
 have:=Cy.mp h.up i k h1 h2 ik;rw [BI,BI,Ac h1,Ac h2];exact this
theorem Six.w {ss:List Str}(h:Six ss){i:Nat}(hi:i<6):Wr (ss.getD i ""):=h.wr _ (Al (h.get hi))
theorem aFa {x y:Str}(h:ltS x y):x≠y:=λe=>by
 subst e;exact List.lt_irrefl _ h
def aFc {a b c d:Str}(h:ltS a c):ltP (a,b) (c,d):=by
 show HT.lexLtS [a,b] [c,d]=true;rw [HT.lexLtS_cons,if_neg (aFa h)];exact decide_eq_true h
def aFb {a b d:Str}(h:ltS b d):ltP (a,b) (a,d):=by
 show HT.lexLtS [a,b] [a,d]=true;rw [HT.lexLtS_cons,if_pos rfl,HT.lexLtS_cons,if_neg (aFa h)];exact decide_eq_true h
def Qs.good {qs:List (Nat×Nat)}{ss:List Str}{j k:Nat}(h:Qs qs j k)(s:Six ss)(l:qs.length<=25):GoodPs (qs.map (prS ss)):=by
 refine ⟨by rw [Af];exact l,λi p q hp hq=>?_,λp hp=>?_⟩
 ·rw [Ao] at hp hq
  obtain ⟨x,hx,rfl⟩:=AO.mp hp;obtain ⟨y,hy,rfl⟩:=AO.mp hq;obtain ⟨l1,rfl⟩:=Ae.mp hx;obtain ⟨l2,rfl⟩:=Ae.mp hy;have pw:=Cy.mp h.pw i (i+1) l1 l2 (Cg _);have r1:=h.rg _ (Dg l1);have r2:=h.rg _ (Dg l2)
  rcases pw with z|⟨z1,z2⟩
  ·exact aFc (s.lt z (by omega))
  ·show ltP (ss.getD _ "",ss.getD _ "") (ss.getD _ "",ss.getD _ "")
   rw [z1];exact aFb (s.lt z2 (by omega))
 ·obtain ⟨q,hq,rfl⟩:=AH.mp hp
  have r:=h.rg q hq;exact ⟨s.w (by omega),s.w r.2.1,s.lt r.1 r.2.1⟩
def PsT (H:Hp)(us:List V)(ps:List (Str×Str)):Prop:=us.length=ps.length/\∀ (i:Nat) u p,us[i]?=some u->ps[i]?=some p->∃ q,u=.ref q/\H q=some (.tup [.str p.1,.str p.2])
def PsT.nil {H:Hp}:PsT H [] []:=⟨rfl,λi u p h=>by simp at h⟩
def PsT.keep {H H':Hp}{us:List V}{ps:List (Str×Str)}(h:PsT H us ps)(s:Tk H H'):PsT H' us ps:=⟨h.1,λi u p hu hp=>by
 obtain ⟨q,e,sq⟩:=h.2 i u p hu hp;exact ⟨q,e,s _ _ sq⟩⟩
def PsT.add {H:Hp}{us:List V}{ps:List (Str×Str)}{q:Addr}{p:Str×Str}(h:PsT H us ps)(k:H q=some (.tup [.str p.1,.str p.2])):PsT H (us++[.ref q]) (ps++[p]):=by
 refine ⟨by rw [Ay,Ay,h.1];rfl,λj x d hx hd=>?_⟩
 by_cases hj:j<us.length
 ·rw [Cb hj] at hx
  rw [Cb (by rw [<- h.1];exact hj)] at hd;exact h.2 j x d hx hd
 ·rw [BH (by omega)] at hx
  rw [BH (by rw [<- h.1];omega),<- h.1] at hd;obtain ⟨hl,e⟩:=Ae.mp hx;simp at hl;rw [hl] at hx hd;cases hx;cases hd;exact ⟨q,rfl,k⟩
def iK {H H':Hp}{p:Addr}{o:HO}(s:Same H H')(n:H p=none):Same H (upd H' p o):=λb u e=>by
 rw [aI (λz=>by rw [z,n] at e;cases e)];exact s _ _ e
def same_none {H H':Hp}{p:Addr}(s:Same H H')(n:H' p=none):H p=none:=by
 cases e:H p with
 |none=>rfl
 |some o=>
  have:=s _ _ e;rw [n] at this;cases this
def sW {ss:List Str}(h:Six ss){i:Nat}{e:Int}(hi:i<6)(he:e=(i:Int)):atI (ss.map V.str) e=some (.str (ss.getD i "")):=by
 rw [he];exact bA (by rw [Ao,h.get hi];rfl)
def gF {H H1 H2:Hp}{a:Addr}(s:Same H H1)(k:SmB a H1 H2)(n:H a=none):Same H H2:=λb o e=>k b o (λz=>by rw [z,n] at e;cases e) (s b o e)
def SmB.tk {H H':Hp}{a:Addr}(k:SmB a H H')(l:Lf H a):Tk H H':=λb ys e=>k b _ (λz=>by
 obtain ⟨_,h,_⟩:=l;rw [z,h] at e;cases e) e
def RmsT (H:Hp)(us:List V):Prop:=∀ u∈us,∃ q t b,u=.ref q/\H q=some (.tup [.int t,.int b])/\Rm t b
def RmsT.nil {H:Hp}:RmsT H []:=λu h=>nomatch h
def RmsT.keep {H H':Hp}{us:List V}(h:RmsT H us)(s:Tk H H'):RmsT H' us:=λu hu=>by
 obtain ⟨q,t,b,e,sq,r⟩:=h u hu;exact ⟨q,t,b,e,s _ _ sq,r⟩
def RmsT.add {H:Hp}{us:List V}{q:Addr}{t b:Int}(h:RmsT H us)(k:H q=some (.tup [.int t,.int b]))(r:Rm t b):RmsT H (us++[.ref q]):=λu hu=>by
 rcases Bh.mp hu with z|z
 ·exact h u z
 ·rw [AE.mp z]
  exact ⟨q,t,b,rfl,k,r⟩
structure Bn (H:Hp)(p r q:Addr)(rs us:List V)(ps:List (Str×Str)):Prop where
 hp:H p=some (.tup [.ref r,.ref q])
 hr:H r=some (.tup rs)
 rm:RmsT H rs
 l1:1<=rs.length
 l16:rs.length<=16
 hq:H q=some (.tup us)
 pt:PsT H us ps
 g:GoodPs ps
def Bn.keep {H H':Hp}{p r q:Addr}{rs us:List V}{ps:List (Str×Str)}(h:Bn H p r q rs us ps)(s:Same H H'):Bn H' p r q rs us ps:=⟨s _ _ h.hp,s _ _ h.hr,h.rm.keep s.tk,h.l1,h.l16,s _ _ h.hq,h.pt.keep s.tk,h.g⟩
inductive spBench (K:Ab)(vs:List V)(H:Hp)(Q:VK)(Ex:XK):Prop
 |mk (a:Addr) (ns:List Int) (w:Addr) (ws:List Str) (e0:vs=[.ref a,.ref w]) (e1:SqL K H a (ns.map V.int)) (e2:SqL K H w (ws.map V.str)) (e3:Six0 ws) (e4:∀ p r q rs us ps H',Same H H'->Bn H' p r q rs us ps->Q (.ref p) H'):spBench K vs H Q Ex
def abs_nonneg (c:Int):0<=(if c<0 then -c else c):=by split<;>omega
def aJp (t:Int):G t 1=1:=by
 have h1:=qK (a:=t) (b:=1) (by decide);have h2:=zZ (a:=t) (b:=1) (by decide);omega
def aGr {t:Int}(h:1<=t)(ht:Bt 100 t):Rm t 1:=⟨h,by decide,aJp t,ht,dZ 100 (c:=2) (by decide) (by decide)⟩
section
variable {P:Av}{w:World}{K:Ab}{mg:Str->Option Value}{base:Heap}
def fW:FnScope ["_law_script","_law_wares_here","_law_left","_law_rooms","_law_k","_law_top","_law_pairs","_law_some","_law_j"] ["_law_script","_law_wares_here"] (aG aD9):=fnScOk (by decide +kernel)
def aE5 {f:Addr}{fd:Az}(F:Fun K "_law_free_bench" "_law_free_bench" aD9 f fd)(T:Txt mg)(cC:Cal P w K mg base CX0 1 "_law_cell_at" ["_law_script","_law_k"] (mG K))(cD:Cal P w K mg base CX0 1 "_law_digit" ["_law_left","_law_many"] lD)(cL:Cal P w K mg base CX0 1 "_law_lowest" ["_law_top","_law_bottom"] eP):FnOk P w K mg base CX0 2 f fd ["_law_script","_law_wares_here"] (spBench K):=by
 refine F.ok fW (λvs H Q E h=>?_) (λcdv A outer s H vs Q E hr h=>?_)
 ·obtain ⟨_,_,_,_,rfl,_⟩:=h
  rfl
 ·obtain ⟨a,ns,w,ws,rfl,ha,hw,six0,k⟩:=h
  refine ⟨_,(aD (aL (i:=2) fW.nd rfl (Or.inl rfl) (dP (aA (aU gR rfl T.abs' nX (aA (aJ cC hr rfl aR (aA (pv 0) (aA aH aC))) aC)) aC)))
   (aD (aL (i:=3) fW.nd rfl (Or.inl rfl) (dP aC))
   (aD (cJ AJ rfl (dN rfl T.range (aA (aP bP aH (aJ cD hr rfl aR (aA (pv 2) (aA aH aC)))) aC)) (aS (i:=4) fW.nd rfl (Or.inl rfl))
    (aD (aL (i:=5) fW.nd rfl (Or.inl rfl) (aP bP aH (aJ cD hr rfl aR (aA (pv 2) (aA (aP wN aH aH) aC)))))
    (aE (dJ (lQ BG BD BC cQ (pv 3) (aA (aJ cL hr rfl aR (aA (pv 5) (aA (aP bP aH (aJ cD hr rfl aR (aA (pv 2) (aA (aP wN aH aH) aC)))) aC))) aC))))))
   (aD (aL (i:=6) fW.nd rfl (Or.inl rfl) (dP aC))
   (aD (aL (i:=2) fW.nd rfl (Or.inl rfl) (dP (aA (aU gR rfl T.abs' nX (aA (aJ cC hr rfl aR (aA (pv 0) (aA aH aC))) aC)) aC)))
   (aD (aL (i:=7) fW.nd rfl (Or.inl rfl) (aU kW rfl T.sorted' boot_sorted (aA (pv 1) aC)))
   (aD (cJ AJ rfl (dN rfl T.range (aA aH aC)) (aS (i:=8) fW.nd rfl (Or.inl rfl))
    (aE (cJ AJ rfl (jG rfl T.range (aA (aP bP (pv 8) aH) (aA aH aC))) (aS (i:=4) fW.nd rfl (Or.inl rfl))
     (aE (bF (aM dD (aJ cD hr rfl aR (aA (pv 2) (aA aH aC))) aH (aV _))
      (aE (dJ (lQ BG BD BC cQ (pv 6) (aA (aW (aA (bC bB (pv 7) (pv 8) (λ_ _=>rfl)) (aA (bC bB (pv 7) (pv 4) (λ_ _=>rfl)) aC))) aC))))
      aQ)))))
   (aE (aK (aW (aA (aX bH rfl T.tup' cY (aA (pv 3) aC)) (aA (aX bH rfl T.tup' cY (aA (pv 6) aC)) aC)))))))))))),?_⟩
  refine ⟨_,rfl,a,ns,1,rfl,ha,by decide,λc=>⟨c,rfl,zLn1,λl hl=>?_⟩⟩;have c0:=abs_nonneg c;generalize (if c<0 then -c else c)=n at *
  have s1:Same H (upd H l (.lst [.int n])):=Same.upd hl;refine ⟨zLn0,λd hd=>?_⟩;have dl:d≠l:=λe=>by rw [e,aB] at hd;cases hd
  have hd0:H d=none:=same_none s1 hd;have e18':(10:Int)^Int.toNat 18=1000000000000000000:=e18;refine ⟨_,rfl,l,16,rfl,⟨n,by rw [aI (Bg dl)];exact aB,c0⟩,by decide,b9,λm H1 m0 ml sb lf=>⟨_,_,rfl,rfl,_,rfl,by omega,by omega,?_⟩⟩;have s2:Same H H1:=gF (s1.trans (Same.upd hd)) sb hl;have hd1:H1 d=some (.lst []):=sb d _ dl aB;refine eJ (λi σ H'=>∃ (rs:List V) (v4 v5:Option V),σ=[some (.ref a),some (.ref w),some (.ref l),some (.ref d),v4,v5,none,none,none]/\Same H H'/\Lf H' l/\H' d=some (.lst rs)/\rs.length=i/\RmsT H' rs)
   ⟨[],none,none,rfl,s2,lf,hd1,rfl,RmsT.nil⟩ ?_ ?_
  ·rintro i σ H2 hi ⟨rs,v4,v5,rfl,s3,lf2,hd2,rl,rm⟩
   refine ⟨_,rfl,_,_,rfl,rfl,⟨by decide,by decide,bk⟩,l,_,rfl,lf2,?_,?_,λt H3 t0 tl sb3 lf3=>⟨_,_,rfl,rfl,?_⟩⟩
   ·rw [e18'];decide
   ·rw [e18'];exact b9
   have hd3:=sb3 _ _ dl hd2;refine ⟨_,rfl,.inl ⟨rfl,_,SqL.of hd3⟩,_,rfl,_,rfl,_,_,rfl,rfl,⟨by decide,by decide,bk⟩,l,_,rfl,lf3,?_,?_,λb H4 b0 bl' sb4 lf4=>⟨_,_,rfl,rfl,?_⟩⟩
   ·rw [e18'];decide
   ·rw [e18'];exact b9
   rw [e18'] at bl' tl;refine ⟨1+t,1+b,rfl,by omega,by omega,b9 (by omega) (by omega),λp H5 s5 hp5 hp5'=>?_⟩;have hd4:=sb4 _ _ dl hd3;have hd5:=s5 _ _ hd4;have pd:p≠d:=λe=>by rw [e,hd4] at hp5;cases hp5
   refine ⟨d,rs,_,rfl,rfl,hd5,bU (by omega),?_⟩;refine ⟨rs++[.ref p],_,_,rfl,iK ((gF (gF s3 sb3 hl) sb4 hl).trans s5) hd0,(lf4.keep s5).own dl,aB,by rw [Ay,rl];rfl,?_⟩;refine ((((rm.keep (sb3.tk lf2)).keep (sb4.tk lf3)).keep s5.tk).keep (Tk.lst hd5)).add (by rw [aI pd];exact hp5') (rS (by omega) (by omega) (dZ 100 (c:=2000000000000000000) (by omega) (by omega)) (dZ 100 (c:=2000000000000000000) (by omega) (by omega)))
  ·rintro σ H2 ⟨rs,v4,v5,rfl,s3,lf2,hd2,rl,rm⟩
   have rl1:1<=rs.length:=by omega
   have rl16:rs.length<=16:=by omega
   refine ⟨zLn0,λg hg=>?_⟩;have hg0:H g=none:=same_none s3 hg;have gd:g≠d:=λe=>by rw [e,hd2] at hg;cases hg
   have s4:=s3.trans (Same.upd (o:=.lst []) hg);refine ⟨_,rfl,a,ns,2,rfl,s4.seq ha,by decide,λc'=>⟨c',rfl,zLn1,λl2 hl2=>?_⟩⟩;have c0':=abs_nonneg c';generalize (if c'<0 then -c' else c')=n' at *
   have s5:=s4.trans (Same.upd (o:=.lst [.int n']) hl2);have hl20:H l2=none:=same_none s4 hl2;have lg:l2≠g:=λe=>by rw [e,aB] at hl2;cases hl2
   have ld:l2≠d:=λe=>by rw [e,Same.upd hg _ _ hd2] at hl2;cases hl2
   refine ⟨_,rfl,w,ws,rfl,s5.seq hw,by have:=six0.l;omega,λz ss pm st hz=>?_⟩;have six:=Six.of six0 pm st;have hz0:H z=none:=same_none s5 hz;have zl:z≠l2:=λe=>by rw [e,aB] at hz;cases hz
   have zg:z≠g:=λe=>by rw [e,Same.upd hl2 _ _ aB] at hz;cases hz
   have zd:z≠d:=λe=>by rw [e,Same.upd hl2 _ _ (Same.upd hg _ _ hd2)] at hz;cases hz
   have s6:=s5.trans (Same.upd (o:=.lst (ss.map V.str)) hz);refine ⟨6,rfl,by decide,by decide,?_⟩;refine eJ (λi σ H'=>∃ (us:List V) (qs:List (Nat×Nat)) (v4 v8:Option V),σ=[some (.ref a),some (.ref w),some (.ref l2),some (.ref d),v4,v5,some (.ref g),some (.ref z),v8]/\Same H H'/\Lf H' l2/\H' d=some (.lst rs)/\RmsT H' rs/\H' g=some (.lst us)/\H' z=some (.lst (ss.map V.str))/\PsT H' us (qs.map (prS ss))/\Qs qs i 0/\qs.length<=5*min i 5)
    ⟨[],[],_,none,rfl,s6,⟨n',Same.upd hz _ _ aB,c0'⟩,Same.upd hz _ _ (Same.upd hl2 _ _ (Same.upd hg _ _ hd2)),((rm.keep (Same.upd hg).tk).keep (Same.upd hl2).tk).keep (Same.upd hz).tk,Same.upd hz _ _ (Same.upd hl2 _ _ aB),aB,PsT.nil,Qs.nil,by decide⟩ ?_ ?_
   ·rintro j σ H3 hj ⟨us,qs,v4,v8,rfl,s7,lf3,hd3,rm3,hg3,hz3,pt,hq,ql⟩
    have hj6:j<6:=hj;refine ⟨_,rfl,_,_,rfl,rfl,_,_,rfl,by omega,?_⟩;refine eJ (λi σ H'=>∃ (us:List V) (qs:List (Nat×Nat)) (v4:Option V),σ=[some (.ref a),some (.ref w),some (.ref l2),some (.ref d),v4,v5,some (.ref g),some (.ref z),some (.int (0+j))]/\Same H H'/\Lf H' l2/\H' d=some (.lst rs)/\RmsT H' rs/\H' g=some (.lst us)/\H' z=some (.lst (ss.map V.str))/\PsT H' us (qs.map (prS ss))/\Qs qs j (j+1+i)/\qs.length<=5*min j 5+i)
     ⟨us,qs,v4,rfl,s7,lf3,hd3,rm3,hg3,hz3,pt,⟨hq.pw,λq h=>by have:=hq.rg q h;omega⟩,by omega⟩ ?_ ?_
    ·rintro i σ H4 hi ⟨us,qs,v4,rfl,s8,lf4,hd4,rm4,hg4,hz4,pt,hq,ql⟩
     have hi6:j+1+i<6:=by omega
     refine ⟨_,rfl,l2,2,rfl,lf4,by decide,b9,λm H5 m0 ml sb5 lf5=>?_⟩;have s9:=gF s8 sb5 hl20;have hd5:=sb5 _ _ (Bg ld) hd4;have hg5:=sb5 _ _ (Bg lg) hg4;have hz5:=sb5 _ _ zl hz4;have rm5:=rm4.keep (sb5.tk lf4);have pt5:=pt.keep (sb5.tk lf4);refine ⟨rfl,_,rfl,ite2 (λ_=>?_) (λ_=>?_)⟩
     ·refine ⟨_,rfl,.inl ⟨rfl,_,SqL.of hg5⟩,_,rfl,_,rfl,z,_,_,_,rfl,rfl,SqL.of hz5,sW six (i:=j) hj6 (by omega),_,rfl,_,rfl,z,_,_,_,rfl,rfl,SqL.of hz5,sW six (i:=j+1+i) hi6 (by omega),zLn2,λq hq'=>?_⟩
      have qg:q≠g:=λe=>by rw [e,hg5] at hq';cases hq'
      have ul:us.length=qs.length:=by rw [pt.1,Af]
      have e1:(upd H5 q (.tup [.str (ss.getD j ""),.str (ss.getD (j+1+i) "")])) g=some (.lst us):=Same.upd hq' _ _ hg5;refine ⟨g,us,_,rfl,rfl,e1,bU (by omega),us++[.ref q],qs++[(j,j+1+i)],_,rfl,iK (s9.trans (Same.upd hq')) hg0,(lf5.keep (Same.upd hq')).own (Bg lg),?_,(rm5.keep (Same.upd hq').tk).keep (Tk.lst e1),aB,?_,?_,hq.add (by omega) hi6,by rw [Ay,DM];omega⟩
      ·rw [aI (Bg gd)]
       exact Same.upd hq' _ _ hd5
      ·rw [aI zg]
       exact Same.upd hq' _ _ hz5
      ·rw [Bp]
       refine ((pt5.keep (Same.upd hq').tk).keep (Tk.lst e1)).add ?_;rw [aI qg];exact aB
     ·exact ⟨us,qs,_,rfl,s9,lf5,hd5,rm5,hg5,hz5,pt5,hq.more,by omega⟩
    ·rintro σ H4 ⟨us,qs,v4,rfl,s8,lf4,hd4,rm4,hg4,hz4,pt,hq,ql⟩
     exact ⟨us,qs,_,_,rfl,s8,lf4,hd4,rm4,hg4,hz4,pt,hq.next,by omega⟩
   ·rintro σ H3 ⟨us,qs,v4,v8,rfl,s7,lf3,hd3,rm3,hg3,hz3,pt,hq,ql⟩
    refine ⟨_,rfl,d,rs,rfl,.inl ⟨SqL.of hd3,λr hr'=>?_⟩⟩;have t1:=Same.upd (o:=.tup rs) hr';refine ⟨_,rfl,g,us,rfl,.inl ⟨SqL.of (t1 _ _ hg3),λq hq'=>⟨zLn2,λp hp=>?_⟩⟩⟩;have t2:=Same.upd (o:=.tup us) hq';have t3:=Same.upd (o:=.tup [.ref r,.ref q]) hp;refine k p r q rs us _ _ (((s7.trans t1).trans t2).trans t3) ⟨aB,t3 _ _ (t2 _ _ aB),((rm3.keep t1.tk).keep t2.tk).keep t3.tk,rl1,rl16,t3 _ _ aB,((pt.keep t1.tk).keep t2.tk).keep t3.tk,hq.good six (by omega)⟩
end
def pR {H:Hp}{a b:Addr}{o:HO}(h:H a=some o)(h':H b=none):a≠b:=λe=>by rw [e,h'] at h;cases h
def sm0I {H H1:Hp}{p:Addr}(h:Same H H1)(n:H1 p=none):H p=none:=same_none h n
section
variable {P:Av}{w:World}{K:Ab}{mg:Str->Option Value}{base:Heap}
def fJ:FnScope ["_law_script","_law_wares_here","_law_number","_law_rooms","_law_k","_law_pairs","_law_some","_law_j"] ["_law_script","_law_wares_here"] (aG vW):=fnScOk (by decide +kernel)
def aA9 {f:Addr}{fd:Az}(F:Fun K "_law_small" "_law_small" vW f fd)(T:Txt mg)(cC:Cal P w K mg base CX0 2 "_law_cell_at" ["_law_script","_law_k"] (mG K))(cF:Cal P w K mg base CX0 2 "_law_free_bench" ["_law_script","_law_wares_here"] (spBench K))(cM:Cal P w K mg base CX0 2 "_law_mixed" ["_law_cell","_law_k"] iS):FnOk P w K mg base CX0 3 f fd ["_law_script","_law_wares_here"] (spBench K):=by
 refine F.ok fJ (λvs H Q E h=>?_) (λcdv A outer s H vs Q E hr h=>?_)
 ·obtain ⟨_,_,_,_,rfl,_⟩:=h
  rfl
 ·obtain ⟨a,ns,w,ws,rfl,ha,hw,six0,k⟩:=h
  refine ⟨_,(aD (bF (aM dD (aP bQ (aJ cC hr rfl aR (aA (pv 0) (aA aH aC))) aH) aH (aV _))
    (aE (aK (aJ cF hr rfl aR (aA (pv 0) (aA (pv 1) aC)))))
    aQ)
   (aD (aL (i:=2) fJ.nd rfl (Or.inl rfl) (aJ cM hr rfl aR (aA (aJ cC hr rfl aR (aA (pv 0) (aA aH aC))) (aA aH aC))))
   (aD (aL (i:=3) fJ.nd rfl (Or.inl rfl) (dP aC))
   (aD (cJ AJ rfl (dN rfl T.range (aA (aP bP aH (aP bQ (pv 2) aH)) aC)) (aS (i:=4) fJ.nd rfl (Or.inl rfl))
    (aE (dJ (lQ BG BD BC cQ (pv 3) (aA (aW (aA (aP bP aH (aP bQ (aP bK (aJ cM hr rfl aR (aA (aJ cC hr rfl aR (aA (pv 0) (aA aH aC))) (aA (aP bP (pv 4) aH) aC))) aH) aH)) (aA aH aC))) aC)))))
   (aD (aL (i:=5) fJ.nd rfl (Or.inl rfl) (dP aC))
   (aD (aL (i:=6) fJ.nd rfl (Or.inl rfl) (aU kW rfl T.sorted' boot_sorted (aA (pv 1) aC)))
   (aD (cJ AJ rfl (dN rfl T.range (aA aH aC)) (aS (i:=7) fJ.nd rfl (Or.inl rfl))
    (aE (cJ AJ rfl (jG rfl T.range (aA (aP bP (pv 7) aH) (aA aH aC))) (aS (i:=4) fJ.nd rfl (Or.inl rfl))
     (aE (bF (aM dD (aP bQ (aP bK (aJ cM hr rfl aR (aA (aJ cC hr rfl aR (aA (pv 0) (aA aH aC))) (aA (aP bP (aP bO aH (pv 7)) (pv 4)) aC))) aH) (aP bP aH (aP bQ (aP bK (pv 2) aH) aH))) aH (aV _))
      (aE (dJ (lQ BG BD BC cQ (pv 5) (aA (aW (aA (bC bB (pv 6) (pv 7) (λ_ _=>rfl)) (aA (bC bB (pv 6) (pv 4) (λ_ _=>rfl)) aC))) aC))))
      aQ)))))
   (aE (aK (aW (aA (aX bH rfl T.tup' cY (aA (pv 3) aC)) (aA (aX bH rfl T.tup' cY (aA (pv 5) aC)) aC)))))))))))),?_⟩
  refine cut7 ?_
  intros
  refine ⟨_,rfl,a,ns,0,rfl,ha,by decide,λc=>⟨_,_,rfl,rfl,(by show (0:Int)<2;decide),rfl,_,rfl,ite2 (λ_=>?_) (λ_=>?_)⟩⟩
  ·exact ⟨_,rfl,_,rfl,a,ns,w,ws,rfl,ha,hw,six0,k⟩
  refine ⟨_,rfl,a,ns,1,rfl,ha,by decide,λc1=>⟨c1,1,rfl,by decide,by decide,λn n0 nl=>?_⟩⟩;have e4:=bR n (m:=4) (by decide);refine ⟨zLn0,λd hd=>?_⟩;have s1:Same H (upd H d (.lst [])):=Same.upd hd;refine ⟨_,rfl,_,_,rfl,rfl,(by show (0:Int)<4;decide),_,_,rfl,rfl,_,rfl,by omega,by omega,?_⟩;refine eV (λi σ H'=>∃ (rs:List V) (v4:Option V),σ=[some (.ref a),some (.ref w),some (.int n),some (.ref d),v4,none,none,none]/\Same H H'/\H' d=some (.lst rs)/\rs.length=i/\RmsT H' rs) ⟨[],none,rfl,s1,aB,rfl,RmsT.nil⟩ ?_ ?_
  ·intro i σ H2 D2 hN hi hh
   obtain ⟨rs,v4,rfl,s3,hd2,rl,rm⟩:=hh;have hi4:i<4:=by omega
   refine ⟨_,rfl,.inl ⟨rfl,_,SqL.of hd2⟩,_,rfl,a,ns,1,rfl,s3.seq ha,by decide,λc2=>⟨_,rfl,_,_,rfl,rfl,c2,_,rfl,by omega,by omega,λg g0 gl=>?_⟩⟩;have e40:=bR (g/8) (m:=40) (by decide);refine ⟨_,_,rfl,rfl,⟨by decide,b9⟩,_,_,rfl,rfl,(by show (0:Int)<40;decide),_,_,rfl,rfl,zLn2,λq h1=>?_⟩;have t1:=Same.upd (o:=.tup [.int (1+g/8%40),.int 1]) h1;have hq':upd H2 q (.tup [.int (1+g/8%40),.int 1]) q=some (.tup [.int (1+g/8%40),.int 1]):=aB;generalize upd H2 q (.tup [.int (1+g/8%40),.int 1])=H3 at t1 hq' ⊢;have hd3:=t1 _ _ hd2;have qd:q≠d:=λe=>by rw [e,hd3] at hq';cases hq'
   refine ⟨d,rs,_,rfl,rfl,hd3,bU (by omega),?_⟩;exact hN _ _ ⟨rs++[.ref q],_,rfl,iK (s3.trans t1) hd,aB,by rw [Ay,rl];rfl,((rm.keep t1.tk).keep (Tk.lst hd3)).add (by rw [aI qd];exact hq') (aGr (by omega) (dZ 100 (c:=2000000000000000000) (by omega) (by omega)))⟩
  intro σ H2 hh;obtain ⟨rs,v4,rfl,s2,hd2,rl,rm⟩:=hh;refine ⟨zLn0,λdp hdp=>?_⟩;have t1:=Same.upd (o:=.lst []) hdp;have s3:=s2.trans t1;have dne:d≠dp:=pR hd2 hdp;have hdp0:=sm0I s2 hdp;have hd3:=t1 _ _ hd2;have rm3:=rm.keep t1.tk;have hdp3:upd H2 dp (.lst []) dp=some (.lst []):=aB;generalize upd H2 dp (.lst [])=H3 at t1 s3 hd3 rm3 hdp3 ⊢;refine ⟨_,rfl,w,ws,rfl,s3.seq hw,by have:=six0.l;omega,λz ss pm st hz=>?_⟩;have six:=Six.of six0 pm st;have t4:=Same.upd (o:=.lst (ss.map V.str)) hz;have hz4:upd H3 z (.lst (ss.map V.str)) z=some (.lst (ss.map V.str)):=aB;have zd:z≠d:=λe=>by rw [e,hd3] at hz;cases hz
  have zp:z≠dp:=λe=>by rw [e,hdp3] at hz;cases hz
  have s4:=s3.trans t4;have hd4:=t4 _ _ hd3;have hdp4:=t4 _ _ hdp3;have rm4:=rm3.keep t4.tk;generalize upd H3 z (.lst (ss.map V.str))=H4 at t4 hz4 s4 hd4 hdp4 rm4 ⊢;refine ⟨6,rfl,by decide,by decide,?_⟩;refine eV (λi σ H'=>∃ (us:List V) (qs:List (Nat×Nat)) (v4 v7:Option V),σ=[some (.ref a),some (.ref w),some (.int n),some (.ref d),v4,some (.ref dp),some (.ref z),v7]/\Same H H'/\H' d=some (.lst rs)/\RmsT H' rs/\H' dp=some (.lst us)/\H' z=some (.lst (ss.map V.str))/\PsT H' us (qs.map (prS ss))/\Qs qs i 0/\qs.length<=5*min i 5)
   ⟨[],[],v4,none,rfl,s4,hd4,rm4,hdp4,hz4,PsT.nil,Qs.nil,by decide⟩ ?_ ?_
  ·intro j σ H5 D2 hN hj hh
   obtain ⟨us,qs,v4,v7,rfl,s5,hd5,rm5,hdp5,hz5,pt,hq,ql⟩:=hh;have hj6:j<6:=hj;refine ⟨_,rfl,_,_,rfl,rfl,_,_,rfl,by omega,?_⟩;refine eV (λi σ H'=>∃ (us:List V) (qs:List (Nat×Nat)) (v4:Option V),σ=[some (.ref a),some (.ref w),some (.int n),some (.ref d),v4,some (.ref dp),some (.ref z),some (.int (0+j))]/\Same H H'/\H' d=some (.lst rs)/\RmsT H' rs/\H' dp=some (.lst us)/\H' z=some (.lst (ss.map V.str))/\PsT H' us (qs.map (prS ss))/\Qs qs j (j+1+i)/\qs.length<=5*min j 5+i)
    ⟨us,qs,v4,rfl,s5,hd5,rm5,hdp5,hz5,pt,⟨hq.pw,λq h=>by have:=hq.rg q h;omega⟩,by omega⟩ ?_ ?_
   ·intro i σ H6 D3 hN2 hi hh
    obtain ⟨us,qs,v4,rfl,s6,hd6,rm6,hdp6,hz6,pt,hq,ql⟩:=hh;have hi6:j+1+i<6:=by omega
    have bj:Bt 64 ((0:Int)+j):=dZ 64 (c:=100) (by omega) (by omega);have e20:=bR (n/8) (m:=20) (by decide);refine ⟨_,rfl,a,ns,2,rfl,s6.seq ha,by decide,λc3=>⟨_,rfl,_,_,rfl,rfl,⟨bl,b6 bj⟩,_,rfl,_,_,rfl,rfl,c3,_,rfl,by omega,by omega,λm m0 ml=>?_⟩⟩;refine ⟨_,_,rfl,rfl,⟨by decide,b9⟩,_,rfl,_,_,rfl,rfl,⟨by decide,b9⟩,_,_,rfl,rfl,(by show (0:Int)<20;decide),_,_,rfl,rfl,_,_,rfl,rfl,(by show (0:Int)<3+n/8%20;omega),rfl,_,rfl,ite2 (λ_=>?_) (λ_=>?_)⟩
    ·refine ⟨_,rfl,.inl ⟨rfl,_,SqL.of hdp6⟩,_,rfl,_,rfl,z,_,_,_,rfl,rfl,SqL.of hz6,sW six (i:=j) hj6 (by omega),_,rfl,_,rfl,z,_,_,_,rfl,rfl,SqL.of hz6,sW six (i:=j+1+i) hi6 (by omega),zLn2,λq hq'=>?_⟩
     have qd:q≠dp:=λe=>by rw [e,hdp6] at hq';cases hq'
     have ul:us.length=qs.length:=by rw [pt.1,Af]
     have t7:=Same.upd (o:=.tup [.str (ss.getD j ""),.str (ss.getD (j+1+i) "")]) hq';have hq7:upd H6 q (.tup [.str (ss.getD j ""),.str (ss.getD (j+1+i) "")]) q=some (.tup [.str (ss.getD j ""),.str (ss.getD (j+1+i) "")]):=aB;generalize upd H6 q (.tup [.str (ss.getD j ""),.str (ss.getD (j+1+i) "")])=H7 at t7 hq7 ⊢;have e1:=t7 _ _ hdp6;refine ⟨dp,us,_,rfl,rfl,e1,bU (by omega),hN2 _ _ ⟨us++[.ref q],qs++[(j,j+1+i)],_,rfl,iK (s6.trans t7) hdp0,by rw [aI dne];exact t7 _ _ hd6,(rm6.keep t7.tk).keep (Tk.lst e1),aB,by rw [aI zp];exact t7 _ _ hz6,?_,hq.add (by omega) hi6,by rw [Ay,DM];omega⟩⟩;rw [Bp];refine ((pt.keep t7.tk).keep (Tk.lst e1)).add ?_;rw [aI qd];exact hq7
    ·exact hN2 _ _ ⟨us,qs,_,rfl,s6,hd6,rm6,hdp6,hz6,pt,hq.more,by omega⟩
   ·intro σ H6 hh
    obtain ⟨us,qs,v4,rfl,s6,hd6,rm6,hdp6,hz6,pt,hq,ql⟩:=hh;exact hN _ _ ⟨us,qs,_,_,rfl,s6,hd6,rm6,hdp6,hz6,pt,hq.next,by omega⟩
  ·intro σ H5 hh
   obtain ⟨us,qs,v4,v7,rfl,s5,hd5,rm5,hdp5,hz5,pt,hq,ql⟩:=hh;refine ⟨_,rfl,d,rs,rfl,.inl ⟨SqL.of hd5,λr hr'=>?_⟩⟩;have t6:=Same.upd (o:=.tup rs) hr';have hr6:upd H5 r (.tup rs) r=some (.tup rs):=aB;generalize upd H5 r (.tup rs)=H6 at t6 hr6 ⊢;refine ⟨_,rfl,dp,us,rfl,.inl ⟨SqL.of (t6 _ _ hdp5),λq hq'=>?_⟩⟩;have t7:=Same.upd (o:=.tup us) hq';have hq7:upd H6 q (.tup us) q=some (.tup us):=aB;generalize upd H6 q (.tup us)=H7 at t7 hq7 ⊢;refine ⟨zLn2,λp hp=>?_⟩;have t8:=Same.upd (o:=.tup [.ref r,.ref q]) hp;exact k p r q rs us _ _ (((s5.trans t6).trans t7).trans t8) ⟨aB,t8 _ _ (t7 _ _ hr6),((rm5.keep t6.tk).keep t7.tk).keep t8.tk,by omega,by omega,t8 _ _ hq7,((pt.keep t6.tk).keep t7.tk).keep t8.tk,hq.good six (by omega)⟩
end
end K52
namespace L2
open PySem PySem.Spec PyProof.Rows PySem.W
structure CalK (P:Av)(w:World)(K:Frag)(mg:Str->Option Value)(base:Heap)(CX:CXT)(k:Nat)(x:Str)(ps ks:List Str)(gV:List V->List V->List V)(sp:Sp):Prop where
 ex:∃ (f:Addr) (fd:Az) (g:List Value->List Value->List Value),mg x=some (.ref f)/\keepIn K (.ref f)=true/\KBinds K fd ps ks g gV/\FnOk P w K mg base CX k f fd ps sp
section
variable {X:Cx}
end
end L2
namespace K52
open PySem PySem.Spec PyProof.Rows L2 GM TM
def qY (K:Ab):Sp:=λvs H Q _=>∃ x:Str,vs=[.str x]/\Wr x/\∀ H',Same H H'->Q (.bl true) H'
section
variable {P:Av}{w:World}{K:Ab}{mg:Str->Option Value}{base:Heap}{f:Addr}{fd:Az}
def nd1:(["sign"]:List Str).Nodup:=by decide +kernel
theorem aFe (c:Nat):(!(AI.Str.occurrences LET ⟨#[c]⟩ 0 LET.length 1).isEmpty)=decide (97<=c/\c<=122):=by
 rw [StrLaws.found_one];have e:LET.cps.toList=(AF 26).map (97 + ·):=by decide +kernel
 rw [e];refine decide_eq_decide.mpr ⟨λh=>?_,λh=>?_⟩
 ·obtain ⟨j,hj,rfl⟩:=AH.mp h
  have:=Cp.mp hj;omega
 ·exact AH.mpr ⟨c-97,Cp.mpr (by omega),by omega⟩
def aAq:FnScope ["thing"] ["thing"] (aG pF):=fnScOk (by decide +kernel)
def xP {tk tk':Tok}(F:Fun K "is_ware" "is_ware" pF f fd)(T:Txt mg)(mM:mg "MOST_LETTERS" = some (.int 8 tk))(mL:mg "LETTERS" = some (.str LET tk')):FnOk P w K mg base CX0 1 f fd ["thing"] (qY K):=by
 refine F.ok aAq (λvs H Q E h=>?_) (λcdv A outer s H vs Q E hr h=>?_)
 ·obtain ⟨_,rfl,_⟩:=h
  rfl
 ·obtain ⟨x,rfl,wx,k⟩:=h
  refine ⟨_,(aD (bF (eB (dA (aU zP rfl T.isi CL (aA (pv 0) (aA (eS (v:=.ty "str") rfl T.str' aC9 rfl) aC)))))
    (aE (aK fP)) aQ)
   (aE (aK (iB (rH aA2 aA2 aH (aU nV rfl T.len Bu (aA (pv 0) aC)) (fB (v:=.int 8) rfl mM ⟨_,rfl⟩)) (gK (aU (jW rfl) rfl T.all' boot_all (aA (pO (N':=["sign"]) (cl:=[]) (λ_=>[none]) rfl rfl (by decide +kernel) (by decide +kernel) (kR (by decide +kernel)) (λ_ _=>oB)
      (aCs (pv 0)) (λ_ _ _ _ _=>aS (i:=0) nd1 rfl (Or.inl rfl)) (λ_ _ _ _ _=>dM) (λ_ _ _ _ _=>dB wX (pv 0) (fB (v:=.str LET) rfl mL ⟨_,rfl⟩) rfl)) aC))))))),?_⟩
  have l1:=wx.l1;have l8:=wx.l8;have le:=lenC x;refine ⟨_,rfl,_,"str",true,rfl,.inl .str_str,_,rfl,iteF ⟨_,rfl,x,rfl,bV (by omega),_,_,rfl,rfl,_,rfl,?_⟩⟩;rw [decide_eq_true (by omega:(1:Int)<=(x.length:Int))];refine iteT ⟨_,_,rfl,rfl,_,rfl,?_⟩;rw [decide_eq_true (by omega:(x.length:Int)<=8)];refine iteT ⟨_,rfl,x,rfl,λD hD=>?_⟩;refine aB1 (λi ys H'=>ys=((cps x).take i).map (λc=>V.bl (decide (97<=c/\c<=122)))/\Same H H'/\H' D=some (.lst ys)) ⟨by simp,Same.upd hD,aB⟩ ?_ ?_ ?_
  ·rintro i ys H' hi ⟨rfl,_,hD'⟩
   refine ⟨hD',?_⟩;rw [Af,DD];exact bU (by omega)
  ·rintro i c ys H' hc ⟨rfl,sm,hD'⟩
   refine ⟨(Keep.refl _).set rfl,?_⟩;unfold aAi;dsimp only;rw [if_pos rfl];refine ⟨_,rfl,_,_,rfl,rfl,hD',Nx.mk (Ae.mp hc).1 ⟨?_,λb o hb=>?_,aB⟩⟩
   ·rw [aFe,CU,hc,Bp]
    rfl
   ·rw [aI (aZ hb hD)]
    exact sm b o hb
  ·rintro ys H' ⟨rfl,sm,hD'⟩
   rw [EB (Aj _)] at hD';refine ⟨D,(cps x).map (λc=>decide (97<=c/\c<=122)),rfl,SqL.of (by rw [Ca];exact hD'),?_⟩;rw [show ((cps x).map (λc=>decide (97<=c/\c<=122))).all id=true by
    rw [List.all_map,Cf];exact λc hc=>decide_eq_true (wx.lt c hc)]
   exact k _ sm
def aGm:FnScope ["one","other"] ["one","other"] (aG aD5):=fnScOk (by decide +kernel)
end
def aAl:Sp:=λvs H Q _=>∃ t b:Int,vs=[.int t,.int b]/\0<=t/\1<=b/\Bt 9000 b/\RetT H Q [t/G t b,b/G t b]
section
variable {P:Av}{w:World}{K:Ab}{mg:Str->Option Value}{base:Heap}
def aGl:FnScope ["top","bottom","divisor"] ["top","bottom"] (aG sLow):=fnScOk (by decide +kernel)
def aHc {f:Addr}{fd:Az}(F:Fun K "lowest_terms" "lowest_terms" sLow f fd)(cG:Cal P w K mg base CX0 1 "common_divisor" ["one","other"] aDq):FnOk P w K mg base CX0 2 f fd ["top","bottom"] aAl:=by
 refine F.ok aGl (λvs H Q E h=>?_) (λcdv A outer s H vs Q E hr h=>?_)
 ·obtain ⟨a,b,rfl,_⟩:=h
  rfl
 ·obtain ⟨t,b,rfl,ht,hb,hs,k⟩:=h
  refine ⟨_,aD (aL (i:=2) aGl.nd rfl (Or.inl rfl) (aJ cG hr rfl aR (aA (pv 0) (aA (pv 1) aC))))
   (aE (aK (aW (aA (aP bK (pv 0) (pv 2)) (aA (aP bK (pv 1) (pv 2)) aC))))),?_⟩
  refine ⟨_,rfl,_,rfl,t,b,rfl,ht,by omega,?_⟩;have g:=nH (t:=t) hb hs;refine ⟨_,rfl,_,rfl,_,_,rfl,rfl,g,_,rfl,_,rfl,_,_,rfl,rfl,g,zLn2,λp hp=>?_⟩;exact k p _ (Same.upd hp) aB
end
def Pr (H:Hp)(v:V)(x:Str×Int×Int):Prop:=∃ p q,v=.ref p/\H p=some (.tup [.str x.1,.ref q])/\H q=some (.tup [.int x.2.1,.int x.2.2])
def Pr.keep {H H':Hp}{v:V}{x:Str×Int×Int}(h:Pr H v x)(k:Tk H H'):Pr H' v x:=by
 obtain ⟨p,q,e,h1,h2⟩:=h;exact ⟨p,q,e,k _ _ h1,k _ _ h2⟩
inductive PrL (H:Hp):List V->List (Str×Int×Int)->Prop where
 |nil:PrL H [] []
 |cons {v x vs xs}:Pr H v x->PrL H vs xs->PrL H (v::vs) (x::xs)
def PrL.keep {H H':Hp}{vs:List V}{xs:List (Str×Int×Int)}(h:PrL H vs xs)(k:Tk H H'):PrL H' vs xs:=by
 induction h with
 |nil=>exact .nil
 |cons p _ ih=>exact .cons (p.keep k) ih
def PrL.snoc {H:Hp}{vs:List V}{xs:List (Str×Int×Int)}{v:V}{x:Str×Int×Int}(h:PrL H vs xs)(p:Pr H v x):PrL H (vs++[v]) (xs++[x]):=by
 induction h with
 |nil=>exact .cons p .nil
 |cons q _ ih=>exact .cons q ih
theorem PrL.length {H:Hp}{vs:List V}{xs:List (Str×Int×Int)}(h:PrL H vs xs):vs.length=xs.length:=by
 induction h with
 |nil=>rfl
 |cons _ _ ih=>simp [ih]
structure Two (K:Ab)(H:Hp)(p q:Addr)(t1 b1 t2 b2:Int):Prop where
 sp:SqT K H p [.int t1,.int b1]
 sq:H q=some (.tup [.int t2,.int b2])
 ht1:0<=t1
 hb1:1<=b1
 am:Amt t2 b2
 st1:Bt 4000 t1
 sb1:Bt 4000 b1
 st2:Bt 4000 t2
 sb2:Bt 4000 b2
inductive spPlus (K:Ab)(vs:List V)(H:Hp)(Q:VK)(Ex:XK):Prop
 |mk (p q:Addr) (t1 b1 t2 b2:Int) (e0:vs=[.ref p,.ref q]) (e1:Two K H p q t1 b1 t2 b2) (e2:RetT H Q [(t1*b2+t2*b1)/G (t1*b2+t2*b1) (b1*b2),(b1*b2)/G (t1*b2+t2*b1) (b1*b2)]):spPlus K vs H Q Ex
theorem PrL.get {H:Hp}{vs:List V}{xs:List (Str×Int×Int)}(h:PrL H vs xs):∀ {i:Nat} {v:V},vs[i]?=some v->∃ x,xs[i]?=some x/\Pr H v x:=by
 induction h with
 |nil=>intro i v e;simp at e
 |cons p _ ih=>
  intro i v e;cases i with
  |zero=>cases e;exact ⟨_,rfl,p⟩
  |succ i=>exact ih (by simpa using e)
def nOf (M:Int)(x:Str×Int×Int):Int:=x.2.1*(M/x.2.2)
def sumN (M:Int)(xs:List (Str×Int×Int)):Int:=(xs.map (nOf M)).sum
theorem iQ {M:Int}{xs:List (Str×Int×Int)}{i:Nat}{x:Str×Int×Int}(h:xs[i]?=some x):sumN M (xs.take (i+1))=sumN M (xs.take i)+nOf M x:=by
 unfold sumN;rw [CU,h,Bp,Fe];simp
def dE {M t b N:Int}(hM:0<M)(h:Fr M t b N):t<=N/\b<=M:=by
 have hb:=Int.le_of_dvd hM h.dvd;refine ⟨?_,hb⟩;have n0:=h.nonneg hM;have:=CM hb n0;rw [<- h.e] at this;exact Int.le_of_mul_le_mul_right this hM
def Over (M:Int)(xs:List (Str×Int×Int)):Prop:=∀ x∈xs,Amt x.2.1 x.2.2/\x.2.2∣M
def lC (K:Ab):Sp:=λvs H Q _=>∃ (m:Addr) (us:List V) (xs:List (Str×Int×Int)) (M:Int),vs=[.ref m]/\SqT K H m us/\PrL H us xs/\Over M xs/\0<M/\Bt 3000 M/\(∀ i,Bt 3000 (sumN M (xs.take i))) /\
 ∀ (f:Addr) (t b:Int) H',Same H H'->SqT K H' f [.int t,.int b]->Fr M t b (sumN M xs)->Q (.ref f) H'
section
variable {P:Av}{w:World}{K:Ab}{mg:Str->Option Value}{base:Heap}
def Two.botS {K:Ab}{H:Hp}{p q:Addr}{t1 b1 t2 b2:Int}(T:Two K H p q t1 b1 t2 b2):1<=b1*b2/\Bt 8000 (b1*b2):=by
 have:=Int.mul_le_mul T.hb1 T.am.b1 (by decide) (by have:=T.hb1;omega);exact ⟨by omega,T.sb1.mul T.sb2⟩
def aGk:FnScope ["one","other"] ["one","other"] (aG aD3):=fnScOk (by decide +kernel)
def aEy {f aN:Addr}{fd:Az}(F:Fun K "plus" "plus" aD3 f fd)(mN:mg "NOUGHT" = some (.ref aN))(sN:∀ H:Hp,SqT K H aN [.int 0,.int 1])(cL:Cal P w K mg base CX0 2 "lowest_terms" ["top","bottom"] aAl):FnOk P w K mg base CX0 3 f fd ["one","other"] (spPlus K):=by
 refine F.ok aGk (λvs H Q E h=>?_) (λcdv A outer s H vs Q E hr h=>?_)
 ·obtain ⟨_,_,_,_,_,_,rfl,_⟩:=h
  rfl
 ·obtain ⟨p,q,t1,b1,t2,b2,rfl,T,k⟩:=h
  refine ⟨_,aD (bF (aM (aG8 hr.units) (pv 0) (fB (v:=.ref aN) rfl mN rfl) (aV _)) (aE (aK (pv 1))) aQ)
   (aE (aK (aJ cL hr rfl aR (aA (aP bP (aP bO (pit 0 0) (pit 1 1)) (aP bO (pit 1 0) (pit 0 1))) (aA (aP bO (pit 0 1) (pit 1 1)) aC))))),?_⟩
  have bs:=T.botS;have hs:=SqT.of (K:=K) T.sq;have m1:=BB T.ht1 (show 0<=b2 by have:=T.am.b1;omega);have m2:=BB T.am.t0 (show 0<=b1 by have:=T.hb1;omega);have a0:=T.am.t0;have a1:=T.am.b1;refine ⟨_,rfl,p,aN,[t1,b1],[0,1],rfl,rfl,T.sp,sN H,_,rfl,ite2 (λhc=>?_) (λ_=>?_)⟩
  ·have e:=of_decide_eq_true hc
   injection e with e1 e;injection e with e2 e;subst e1 e2;refine ⟨_,rfl,?_⟩;have u:=kP (t:=0*b2+t2*1) (b:=1*b2) (by omega) (by omega) T.am (by rw [Br,Int.zero_add,Int.one_mul,Int.mul_one]);rw [u.1,u.2] at k;exact k q H (Same.refl H) T.sq
  ·refine ⟨p,_,_,rfl,T.sp,rfl,q,_,_,rfl,hs,rfl,_,_,rfl,rfl,⟨b6 T.st1,b6 T.sb2⟩,q,_,_,rfl,hs,rfl,p,_,_,rfl,T.sp,rfl,_,_,rfl,rfl,⟨b6 T.st2,b6 T.sb1⟩,_,_,rfl,rfl,?_⟩
   exact ⟨p,_,_,rfl,T.sp,rfl,q,_,_,rfl,hs,rfl,_,_,rfl,rfl,⟨b6 T.sb1,b6 T.sb2⟩,_,_,rfl,by omega,bs.1,bs.2.mono (by decide),k⟩
def gC:FnScope ["one","found","ware","part"] ["one"] (aG oX):=fnScOk (by decide +kernel)
def xD {f aN:Addr}{fd:Az}(F:Fun K "whole" "whole" oX f fd)(mN:mg "NOUGHT" = some (.ref aN))(sN:∀ H:Hp,SqT K H aN [.int 0,.int 1])(cP:Cal P w K mg base CX0 3 "plus" ["one","other"] (spPlus K)):FnOk P w K mg base CX0 4 f fd ["one"] (lC K):=by
 refine F.ok gC (λvs H Q E h=>?_) (λcdv A outer s H vs Q E hr h=>?_)
 ·obtain ⟨_,_,_,_,rfl,_⟩:=h
  rfl
 ·obtain ⟨m,us,xs,M,rfl,hm,pr,ov,M0,bM,bS,k⟩:=h
  refine ⟨_,(aD (aL (i:=1) gC.nd rfl (Or.inl rfl) (fB (v:=.ref aN) rfl mN rfl))
   (aD (cJ AJ rfl (fY (pv 0)) (fO rfl (bE (aS (i:=2) gC.nd rfl (Or.inl rfl)) (bE (aS (i:=3) gC.nd rfl (Or.inl rfl)) eF)))
    (aE (aL (i:=1) gC.nd rfl (Or.inl rfl) (aJ cP hr rfl aR (aA (pv 1) (aA (pv 3) aC))))))
   (aE (aK (pv 1))))),?_⟩
  refine ⟨_,rfl,m,rfl,⟨_,hm⟩,?_⟩;refine lS (xs:=us) (λi σ H'=>∃ (g:Addr) (t b:Int) (v2 v3:Option V),σ=[some (.ref m),some (.ref g),v2,v3]/\SqT K H' g [.int t,.int b]/\Fr M t b (sumN M (xs.take i))/\Same H H')
   ⟨aN,0,1,none,none,rfl,sN H,Fr.zero,Same.refl H⟩ ?_ ?_ ?_
  ·rintro i σ H' hi ⟨_,_,_,_,_,rfl,_,_,s2⟩
   exact s2.tup hm
  ·rintro i v σ H2 hv ⟨g,t,b,v2,v3,rfl,hg,fr,s2⟩
   obtain ⟨x,hx,p,q,rfl,h1,h2⟩:=pr.get hv;refine ⟨p,_,rfl,SqT.of (s2 _ _ h1),rfl,_,_,rfl,_,_,rfl,rfl,?_⟩;obtain ⟨am,dv⟩:=ov x (Al hx);have frx:Fr M x.2.1 x.2.2 (nOf M x):=Fr.of am dv;have sm:=dE M0 fr;have smx:=dE M0 frx;have n1:=fr.nonneg M0;have n2:=frx.nonneg M0;have fb:=fr.am;have bN:=bS i;have bN1:=bS (i+1);rw [iQ hx] at bN1;have bx:Bt 3000 (nOf M x):=bN1.le n2 (by omega);refine ⟨_,rfl,_,rfl,g,q,t,b,x.2.1,x.2.2,rfl,⟨hg,s2 _ _ h2,fb.t0,fb.b1,am,(bN.le fb.t0 sm.1).mono (by decide),(bM.le (by have:=fb.b1;omega) sm.2).mono (by decide),(bx.le am.t0 smx.1).mono (by decide),(bM.le (by have:=am.b1;omega) smx.2).mono (by decide)⟩,λr H3 s3 h3=>?_⟩;refine ⟨r,_,_,_,_,rfl,SqT.of h3,?_,s2.trans s3⟩;rw [iQ hx];exact fr.plus frx
  ·rintro σ H2 ⟨g,t,b,v2,v3,rfl,hg,fr,s2⟩
   rw [pr.length,BF] at fr;exact ⟨_,rfl,k g t b H2 s2 hg fr⟩
end
def NW (M:Int)(xs:List (Str×Int×Int))(y:Str):Int:=sumN M (xs.filter λx=>decide (x.1=y))
theorem aFu {M:Int}{xs:List (Str×Int×Int)}{i:Nat}{x:Str×Int×Int}(h:xs[i]?=some x)(y:Str):NW M (xs.take (i+1)) y=NW M (xs.take i) y+(if x.1=y then nOf M x else 0):=by
 unfold NW sumN;rw [CU,h,DI,Bp,Fe]
 congr 1
 by_cases e:x.1=y
 ·simp [e]
 ·simp [e]
theorem eN {M:Int}{xs:List (Str×Int×Int)}{y:Str}(h:y∉xs.map (·.1)):NW M xs y=0:=by
 unfold NW;rw [List.filter_eq_nil_iff.mpr (λx hx e=>h (AH.mpr ⟨x,hx,of_decide_eq_true e⟩))];rfl
def bW {M:Int}{xs:List (Str×Int×Int)}(hM:0<M)(h:Over M xs):0<=sumN M xs:=by
 induction xs with
 |nil=>exact DC _
 |cons x r ih=>
  have h1:=ih λy hy=>h y (Ah _ hy);have h2:=(Fr.of (h x Ar).1 (h x Ar).2).nonneg hM;show 0<=((x::r).map (nOf M)).sum;rw [An,AK];exact Int.add_nonneg h2 h1
theorem qU {M:Int}(hM:0<M)(p:Str×Int×Int->Bool):∀ {xs:List (Str×Int×Int)},Over M xs->sumN M (xs.filter p)<=sumN M xs
 |[],_=>DC _
 |x::r,h=>by
  have h1:=qU hM p (xs:=r) λy hy=>h y (Ah _ hy);have h2:=(Fr.of (h x Ar).1 (h x Ar).2).nonneg hM;have e2:sumN M (x::r)=nOf M x+sumN M r:=by unfold sumN;rw [An,AK]
  rw [e2];cases hp:p x with
  |true=>
   rw [Ep hp];have e1:sumN M (x::r.filter p)=nOf M x+sumN M (r.filter p):=by unfold sumN;rw [An,AK]
   rw [e1];exact Int.add_le_add_left h1 _
  |false=>
   rw [Er (by rw [hp];exact AB)];have:0<=nOf M x:=h2;omega
theorem fH {M:Int}(hM:0<M):∀ {xs:List (Str×Int×Int)} (i:Nat),Over M xs->sumN M (xs.take i)<=sumN M xs
 |[],i,_=>by rw [List.take_nil];exact DC _
 |x::r,0,h=>bW hM h
 |x::r,i+1,h=>by
  have h1:=fH hM (xs:=r) i λy hy=>h y (Ah _ hy);have e2:sumN M (x::r)=nOf M x+sumN M r:=by unfold sumN;rw [An,AK]
  have e1:sumN M (x::r.take i)=nOf M x+sumN M (r.take i):=by unfold sumN;rw [An,AK]
  rw [List.take_succ_cons,e1,e2];exact Int.add_le_add_left h1 _
def Over.take {M:Int}{xs:List (Str×Int×Int)}(h:Over M xs)(i:Nat):Over M (xs.take i):=λx hx=>h x (List.mem_of_mem_take hx)
def Over.filter {M:Int}{xs:List (Str×Int×Int)}(h:Over M xs)(p:Str×Int×Int->Bool):Over M (xs.filter p):=λx hx=>h x (Eo.mp hx).1
def qJ {M:Int}(hM:0<M){xs:List (Str×Int×Int)}(h:Over M xs)(i:Nat)(y:Str):0<=NW M (xs.take i) y/\NW M (xs.take i) y<=sumN M xs:=
 ⟨bW hM ((h.take i).filter _),Int.le_trans (qU hM _ (h.take i)) (fH hM i h)⟩
def aIb (M:Int)(xs ys:List (Str×Int×Int)):Prop:=∃ ks:List Str,sortedS ks=true/\ks.Nodup/\(∀ y,y∈ks↔y∈xs.map (·.1))/\ys.map (·.1)=ks.filter (λy=>decide (NW M xs y≠0))/\∀ p∈ys,Fr M p.2.1 p.2.2 (NW M xs p.1)
theorem rJ {M:Int}(hM:0<M){f:Str->Int}:∀ {ys zs:List (Str×Int×Int)},ys.map (·.1)=zs.map (·.1)->(∀ p∈ys,Fr M p.2.1 p.2.2 (f p.1))->(∀ p∈zs,Fr M p.2.1 p.2.2 (f p.1))->ys=zs
  |[],[],_,_,_=>rfl
  |[],_::_,e,_,_=>by simp at e
  |_::_,[],e,_,_=>by simp at e
  |(w1,t1,b1)::ys,(w2,t2,b2)::zs,e,h1,h2=>by
    simp only [An,List.cons.injEq] at e;obtain ⟨e1,e2⟩:=e;subst e1;have a1:=h1 _ Ar;have a2:=h2 _ Ar;obtain ⟨u1,u2⟩:=Fr.uniq hM a1 a2;simp only at u1 u2;subst u1 u2;rw [rJ hM e2 (λp hp=>h1 p (Ah _ hp)) (λp hp=>h2 p (Ah _ hp))]
structure DK (kvs:List (Key×V))(ks:List Str):Prop where
 keys:kvs.map (·.1)=ks.map AR
 nd:ks.Nodup
def DK.nil:DK [] []:=⟨rfl,.nil⟩
theorem DK.len {kvs:List (Key×V)}{ks:List Str}(h:DK kvs ks):kvs.length=ks.length:=by
 have:=congrArg List.length h.keys;rwa [Af,Af] at this
theorem DK.get {kvs:List (Key×V)}{ks:List Str}(h:DK kvs ks)(y:Str):(valV kvs (AR y)).isSome=true↔y∈ks:=by
 rw [<- eX,List.any_eq_true];constructor
 ·rintro ⟨kv,hm,e⟩
  have e':kv.1=AR y:=of_decide_eq_true e;have:kv.1∈ks.map AR:=by rw [<- h.keys];exact AH.mpr ⟨kv,hm,rfl⟩
  obtain ⟨z,hz,ez⟩:=AH.mp this;rw [e'] at ez;cases ez;exact hz
 ·intro hy
  have:AR y∈kvs.map (·.1):=by rw [h.keys];exact AH.mpr ⟨y,hy,rfl⟩
  obtain ⟨kv,hm,e⟩:=AH.mp this;exact ⟨kv,hm,decide_eq_true e⟩
def DK.put {kvs:List (Key×V)}{ks:List Str}(h:DK kvs ks)(y:Str)(v:V):∃ ks',DK (putK kvs (AR y) v) ks'/\(∀ z,z∈ks'↔z∈ks\/z=y)/\ks'.length<=ks.length+1:=by
 unfold putK;split
 ·rename_i hany
  have hy:y∈ks:=(h.get y).mp (by rw [<- eX];exact hany);refine ⟨ks,⟨?_,h.nd⟩,λz=>⟨.inl,λq=>q.elim id λe=>e▸hy⟩,Dq _⟩;rw [<- h.keys,Ca];refine Eg λkv _=>?_;show (if kv.1=AR y then (kv.1,v) else kv).1=kv.1;split<;>rfl
 ·rename_i hany
  have hy:y∉ks:=λq=>hany (by rw [eX];exact (h.get y).mpr q);refine ⟨ks++[y],⟨by rw [Bp,Bp,h.keys];rfl,?_⟩,λz=>by simp,by simp⟩;exact List.nodup_append.mpr ⟨h.nd,by simp,λa ha b hb e=>hy (by rw [AE.mp hb] at e;exact e▸ha)⟩
def DN (M:Int)(xs:List (Str×Int×Int))(kvs:List (Key×V))(ks:List Str):Prop:=DK kvs ks/\(∀ y,y∈ks↔y∈xs.map (·.1))/\∀ y,y∈ks->valV kvs (AR y)=some (.int (NW M xs y))
def DA (H:Hp)(M:Int)(xs:List (Str×Int×Int))(kvs:List (Key×V))(ks:List Str):Prop:=DK kvs ks/\(∀ y,y∈ks↔y∈xs.map (·.1))/\∀ y,y∈ks->∃ (p:Addr) (t b:Int),valV kvs (AR y)=some (.ref p)/\H p=some (.tup [.int t,.int b])/\Fr M t b (NW M xs y)
def DA.keep {H H':Hp}{M:Int}{xs:List (Str×Int×Int)}{kvs:List (Key×V)}{ks:List Str}(h:DA H M xs kvs ks)(k:Tk H H'):DA H' M xs kvs ks:=⟨h.1,h.2.1,λy hy=>by
 obtain ⟨p,t,b,e1,e2,e3⟩:=h.2.2 y hy;exact ⟨p,t,b,e1,k _ _ e2,e3⟩⟩
theorem sY {xs:List (Str×Int×Int)}{i:Nat}{x:Str×Int×Int}(h:xs[i]?=some x)(y:Str):y∈(xs.take (i+1)).map (·.1)↔y∈(xs.take i).map (·.1)\/y=x.1:=by
 rw [CU,h,Bp,Bh];simp
def DA.step {H:Hp}{M:Int}{xs:List (Str×Int×Int)}{kvs:List (Key×V)}{ks:List Str}{i:Nat}{x:Str×Int×Int}{r:Addr}{t b:Int}(hx:xs[i]?=some x)(h:DA H M (xs.take i) kvs ks)(hr:H r=some (.tup [.int t,.int b]))(fr:Fr M t b (NW M (xs.take i) x.1+nOf M x)) :
  ∃ ks',DA H M (xs.take (i+1)) (putK kvs (AR x.1) (.ref r)) ks'/\ks'.length<=ks.length+1:=by
 obtain ⟨ks',d',m',l'⟩:=h.1.put x.1 (.ref r);refine ⟨ks',⟨d',λy=>by rw [m',h.2.1,sY hx],λy hy=>?_⟩,l'⟩;rw [qN,aFu hx]
 by_cases e:y=x.1
 ·subst e
  rw [if_pos rfl,if_pos rfl];exact ⟨r,t,b,rfl,hr,fr⟩
 ·rw [if_neg (λz=>e (AR.inj z)),if_neg (λz=>e z.symm),Int.add_zero]
  exact h.2.2 y (((m' y).mp hy).resolve_right e)
def Tk.dk {H:Hp}{l:Addr}{kvs:List (Key×V)}{o:HO}(h:H l=some (.dK kvs)):Tk H (upd H l o):=λb ys e=>by
 have ne:b≠l:=λz=>by rw [z,h] at e;cases e
 rw [aI ne];exact e
def vTx:V->Str
 |.str s=>s
 |_=>""
def MixP (M:Int)(xs:List (Str×Int×Int))(x y:V)(H:Hp):Prop:=∃ (p q:Addr) (t b:Int),y=.ref p/\H p=some (.tup [x,.ref q])/\H q=some (.tup [.int t,.int b])/\Fr M t b (NW M xs (vTx x))
theorem rQ {M:Int}{xs:List (Str×Int×Int)}{H:Hp}:∀ (ss:List Str) (ys:List V),ys.length=ss.length->(∀ (i:Nat) (x y:V),(ss.map V.str)[i]?=some x->ys[i]?=some y->MixP M xs x y H)->∃ zs,PrL H ys zs/\zs.map (·.1)=ss/\∀ p∈zs,Fr M p.2.1 p.2.2 (NW M xs p.1)
 |[],[],_,_=>⟨[],.nil,rfl,(λ_ h=>nomatch h)⟩
 |s::ss,y::ys,hl,h=>by
  obtain ⟨zs,z1,z2,z3⟩:=rQ ss ys (by simpa using hl) λi x y hx hy=>h (i+1) x y (by simpa using hx) (by simpa using hy);obtain ⟨p,q,t,b,rfl,hp,hq,fr⟩:=h 0 (.str s) y rfl rfl;refine ⟨(s,t,b)::zs,.cons ⟨p,q,rfl,hp,hq⟩ z1,by rw [An,z2],λr hr=>?_⟩
  rcases AA.mp hr with rfl|hr
  ·exact fr
  ·exact z3 r hr
 |[],_::_,hl,_=>by simp at hl
 |_::_,[],hl,_=>by simp at hl
theorem sM (p:V->Bool)(q:Str->Bool)(e:∀ s,p (.str s)=q s):∀ ss:List Str,(ss.map V.str).filter p=(ss.filter q).map V.str
 |[]=>rfl
 |s::r=>by
  rw [An,Dh,Dh,e,sM p q e r];split<;>rfl
def iR (K:Ab):Sp:=λvs H Q _=>∃ (l:Addr) (us:List V) (xs:List (Str×Int×Int)) (M:Int),vs=[.ref l]/\SqL K H l us/\PrL H us xs/\xs.length<=63/\Over M xs/\0<M/\Bt 3000 M/\Bt 3000 (sumN M xs) /\
 ∀ m zs ys H',Same H H'->H' m=some (.tup zs)->PrL H' zs ys->aIb M xs ys->Q (.ref m) H'
section
variable {P:Av}{w:World}{K:Ab}{mg:Str->Option Value}{base:Heap}
def gE:FnScope ["pairs","sums","ware","part"] ["pairs"] (aG gH):=fnScOk (by decide +kernel)
def nd2:(["ware","sums"]:List Str).Nodup:=by decide +kernel
def tU {f aN:Addr}{fd:Az}(F:Fun K "mixture" "mixture" gH f fd)(T:Txt mg)(mN:mg "NOUGHT" = some (.ref aN))(sN:∀ H:Hp,SqT K H aN [.int 0,.int 1])(cP:Cal P w K mg base CX0 3 "plus" ["one","other"] (spPlus K)):FnOk P w K mg base CX0 4 f fd ["pairs"] (iR K):=by
 refine F.ok gE (λvs H Q E h=>?_) (λcdv A outer s H vs Q E hr h=>?_)
 ·obtain ⟨_,_,_,_,rfl,_⟩:=h
  rfl
 ·obtain ⟨l,us,xs,M,rfl,hl,pr,xl,ov,M0,bM,bS,k⟩:=h
  refine ⟨_,(aD (aL (i:=1) gE.nd rfl (Or.inr rfl) rF)
   (aD (cJ AJ rfl (fN (pv 0)) (fO rfl (bE (aS (i:=2) gE.nd rfl (Or.inl rfl)) (bE (aS (i:=3) gE.nd rfl (Or.inl rfl)) eF)))
    (aE (pJ (kC hr) (pv 1) (pv 2) (aJ cP hr rfl aR (aA (rG (kC hr) (pv 1) (pv 2) (fB (v:=.ref aN) rfl mN rfl) ⟨rfl,rfl,rfl,rfl⟩) (aA (pv 3) aC))) rfl)))
   (aE (aK (aX bH rfl T.tup' cY (aA (eC (N':=["ware","sums"]) (λσ=>[none,some 1].map λt=>t.bind λj=>(σ[j]?).join) rfl rfl (by decide +kernel) (by decide +kernel)
     (iG (sc:=aG gH) rfl (by decide +kernel)) (λ_ _ _=>eA (sc:=aG gH) (N:=["pairs","sums","ware","part"]) [none,some 1] rfl rfl rfl rfl (by decide +kernel))
     (fN (aU (qG rfl) rfl T.sorted' boot_sorted (aA (pv 1) aC))) (λ_ _ _ _ _ _=>aS (i:=0) nd2 rfl (Or.inl rfl))
     (λ_ _ _ _ _ _=>lO (aM (aEs (K:=K) rfl hr.units) (jJ (kC hr) (pv 1) (pv 0) (λ_ _=>rfl)) (fB (v:=.ref aN) rfl mN rfl) (aV _)))
     (λ_ _ _ _ _ _=>aW (aA (pv 0) (aA (jJ (kC hr) (pv 1) (pv 0) (λ_ _=>rfl)) aC)))) aC)))))),?_⟩
  intro d hd;have s1:Same H (upd H d (.dK [])):=Same.upd hd;refine ⟨_,rfl,l,rfl,⟨_,s1.seq hl⟩,?_⟩;refine lT (xs:=us) (λi σ H'=>∃ (kvs:List (Key×V)) (ks:List Str) (v4 v5:Option V),σ=[some (.ref l),some (.ref d),v4,v5]/\Same H H'/\H' d=some (.dK kvs)/\DA H' M (xs.take i) kvs ks/\ks.length<=i)
   ⟨[],[],none,none,rfl,s1,aB,⟨.nil,λy=>by simp,λy hy=>by simp at hy⟩,Aj _⟩ ?_ ?_ ?_
  ·rintro i σ H' _ ⟨_,_,_,_,rfl,sm,_⟩
   exact sm.seq hl
  ·rintro i v σ H2 hv ⟨kvs,ks,v4,v5,rfl,s2,hd2,da,kl⟩
   obtain ⟨x,hx,p,q,rfl,h1,h2⟩:=pr.get hv;have hi:=(Ae.mp hx).1;have xm:=Al hx;obtain ⟨am,dv⟩:=ov x xm;have frx:Fr M x.2.1 x.2.2 (nOf M x):=Fr.of am dv;obtain ⟨g,t,b,eg,hg,fr⟩:∃ (g:Addr) (t b:Int),(valV kvs (AR x.1)).getD (.ref aN)=.ref g/\SqT K H2 g [.int t,.int b]/\Fr M t b (NW M (xs.take i) x.1):=by
    by_cases hy:x.1∈ks
    ·obtain ⟨p,t,b,e1,e2,e3⟩:=da.2.2 _ hy
     exact ⟨p,t,b,by rw [e1];rfl,SqT.of e2,e3⟩
    ·have:valV kvs (AR x.1)=none:=by
      cases e:valV kvs (AR x.1) with
      |none=>rfl
      |some v=>exact absurd ((da.1.get x.1).mp (by rw [e];rfl)) hy
     refine ⟨aN,0,1,by rw [this];rfl,sN _,?_⟩;rw [eN (λz=>hy ((da.2.1 _).mpr z))];exact Fr.zero
   have two:Two K H2 g q t b x.2.1 x.2.2:=by
    have nw:=qJ M0 ov i x.1;have sm:=dE M0 fr;have smx:=dE M0 frx;have nx:nOf M x<=sumN M xs:=by
     have e:=iQ (M:=M) hx;have:=fH M0 (i+1) ov;have:=bW M0 (ov.take i);omega
    exact ⟨hg,s2 _ _ h2,fr.am.t0,fr.am.b1,am,(bS.le fr.am.t0 (by omega)).mono (by decide),(bM.le (by have:=fr.am.b1;omega) sm.2).mono (by decide),(bS.le am.t0 (by omega)).mono (by decide),(bM.le (by have:=am.b1;omega) smx.2).mono (by decide)⟩
   refine ⟨p,_,rfl,SqT.of (s2 _ _ h1),rfl,_,_,rfl,_,_,rfl,rfl,?_⟩;refine ⟨_,rfl,d,rfl,.inl ⟨kvs,.inl hd2⟩,_,rfl,_,DGet.k (k:=AR x.1) hd2,?_⟩;rw [eg];refine ⟨_,rfl,_,q,t,b,x.2.1,x.2.2,rfl,two,λr H3 s3 h3=>?_⟩;obtain ⟨ks',da',kl'⟩:=(da.keep (Same.tk s3)).step hx h3 (fr.plus frx);have hd3:=s3 _ _ hd2;refine ⟨_,rfl,_,rfl,d,_,rfl,DPut.k (k:=AR x.1) hd3 (bU (by rw [da.1.len];omega)),?_⟩;refine ⟨_,ks',_,_,rfl,λb o hb=>?_,aB,da'.keep (Tk.dk hd3),by omega⟩;rw [aI (aZ hb hd)];exact s3 _ _ (s2 _ _ hb)
  ·rintro σ H2 ⟨kvs,ks,v4,v5,rfl,s2,hd2,da,kl⟩
   rw [pr.length,BF] at da;have kl2:ks.length<=63:=by have:=pr.length;omega
   refine ⟨_,rfl,d,kvs,ks,rfl,hd2,da.1.keys,(by rw [da.1.len];omega),λa ss' pm so ha=>?_⟩;have hd3:upd H2 a (.lst (ss'.map V.str)) d=some (.dK kvs):=Same.upd ha _ _ hd2;have da3:=da.keep (Same.tk (Same.upd ha (o:=.lst (ss'.map V.str))));have sl:(ss'.map V.str).length=ss'.length:=Af ..;have pl:=pm.length_eq;refine ⟨a,rfl,⟨_,SqL.of aB⟩,λD hD=>?_⟩;refine jV (Ys.list (SqL.of aB)) (λv=>decide (NW M xs (vTx v)≠0)) (MixP M xs) ?_ hD (by omega) (λi x H' R1 R2 hx sm h1 h2=>?_) (λys H4 sm4 hD4 yl hy=>?_)
   ·rintro x y H5 H6 ⟨p,q,t,b,e,hp,hq,fr⟩ tk
    exact ⟨p,q,t,b,e,tk _ _ hp,tk _ _ hq,fr⟩
   ·rw [Ao] at hx
    obtain ⟨c,hc,rfl⟩:=AO.mp hx;obtain ⟨g,t,b,e1,e2,e3⟩:=da3.2.2 c (pm.mem_iff.mp (Al hc));have hdd:=sm _ _ hd3;have e2':=sm _ _ e2;have nz:=e3.nought M0;have gg:DGet H' d (.str c) (some (.ref g)):=by
     have:=DGet.k (k:=AR c) hdd;rw [e1] at this;exact this
    refine ⟨(Keep.refl _).set rfl,_,rfl,_,rfl,d,_,rfl,gg,g,aN,[t,b],[0,1],rfl,rfl,SqT.of e2',sN _,_,rfl,ite2 (λhf=>?_) (λhf=>?_)⟩
    ·have hn:NW M xs c≠0:=λz=>by
      have t0:=nz.mp z;rw [z,t0] at e3;obtain ⟨_,u2⟩:=Fr.uniq M0 e3 Fr.zero;rw [t0,u2] at hf;exact absurd hf (by decide)
     refine ⟨_,rfl,_,rfl,_,rfl,d,_,rfl,gg,(show 2<=Au by decide +kernel),λl' hl'=>?_⟩;exact h1 (decide_eq_true hn) _ _ (Same.upd hl') ⟨l',g,t,b,rfl,aB,Same.upd hl' _ _ e2',e3⟩
    ·have hn:NW M xs c=0:=nz.mpr (by
      by_cases e:[t,b]=[0,1]
      ·injection e
      ·exact absurd (by rw [decide_eq_false e];rfl) hf)
     exact h2 (decide_eq_false λz=>z hn) _ (Same.refl _)
   ·have ef:=sM (λv=>decide (NW M xs (vTx v)≠0)) (λy=>decide (NW M xs y≠0)) (λ_=>rfl) ss'
    rw [ef] at yl hy;obtain ⟨zs,z1,z2,z3⟩:=rQ _ ys (by rw [yl,Af]) hy;refine ⟨D,ys,rfl,.inl ⟨SqL.of hD4,λm hm=>?_⟩⟩;have s5:Same H4 (upd H4 m (.tup ys)):=Same.upd hm;exact k m ys zs _ (((s2.trans (Same.upd ha)).trans sm4).trans s5) aB (z1.keep (Same.tk s5)) ⟨ss',so,pm.nodup_iff.mpr da.1.nd,λy=>by rw [pm.mem_iff,da.2.1],z2,z3⟩
end
def dOf (x:Str×Int×Int):Dt:=.t [.s x.1,.t [.i x.2.1,.i x.2.2]]
def PrL.append {H:Hp}{vs us:List V}{xs ys:List (Str×Int×Int)}(h:PrL H vs xs)(k:PrL H us ys):PrL H (vs++us) (xs++ys):=by
 induction h with
 |nil=>exact k
 |cons p _ ih=>exact .cons p ih
theorem aHz {M:Int}{x:Str×Int×Int}{N:Int}(h:Fr M x.2.1 x.2.2 N):nOf M x=N:=by
 have e:=h.e;obtain ⟨c,hc⟩:=h.dvd;have b1:=h.am.b1;unfold K52.nOf;rw [hc,Int.mul_ediv_cancel_left _ (by omega)];rw [hc] at e;have e2:x.2.2*(x.2.1*c)=x.2.2*N:=by
  rw [BJ _ N,<- e,<- BM,<- BM,BJ x.2.2]
 exact Int.eq_of_mul_eq_mul_left (by omega) e2
theorem aCe {y:Str}{n:Int}:∀ {ks:List Str},ks.Nodup->y∈ks->(ks.map λk=>if y=k then n else 0).sum=n
 |[],_,h=>by simp at h
 |k::ks,nd,h=>by
  rw [An,AK];have nd':=Bo.mp nd
  by_cases e:y=k
  ·subst e
   rw [if_pos rfl];have:∀ (ks:List Str),y∉ks->(ks.map λk=>if y=k then n else 0).sum=0:=by
    intro ks
    induction ks with
    |nil=>intro _;rfl
    |cons z r ih=>
     intro hz;rw [An,AK,if_neg (λe:y=z=>hz (e▸Ar)),ih (λq=>hz (Ah _ q))];rfl
   rw [this ks nd'.1];omega
  ·rw [if_neg e,aCe nd'.2 ((AA.mp h).resolve_left e)]
   omega
theorem jY {M:Int}{x:Str×Int×Int}{xs:List (Str×Int×Int)}(y:Str):NW M (x::xs) y=(if x.1=y then nOf M x else 0)+NW M xs y:=by
 unfold NW sumN
 by_cases e:x.1=y
 ·rw [Ep (by simpa using e),if_pos e,An,AK]
 ·rw [Er (by simpa using e),if_neg e]
  omega
theorem sum_add {f g:Str->Int}:∀ (ks:List Str),(ks.map λk=>f k+g k).sum=(ks.map f).sum+(ks.map g).sum
 |[]=>rfl
 |k::r=>by
  rw [An,An,An,AK,AK,AK,sum_add r];omega
theorem kY {M:Int}{ks:List Str}(nd:ks.Nodup):∀ {xs:List (Str×Int×Int)},(∀ x∈xs,x.1∈ks)->(ks.map (NW M xs)).sum=sumN M xs
 |[],_=>by
  have:∀ r:List Str,(r.map (NW M [])).sum=0:=by
   intro r
   induction r with
   |nil=>rfl
   |cons k r ih=>rw [An,AK,ih];rfl
  exact this ks
 |x::xs,h=>by
  have e:(ks.map (NW M (x::xs)))=ks.map λk=>(if x.1=k then nOf M x else 0)+NW M xs k:=Eg λk _=>jY k;rw [e,sum_add,aCe nd (h x Ar),kY nd λy hy=>h y (Ah _ hy)];unfold sumN;rw [An,AK]
abbrev leS (a b:Str):Prop:=a.cps.toList<=b.cps.toList
def aEf {a b:List Str}(h:a.Perm b)(ha:a.Pairwise leS)(hb:b.Pairwise leS):a=b:=
 h.eq_of_pairwise (le:=leS) (λx y _ _ h1 h2=>TM.ext (ER h1 h2)) ha hb
structure IsMx (M:Int)(f:Str->Int)(ys:List (Str×Int×Int)):Prop where
 pw:(ys.map (·.1)).Pairwise leS
 nd:(ys.map (·.1)).Nodup
 mem:∀ y,y∈ys.map (·.1)↔f y≠0
 fr:∀ p∈ys,Fr M p.2.1 p.2.2 (f p.1)
def IsMx.of {M:Int}{xs ys:List (Str×Int×Int)}(h:aIb M xs ys):IsMx M (NW M xs) ys:=by
 obtain ⟨ks,so,nd,mm,em,fr⟩:=h;refine ⟨?_,?_,λy=>?_,fr⟩
 ·rw [em]
  exact (iT so).filter _
 ·rw [em]
  exact nd.filter _
 ·rw [em,Eo]
  constructor
  ·exact λz=>of_decide_eq_true z.2
  ·intro z
   refine ⟨(mm y).mpr ?_,decide_eq_true z⟩
   by_cases hy:y∈xs.map (·.1)
   ·exact hy
   ·exact absurd (eN hy) z
def IsMx.congr {M:Int}{f g:Str->Int}{ys:List (Str×Int×Int)}(h:IsMx M f ys)(e:∀ y,f y=g y):IsMx M g ys:=by
 have:f=g:=funext e;exact this▸h
def IsMx.uniq {M:Int}(hM:0<M){f:Str->Int}{ys zs:List (Str×Int×Int)}(h:IsMx M f ys)(k:IsMx M f zs):ys=zs:=by
 have e:ys.map (·.1)=zs.map (·.1):=aEf ((List.perm_ext_iff_of_nodup h.nd k.nd).mpr λy=>by rw [h.mem,k.mem]) h.pw k.pw;exact rJ hM e h.fr k.fr
def IsMx.over {M:Int}{f:Str->Int}{ys:List (Str×Int×Int)}(h:IsMx M f ys):Over M ys:=λx hx=>⟨(h.fr x hx).am,(h.fr x hx).dvd⟩
theorem IsMx.nw {M:Int}{f:Str->Int}{ys:List (Str×Int×Int)}(h:IsMx M f ys)(y:Str):NW M ys y=f y:=by
 have key:∀ (ys:List (Str×Int×Int)),(ys.map (·.1)).Nodup->(∀ p∈ys,Fr M p.2.1 p.2.2 (f p.1))->NW M ys y=if y∈ys.map (·.1) then f y else 0:=by
  intro ys
  induction ys with
  |nil=>intro _ _;rfl
  |cons x r ih=>
   intro nd fr;rw [An] at nd;have nd':=Bo.mp nd;rw [jY,ih nd'.2 λp hp=>fr p (Ah _ hp)]
   by_cases e:x.1=y
   ·subst e
    rw [if_pos rfl,if_neg nd'.1,if_pos (by simp),aHz (fr x Ar)];omega
   ·rw [if_neg e]
    by_cases m:y∈r.map (·.1)
    ·rw [if_pos m,if_pos (by rw [An];exact Ah _ m)]
     omega
    ·rw [if_neg m,if_neg (by
      rw [An,AA]
      rintro (z|z)
      ·exact e z.symm
      ·exact m z)]
     rfl
 rw [key ys h.nd h.fr];split
 ·rfl
 ·rename_i hn
  by_cases z:f y=0
  ·exact z.symm
  ·exact absurd ((h.mem y).mpr z) hn
theorem jZ {M:Int}(xs ys:List (Str×Int×Int))(y:Str):NW M (xs++ys) y=NW M xs y+NW M ys y:=by
 unfold NW sumN;rw [DI,Bp,Fe]
theorem oP {M:Int}(xs ys:List (Str×Int×Int)):sumN M (xs++ys)=sumN M xs+sumN M ys:=by
 unfold sumN;rw [Bp,Fe]
def Brt (M N ta ba:Int):List (Str×Int×Int)->List (Str×Int×Int)->Prop
 |[],[]=>True
 |x::xs,z::zs=>z.1=x.1/\Fr (N*ba) z.2.1 z.2.2 (nOf M x*ta)/\Brt M N ta ba xs zs
 |_,_=>False
structure Tw (K:Ab)(H:Hp)(p q:Addr)(t1 b1 t2 b2:Int):Prop where
 sp:SqT K H p [.int t1,.int b1]
 sq:SqT K H q [.int t2,.int b2]
 a1:Amt t1 b1
 a2:Amt t2 b2
 st1:Bt 4000 t1
 sb1:Bt 4000 b1
 st2:Bt 4000 t2
 sb2:Bt 4000 b2
inductive spTimes (K:Ab)(vs:List V)(H:Hp)(Q:VK)(Ex:XK):Prop
 |mk (p q:Addr) (t1 b1 t2 b2:Int) (e0:vs=[.ref p,.ref q]) (e1:Tw K H p q t1 b1 t2 b2) (e2:RetT H Q [(t1*t2)/G (t1*t2) (b1*b2),(b1*b2)/G (t1*t2) (b1*b2)]):spTimes K vs H Q Ex
def aGf (K:Ab):Sp:=λvs H Q _=>∃ (m1 m2:Addr) (us1 us2:List V) (ys1 ys2:List (Str×Int×Int)) (M:Int),vs=[.ref m1,.ref m2]/\SqT K H m1 us1/\PrL H us1 ys1/\SqT K H m2 us2/\PrL H us2 ys2 /\
 ys1.length+ys2.length<=63/\Over M ys1/\Over M ys2/\0<M/\Bt 3000 M/\Bt 3000 (sumN M (ys1++ys2)) /\
 ∀ m zs ys H',Same H H'->H' m=some (.tup zs)->PrL H' zs ys->IsMx M (λy=>NW M ys1 y+NW M ys2 y) ys->Q (.ref m) H'
def mul1 {a b:Int}(ha:1<=a)(hb:1<=b):1<=a*b:=by
 have:=Int.mul_le_mul ha hb (by decide) (by omega);omega
inductive spLess (K:Ab)(vs:List V)(H:Hp)(Q:VK)(Ex:XK):Prop
 |mk (p q:Addr) (t1 b1 t2 b2:Int) (e0:vs=[.ref p,.ref q]) (e1:Tw K H p q t1 b1 t2 b2) (e2:Q (.bl (decide (t1*b2<t2*b1))) H):spLess K vs H Q Ex
inductive spMinus (K:Ab)(vs:List V)(H:Hp)(Q:VK)(Ex:XK):Prop
 |mk (p q:Addr) (t1 b1 t2 b2:Int) (e0:vs=[.ref p,.ref q]) (e1:Tw K H p q t1 b1 t2 b2) (e2:t2*b1<=t1*b2) (e3:RetT H Q [(t1*b2-t2*b1)/G (t1*b2-t2*b1) (b1*b2),(b1*b2)/G (t1*b2-t2*b1) (b1*b2)]):spMinus K vs H Q Ex
def fV {M1 M2 t1 b1 n1 t2 b2 n2:Int}(h1:0<M1)(h2:0<M2)(f1:Fr M1 t1 b1 n1)(f2:Fr M2 t2 b2 n2)(le:n2*M1<=n1*M2):t2*b1<=t1*b2/\Fr (M1*M2) ((t1*b2-t2*b1)/G (t1*b2-t2*b1) (b1*b2)) ((b1*b2)/G (t1*b2-t2*b1) (b1*b2)) (n1*M2-n2*M1):=by
 have e1:=f1.e;have e2:=f2.e;have a1:=f1.am.b1;have a2:=f2.am.b1;have bb:1<=b1*b2:=mul1 a1 a2;have MM:0<M1*M2:=Cr h1 h2;have key:(t1*b2-t2*b1)*(M1*M2)=(n1*M2-n2*M1)*(b1*b2):=by grind
 have le':0<=t1*b2-t2*b1:=by
  have r:0<=(n1*M2-n2*M1)*(b1*b2):=BB (by omega) (by omega);rw [<- key] at r;exact Int.nonneg_of_mul_nonneg_left r MM
 refine ⟨by omega,jO le' bb,?_⟩;have c:=gO (t1*b2-t2*b1) (b1*b2);generalize (t1*b2-t2*b1)/G (t1*b2-t2*b1) (b1*b2)=x at *
 generalize b1*b2/G (t1*b2-t2*b1) (b1*b2)=y at *
 refine Bm (show b1*b2≠0 by omega) ?_
 grind
section
variable {P:Av}{w:World}{K:Ab}{mg:Str->Option Value}{base:Heap}
def aDx:FnScope ["one","other"] ["one","other"] (aG vN):=fnScOk (by decide +kernel)
def aA8 {f:Addr}{fd:Az}(F:Fun K "times" "times" vN f fd)(cL:Cal P w K mg base CX0 2 "lowest_terms" ["top","bottom"] aAl):FnOk P w K mg base CX0 3 f fd ["one","other"] (spTimes K):=by
 refine F.ok aDx (λvs H Q E h=>?_) (λcdv A outer s H vs Q E hr h=>?_)
 ·obtain ⟨_,_,_,_,_,_,rfl,_⟩:=h
  rfl
 ·obtain ⟨p,q,t1,b1,t2,b2,rfl,T,k⟩:=h
  refine ⟨_,aE (aK (aJ cL hr rfl aR (aA (aP bO (pit 0 0) (pit 1 0)) (aA (aP bO (pit 0 1) (pit 1 1)) aC)))),?_⟩;refine ⟨p,_,_,rfl,T.sp,rfl,q,_,_,rfl,T.sq,rfl,_,_,rfl,rfl,⟨b6 T.st1,b6 T.st2⟩,?_⟩;exact ⟨p,_,_,rfl,T.sp,rfl,q,_,_,rfl,T.sq,rfl,_,_,rfl,rfl,⟨b6 T.sb1,b6 T.sb2⟩,_,_,rfl,BB T.a1.t0 T.a2.t0,mul1 T.a1.b1 T.a2.b1,(T.sb1.mul T.sb2).mono (by decide),k⟩
def tJ:FnScope ["one","other"] ["one","other"] (aG iZ):=fnScOk (by decide +kernel)
def pQ {f:Addr}{fd:Az}(F:Fun K "together" "together" iZ f fd)(T:Txt mg)(cM:Cal P w K mg base CX0 4 "mixture" ["pairs"] (iR K)):FnOk P w K mg base CX0 5 f fd ["one","other"] (aGf K):=by
 refine F.ok tJ (λvs H Q E h=>?_) (λcdv A outer s H vs Q E hr h=>?_)
 ·obtain ⟨_,_,_,_,_,_,_,rfl,_⟩:=h
  rfl
 ·obtain ⟨m1,m2,us1,us2,ys1,ys2,M,rfl,q1,p1,q2,p2,yl,o1,o2,M0,bM,bS,k⟩:=h
  refine ⟨_,(aE (aK (aJ cM hr rfl aR (aA (aP xA (aX bJ rfl T.list' dS (aA (pv 0) aC)) (aX bJ rfl T.list' dS (aA (pv 1) aC))) aC)))),?_⟩;refine ⟨_,rfl,m1,us1,rfl,.inr q1,λc1 hc1=>?_⟩;have s1:Same H (upd H c1 (.lst us1)):=Same.upd hc1;refine ⟨_,rfl,m2,us2,rfl,.inr (s1.tup q2),λc2 hc2=>?_⟩;have s2:Same (upd H c1 (.lst us1)) (upd (upd H c1 (.lst us1)) c2 (.lst us2)):=Same.upd hc2;have l1:=p1.length;have l2:=p2.length;refine ⟨c1,c2,us1,us2,rfl,rfl,s2 _ _ aB,aB,bV (by omega),λc3 hc3=>?_⟩;have s3:Same (upd (upd H c1 (.lst us1)) c2 (.lst us2)) (upd (upd (upd H c1 (.lst us1)) c2 (.lst us2)) c3 (.lst (us1++us2))):=Same.upd hc3;have s13:=(s1.trans s2).trans s3;refine ⟨c3,us1++us2,ys1++ys2,M,rfl,SqL.of aB,(p1.keep (Same.tk s13)).append (p2.keep (Same.tk s13)),by rw [Ay];omega,λx hx=>(Bh.mp hx).elim (o1 x) (o2 x),M0,bM,bS,λm zs ys H' s' hm pm mx=>?_⟩;exact k m zs ys H' (s13.trans s') hm pm ((IsMx.of mx).congr λy=>jZ ys1 ys2 y)
def aE0 {f:Addr}{fd:Az}(F:Fun K "less" "less" aD5 f fd):FnOk P w K mg base CX0 1 f fd ["one","other"] (spLess K):=by
 refine F.ok aGm (λvs H Q E h=>?_) (λcdv A outer s H vs Q E hr h=>?_)
 ·obtain ⟨_,_,_,_,_,_,rfl,_⟩:=h
  rfl
 ·obtain ⟨p,q,t1,b1,t2,b2,rfl,T,k⟩:=h
  refine ⟨_,aE (aK (dB wV (aP bO (pit 0 0) (pit 1 1)) (aP bO (pit 1 0) (pit 0 1)) (aV _))),?_⟩;refine ⟨p,_,_,rfl,T.sp,rfl,q,_,_,rfl,T.sq,rfl,_,_,rfl,rfl,⟨b6 T.st1,b6 T.sb2⟩,q,_,_,rfl,T.sq,rfl,p,_,_,rfl,T.sp,rfl,_,_,rfl,rfl,⟨b6 T.st2,b6 T.sb1⟩,_,_,rfl,rfl,k⟩
def aD0:FnScope ["one","other"] ["one","other"] (aG vS):=fnScOk (by decide +kernel)
def aBf {f:Addr}{fd:Az}(F:Fun K "minus" "minus" vS f fd)(cE:Cal P w K mg base CX0 2 "less" ["one","other"] (spLess K))(cL:Cal P w K mg base CX0 2 "lowest_terms" ["top","bottom"] aAl):FnOk P w K mg base CX0 3 f fd ["one","other"] (spMinus K):=by
 refine F.ok aD0 (λvs H Q E h=>?_) (λcdv A outer s H vs Q E hr h=>?_)
 ·obtain ⟨_,_,_,_,_,_,rfl,_⟩:=h
  rfl
 ·obtain ⟨p,q,t1,b1,t2,b2,rfl,T,le,k⟩:=h
  refine ⟨_,aD (bF (dA (aJ cE hr rfl aR (aA (pv 0) (aA (pv 1) aC)))) (aE aAy) aQ)
   (aE (aK (aJ cL hr rfl aR (aA (aP rL (aP bO (pit 0 0) (pit 1 1)) (aP bO (pit 1 0) (pit 0 1))) (aA (aP bO (pit 0 1) (pit 1 1)) aC))))),?_⟩
  refine ⟨_,rfl,_,rfl,p,q,t1,b1,t2,b2,rfl,T,_,rfl,?_⟩;rw [decide_eq_false (by omega)];refine iteF ⟨p,_,_,rfl,T.sp,rfl,q,_,_,rfl,T.sq,rfl,_,_,rfl,rfl,⟨b6 T.st1,b6 T.sb2⟩,q,_,_,rfl,T.sq,rfl,p,_,_,rfl,T.sp,rfl,_,_,rfl,rfl,⟨b6 T.st2,b6 T.sb1⟩,_,_,rfl,rfl,?_⟩;exact ⟨p,_,_,rfl,T.sp,rfl,q,_,_,rfl,T.sq,rfl,_,_,rfl,rfl,⟨b6 T.sb1,b6 T.sb2⟩,_,_,rfl,by omega,mul1 T.a1.b1 T.a2.b1,(T.sb1.mul T.sb2).mono (by decide),k⟩
end
def Tw.bot {K:Ab}{H:Hp}{p q:Addr}{t1 b1 t2 b2:Int}(T:Tw K H p q t1 b1 t2 b2):1<=b1*b2/\Bt 8000 (b1*b2):=by
 have:=Int.mul_le_mul T.a1.b1 T.a2.b1 (by decide) (by have:=T.a1.b1;omega);exact ⟨by omega,T.sb1.mul T.sb2⟩
def Tw.nn {K:Ab}{H:Hp}{p q:Addr}{t1 b1 t2 b2:Int}(T:Tw K H p q t1 b1 t2 b2):0<=t1*b2/\0<=t2*b1/\0<=t1*t2:=
 ⟨BB T.a1.t0 (by have:=T.a2.b1;omega),BB T.a2.t0 (by have:=T.a1.b1;omega),BB T.a1.t0 T.a2.t0⟩
inductive spAdd (K:Ab)(vs:List V)(H:Hp)(Q:VK)(Ex:XK):Prop
 |mk (p q:Addr) (t1 b1 t2 b2:Int) (e0:vs=[.ref p,.ref q]) (e1:Tw K H p q t1 b1 t2 b2) (e2:RetT H Q [(t1*b2+t2*b1)/G (t1*b2+t2*b1) (b1*b2),(b1*b2)/G (t1*b2+t2*b1) (b1*b2)]):spAdd K vs H Q Ex
inductive spTake (K:Ab)(vs:List V)(H:Hp)(Q:VK)(Ex:XK):Prop
 |mk (p q:Addr) (t1 b1 t2 b2:Int) (e0:vs=[.ref p,.ref q]) (e1:Tw K H p q t1 b1 t2 b2) (e2:t2*b1<=t1*b2) (e3:RetT H Q [(t1*b2-t2*b1)/G (t1*b2-t2*b1) (b1*b2),(b1*b2)/G (t1*b2-t2*b1) (b1*b2)]):spTake K vs H Q Ex
inductive spBy (K:Ab)(vs:List V)(H:Hp)(Q:VK)(Ex:XK):Prop
 |mk (p q:Addr) (t1 b1 t2 b2:Int) (e0:vs=[.ref p,.ref q]) (e1:Tw K H p q t1 b1 t2 b2) (e2:RetT H Q [(t1*t2)/G (t1*t2) (b1*b2),(b1*b2)/G (t1*t2) (b1*b2)]):spBy K vs H Q Ex
def pairOf:List V->List (Str×Str)->List Str->V
 |u::us,p::ps,xs=>if p.1∈xs/\p.2∈xs then u else pairOf us ps xs
 |_,_,_=>.non
theorem jK {us:List V}{ps:List (Str×Str)}{xs:List Str}{i:Nat}{u:V}{p:Str×Str}(hu:us[i]?=some u)(hp:ps[i]?=some p):pairOf (us.drop i) (ps.drop i) xs=if p.1∈xs/\p.2∈xs then u else pairOf (us.drop (i+1)) (ps.drop (i+1)) xs:=by
 obtain ⟨h1,e1⟩:=Ae.mp hu;obtain ⟨h2,e2⟩:=Ae.mp hp;rw [Eb h1,Eb h2,e1,e2];rfl
theorem hW {ps:List (Str×Str)}{xs:List Str}:pairOf [] ps xs=.non:=by
 cases ps<;>rfl
def qX (K:Ab):Sp:=λvs H Q _=>∃ (p r q:Addr) (rs us:List V) (ps:List (Str×Str)) (nm:Addr) (xs:List Str),vs=[.ref p,.ref nm]/\Bn H p r q rs us ps/\SqT K H nm (xs.map V.str)/\Q (pairOf us ps xs) H
def RmL (H:Hp)(rs:List V)(rbs:List (Int×Int)):Prop:=rs.length=rbs.length/\∀ (i:Nat) v rb,rs[i]?=some v->rbs[i]?=some rb->∃ q,v=.ref q/\H q=some (.tup [.int rb.1,.int rb.2])/\Rm rb.1 rb.2
def RmL.keep {H H':Hp}{rs:List V}{rbs:List (Int×Int)}(h:RmL H rs rbs)(k:Tk H H'):RmL H' rs rbs:=⟨h.1,λi v d hv hd=>by
 obtain ⟨q,e,h1,h2⟩:=h.2 i v d hv hd;exact ⟨q,e,k _ _ h1,h2⟩⟩
theorem RmL.get {H:Hp}{vs:List V}{ds:List (Int×Int)}(h:RmL H vs ds){i:Nat}{v:V}(hv:vs[i]?=some v):∃ d,ds[i]?=some d/\∃ q,v=.ref q/\H q=some (.tup [.int d.1,.int d.2])/\Rm d.1 d.2:=by
 obtain ⟨d,hd⟩:∃ d,ds[i]?=some d:=⟨_,Ac (by rw [<- h.1];exact (Ae.mp hv).1)⟩;exact ⟨d,hd,h.2 i v d hv hd⟩
theorem RmsT.list {H:Hp}:∀ {rs:List V},RmsT H rs->∃ rbs,RmL H rs rbs
 |[],_=>⟨[],rfl,λi v rb h=>by simp at h⟩
 |u::r,h=>by
  obtain ⟨q,t,b,rfl,sq,rm⟩:=h u (Ar ..);obtain ⟨rbs,l,k⟩:=RmsT.list (rs:=r) λx hx=>h x (Ah _ hx);refine ⟨(t,b)::rbs,by rw [AZ,AZ,l],λi v rb hv hb=>?_⟩;cases i with
  |zero=>
   cases hv;cases hb;exact ⟨q,rfl,sq,rm⟩
  |succ i=>exact k i v rb (by simpa using hv) (by simpa using hb)
theorem yT {M t b N rt rb:Int}(hM:0<M)(h:Fr M t b N):decide (rt*b<t*rb)=decide (rt*M<N*rb):=by
 have b0:0<b:=by have:=h.am.b1;omega
 refine decide_eq_decide.mpr ?_;have e1:rt*b*M=rt*M*b:=AS ..;have e2:t*rb*M=N*rb*b:=by rw [AS,h.e,AS]
 rw [<- Fc hM,e1,e2,Fc b0]
section
variable {P:Av}{w:World}{K:Ab}{mg:Str->Option Value}{base:Heap}
def aIt:FnScope ["_law_one","_law_other"] ["_law_one","_law_other"] (aG sAdd):=fnScOk (by decide +kernel)
def aHh {f:Addr}{fd:Az}(F:Fun K "_law_add" "_law_add" sAdd f fd)(cL:Cal P w K mg base CX0 1 "_law_lowest" ["_law_top","_law_bottom"] eP):FnOk P w K mg base CX0 2 f fd ["_law_one","_law_other"] (spAdd K):=by
 refine F.ok aIt (λvs H Q E h=>?_) (λcdv A outer s H vs Q E hr h=>?_)
 ·obtain ⟨_,_,_,_,_,_,rfl,_⟩:=h
  rfl
 ·obtain ⟨p,q,t1,b1,t2,b2,rfl,T,k⟩:=h
  refine ⟨_,aE (aK (aJ cL hr rfl aR (aA (aP bP (aP bO (pit 0 0) (pit 1 1)) (aP bO (pit 1 0) (pit 0 1))) (aA (aP bO (pit 0 1) (pit 1 1)) aC)))),?_⟩;have nn:=T.nn;refine ⟨p,_,_,rfl,T.sp,rfl,q,_,_,rfl,T.sq,rfl,_,_,rfl,rfl,⟨b6 T.st1,b6 T.sb2⟩,q,_,_,rfl,T.sq,rfl,p,_,_,rfl,T.sp,rfl,_,_,rfl,rfl,⟨b6 T.st2,b6 T.sb1⟩,_,_,rfl,rfl,?_⟩;exact ⟨p,_,_,rfl,T.sp,rfl,q,_,_,rfl,T.sq,rfl,_,_,rfl,rfl,⟨b6 T.sb1,b6 T.sb2⟩,_,_,rfl,by omega,T.bot.1,T.bot.2.mono (by decide),λz H' s _ e=>k z H' s e⟩
def aGj:FnScope ["_law_one","_law_other"] ["_law_one","_law_other"] (aG aD2):=fnScOk (by decide +kernel)
def aEx {f:Addr}{fd:Az}(F:Fun K "_law_take" "_law_take" aD2 f fd)(cL:Cal P w K mg base CX0 1 "_law_lowest" ["_law_top","_law_bottom"] eP):FnOk P w K mg base CX0 2 f fd ["_law_one","_law_other"] (spTake K):=by
 refine F.ok aGj (λvs H Q E h=>?_) (λcdv A outer s H vs Q E hr h=>?_)
 ·obtain ⟨_,_,_,_,_,_,rfl,_⟩:=h
  rfl
 ·obtain ⟨p,q,t1,b1,t2,b2,rfl,T,le,k⟩:=h
  refine ⟨_,aE (aK (aJ cL hr rfl aR (aA (aP rL (aP bO (pit 0 0) (pit 1 1)) (aP bO (pit 1 0) (pit 0 1))) (aA (aP bO (pit 0 1) (pit 1 1)) aC)))),?_⟩;refine ⟨p,_,_,rfl,T.sp,rfl,q,_,_,rfl,T.sq,rfl,_,_,rfl,rfl,⟨b6 T.st1,b6 T.sb2⟩,q,_,_,rfl,T.sq,rfl,p,_,_,rfl,T.sp,rfl,_,_,rfl,rfl,⟨b6 T.st2,b6 T.sb1⟩,_,_,rfl,rfl,?_⟩;exact ⟨p,_,_,rfl,T.sp,rfl,q,_,_,rfl,T.sq,rfl,_,_,rfl,rfl,⟨b6 T.sb1,b6 T.sb2⟩,_,_,rfl,by omega,T.bot.1,T.bot.2.mono (by decide),λz H' s _ e=>k z H' s e⟩
def scBy:FnScope ["_law_one","_law_other"] ["_law_one","_law_other"] (aG sBy):=fnScOk (by decide +kernel)
def aI8 {f:Addr}{fd:Az}(F:Fun K "_law_by" "_law_by" sBy f fd)(cL:Cal P w K mg base CX0 1 "_law_lowest" ["_law_top","_law_bottom"] eP):FnOk P w K mg base CX0 2 f fd ["_law_one","_law_other"] (spBy K):=by
 refine F.ok scBy (λvs H Q E h=>?_) (λcdv A outer s H vs Q E hr h=>?_)
 ·obtain ⟨_,_,_,_,_,_,rfl,_⟩:=h
  rfl
 ·obtain ⟨p,q,t1,b1,t2,b2,rfl,T,k⟩:=h
  refine ⟨_,aE (aK (aJ cL hr rfl aR (aA (aP bO (pit 0 0) (pit 1 0)) (aA (aP bO (pit 0 1) (pit 1 1)) aC)))),?_⟩;refine ⟨p,_,_,rfl,T.sp,rfl,q,_,_,rfl,T.sq,rfl,_,_,rfl,rfl,⟨b6 T.st1,b6 T.st2⟩,?_⟩;exact ⟨p,_,_,rfl,T.sp,rfl,q,_,_,rfl,T.sq,rfl,_,_,rfl,rfl,⟨b6 T.sb1,b6 T.sb2⟩,_,_,rfl,T.nn.2.2,T.bot.1,T.bot.2.mono (by decide),λz H' s _ e=>k z H' s e⟩
def aDw:FnScope ["_law_one","_law_other"] ["_law_one","_law_other"] (aG vM):=fnScOk (by decide +kernel)
def aA7 {f:Addr}{fd:Az}(F:Fun K "_law_under" "_law_under" vM f fd):FnOk P w K mg base CX0 1 f fd ["_law_one","_law_other"] (spLess K):=by
 refine F.ok aDw (λvs H Q E h=>?_) (λcdv A outer s H vs Q E hr h=>?_)
 ·obtain ⟨_,_,_,_,_,_,rfl,_⟩:=h
  rfl
 ·obtain ⟨p,q,t1,b1,t2,b2,rfl,T,k⟩:=h
  refine ⟨_,aE (aK (dB wV (aP bO (pit 0 0) (pit 1 1)) (aP bO (pit 1 0) (pit 0 1)) (aV _))),?_⟩;refine ⟨p,_,_,rfl,T.sp,rfl,q,_,_,rfl,T.sq,rfl,_,_,rfl,rfl,⟨b6 T.st1,b6 T.sb2⟩,q,_,_,rfl,T.sq,rfl,p,_,_,rfl,T.sp,rfl,_,_,rfl,rfl,⟨b6 T.st2,b6 T.sb1⟩,_,_,rfl,rfl,k⟩
def rB:FnScope ["bench","names","pair"] ["bench","names"] (aG pA):=fnScOk (by decide +kernel)
def xH {f:Addr}{fd:Az}(F:Fun K "pair_in" "pair_in" pA f fd):FnOk P w K mg base CX0 1 f fd ["bench","names"] (qX K):=by
 refine F.ok rB (λvs H Q E h=>?_) (λcdv A outer s H vs Q E hr h=>?_)
 ·obtain ⟨_,_,_,_,_,_,_,_,rfl,_⟩:=h
  rfl
 ·obtain ⟨p,r,q,rs,us,ps,nm,xs,rfl,bn,hn,k⟩:=h
  refine ⟨_,(aD (cJ AJ rfl (fY (pit 0 1)) (aS (i:=2) rB.nd rfl (Or.inl rfl))
    (aE (bF (PW.pt (kJ (aM eT (pit 2 0) (pv 1) rfl) (hV (aM eT (pit 2 1) (pv 1) rfl)))) (aE (aK (pv 2))) aQ)))
   (aE (aK dO))),?_⟩
  have hq:SqT K H q us:=SqT.of bn.hq;refine ⟨p,_,_,rfl,SqT.of bn.hp,rfl,q,rfl,⟨_,hq⟩,?_⟩;refine lS (xs:=us) (λi σ H'=>∃ v2:Option V,σ=[some (.ref p),some (.ref nm),v2]/\pairOf us ps xs=pairOf (us.drop i) (ps.drop i) xs/\H'=H) ⟨none,rfl,rfl,rfl⟩ ?_ ?_ ?_
  ·rintro i σ H' hi ⟨_,rfl,_,rfl⟩
   exact hq
  ·rintro i v σ H2 hv ⟨v2,rfl,e,rfl⟩
   obtain ⟨y,hy⟩:∃ y,ps[i]?=some y:=⟨_,Ac (by rw [<- bn.pt.1];exact (Ae.mp hv).1)⟩;obtain ⟨z,rfl,hz⟩:=bn.pt.2 i v y hv hy;have hz':SqT K H2 z [.str y.1,.str y.2]:=SqT.of hz;rw [jK hv hy] at e;refine ⟨z,_,_,rfl,hz',rfl,_,rfl,nm,_,rfl,.inr hn,rfl,eK xs,_,rfl,ite2 (λh1=>?_) (λh1=>?_)⟩
   ·have m1:=dY.mp h1
    refine ⟨z,_,_,rfl,hz',rfl,_,rfl,nm,_,rfl,.inr hn,rfl,eK xs,_,rfl,ite2 (λh2=>?_) (λh2=>?_)⟩
    ·rw [if_pos ⟨m1,dY.mp h2⟩] at e
     rw [e] at k;exact ⟨_,rfl,k⟩
    ·rw [if_neg λz=>h2 (dY.mpr z.2)] at e
     exact ⟨_,rfl,e,rfl⟩
   ·rw [if_neg λz=>h1 (dY.mpr z.1)] at e
    exact ⟨_,rfl,e,rfl⟩
  ·rintro σ H2 ⟨v2,rfl,e,rfl⟩
   rw [List.drop_length,hW] at e;rw [e] at k;exact k
end
end K52
namespace L2
open PySem PySem.Spec PyProof.Rows PySem.W
def aIh (K:Frag)(Dc:Addr)(tb:St->XK->TS)(th:TS):TS:=λD σ H=>tb σ (λcls _ H'=>∃ C,cls=.ref C/\ExK K C/\subIn K (.ref C) (.ref Dc)=some true/\th D σ H') D σ H
section
variable {X:Cx}
def aEg (O:OwnF X)(hg:Gl X d)(hm:X.mg d=some (.ref Dc))(F:CtK X.K Dc)(hb':∀ (pins:List (Addr×Obj)) (E':Value->Shared->Prop) (σ:St) (Ec:XK),mB (CXg X.prog X.w) (X.trying pins E') σ Ec->PSs (X.trying pins E') body (tb σ Ec))(hh:∀ ea:Addr,PSs (X.within (.ref ea)) (b0::hb) th)(hdb:(d==("__debug__":Str))=false:=by decide) :
  PS X (.Try body [.ExceptHandler (some (.Name d dp)) none (b0::hb) hpos] [] [] pos) (aIh X.K Dc tb th):=by
 intro pins s σ H D I h;refine wpAny_Try_except (BX (hb' pins _ σ _ ?hp [] s σ H D (I.trying _) h) (λf s1 z=>?_) λ_ _ z=>z)
 case hp=>
  intro pl Hc sc e s' I0 hx;have I1:Inv X pins σ Hc sc:=I0.tried;obtain ⟨ea,C,dd,H',rfl,Fl,C',e1,FK,hsub,hk⟩:=hx;cases e1;obtain ⟨B,hok,fl,bk,th⟩:=Fl.fl;have hfr:X.A.frames=some (X.env::X.outer):=by rw [<- O.stk];exact I1.ok.frames
  have fl':FlyD B (X.env::X.outer) ea (.ref C) dd .none s'.heap:=by rw [<- O.stk];exact fl
  refine aHi hfr O.fr fl' λh4 held4 up4=>?_;refine lU held4 λh5 fl5 up5=>?_;have mk:∀ h6:Heap,B.StaysIn h6->s'.heap.UpToSlots h6->Inv X pins σ H' { s' with heap:=h6 }:=λh6 st up=>
   I1.call' (s':={ s' with heap:=h6 }) (ch:=[]) Fl.os (aDh I1 Fl.un bk th st up) (hok.kept st) Fl.bare (by simp)
  have I5:=mk h5 fl5.st (up4.trans up5);obtain ⟨ob,_,hob,hobc,_,_⟩:=fl5.at;refine wpAny_handleBy_cons (codeAny_handlers_test (fR (I5.within (.ref ea)) hg hm ?_ hdb)) (by intro q;cases q);refine qC I5.kIn ⟨hob,hobc⟩ F hsub ?_;refine codeAny_handlers_suite ?_;refine lU fl5 λh6 fl6 up6=>?_;have I6:=mk h6 fl6.st ((up4.trans up5).trans up6);refine BX (hh ea pins _ σ H' D (I6.within (.ref ea)) hk) (λf s9 hf=>?_) (λ_ _ q=>q.elim);cases f with
  |next=>
   obtain ⟨σ9,H9,I9,q⟩:=hf;exact ⟨σ9,H9,I9.without I1.ok,q⟩
  |brk=>
   obtain ⟨σ9,H9,I9,q⟩:=hf;exact ⟨σ9,H9,I9.without I1.ok,q⟩
  |cont=>
   obtain ⟨σ9,H9,I9,q⟩:=hf;exact ⟨σ9,H9,I9.without I1.ok,q⟩
  |ret u=>
   obtain ⟨v,σ9,H9,I9,r,q⟩:=hf;exact ⟨v,σ9,H9,I9.without I1.ok,r,q⟩
 ·have z':=SP.tried z
  cases f with
  |next=>exact Fq z'
  |brk=>exact z'
  |cont=>exact z'
  |ret u=>exact z'
end
section
variable {X:Cx}
def wR (hu:X.A.units+64<cLine):OpR X (Bl .NotEq) (λx y H Q=>∃ a b xs,x=.ref a/\y=.ref b/\SqT X.K H a xs/\SqT X.K H b []/\Q (.bl (!xs.isEmpty)) H):=by
 intro pins s σ H x y v u Q I rx ry h;obtain ⟨a,b,xs,rfl,rfl,ha,hb,q⟩:=h;cases rx;cases ry;obtain ⟨its,r,p,_⟩:=I.tuple ha;obtain ⟨its',r',p',_⟩:=I.tuple hb;cases r';obtain ⟨o,o1,o2,n,o3⟩:=p;obtain ⟨o',o1',o2',n',o3'⟩:=p';have key:=SeqAt.RcNeAt.tuples (A:=X.A) (s:=s) (l:=a) (b:=b) (items:=its.toArray) (items2:=#[]) (e:=λ_=>true) ⟨o,o1,o2,n,o3⟩ ⟨o',o1',o2',n',o3'⟩ (by omega) (λj h1 h2=>absurd h2 (by simp));cases r with
 |nil=>exact key X.prog X.w X.xe _ ⟨.bl _,H,I,rfl,q⟩
 |cons r t=>exact key X.prog X.w X.xe _ ⟨.bl _,H,I,rfl,q⟩
end
end L2
namespace L2
open PySem PySem.Spec PyProof.Rows PySem.W PySem.Builtin PySem.Builtin.ObjectAttr
section
variable {X:Cx}{o value:Expr}{x:Str}{pos pos':Pos}{ta tv:TE}{C P f:Addr}
def sExM (K:Frag)(C P f:Addr)(ta tv:TE)(x:Str):TS:=λD σ H=>tv σ H λy H1=>ta σ H1 λz H2=>∃ a dx fs,z=.ref a/\H2 a=some (exN a C (some dx))/\H2 dx=some (xdE dx fs)/\fs.length<=90/\ExF K C P f x /\
 D.nx σ (upd H2 dx (xdE dx ((x,y)::fs)))
def jD (ha:PE X o ta)(hv:PE X value tv)(hs:swapsWith value (some (.Attribute o x pos')) pos.line X.env=pure false):PS X (.Assign [.Attribute o x pos'] value pos) (sExM X.K C P f ta tv x):=by
 intro pins s σ H D I h;refine EU (thn (hv pins s σ H _ I h) λu s1 ⟨y,H1,I1,ry,q⟩=>thn (ha pins s1 σ H1 _ I1 q) λov s2 ⟨z,H2,I2,rx,a,dx,fs,ez,ea,ed,hl,F,q2⟩=>?_) hs;subst ez;obtain rfl:ov=AC a:=rx;obtain ⟨⟨ob,t',⟨o1,o2,o3⟩,o4⟩,_⟩:=I2.hok _ _ ea;obtain ⟨⟨mA,n1,r1,w1⟩,_⟩:=I2.hok _ _ ed;obtain ⟨hh,g,d,tk,os⟩:=s2;refine nO I2.kIn (lY I2.kIn F.i.xi) F.i.k F.sa F.nn ⟨o1,o2⟩ o3 n1 w1 (by rw [Af];omega) λh' tk' hn' ks=>?_;have hx:∃ u,h'.get? dx=some u:=by
  obtain ⟨o,es,ep,e,q⟩:=id hn';exact ⟨o,e⟩
 refine ⟨σ,_,I2.write (x:=dx) (e:=dx) (t':=tk') (by rw [ed];exact Ds) (.inl rfl) ks hx ?_,q2⟩;refine aB7 hn' (λg=>?_) (λg hg=>?_)
 ·by_cases z:g=x
  ·subst z
   simp only [Dx,beq_self_eq_true,if_true];exact ry
  ·have:((x,y)::fs:List (Str×V)).lookup g=fs.lookup g:=by
    simp only [Dx];rw [beq_eq_false_iff_ne.mpr z]
   rw [this,if_neg z];exact r1 g
 ·by_cases z:g=x
  ·rw [z];simp
  ·rw [if_neg z] at hg
   exact Ah _ (w1 g hg)
end
end L2
namespace SX
open PySem PySem.Spec PyProof.Rows
def byT (w:World):Bool:=w.params.followText "set-order"
def kv:Value->Str
 |.str x _=>x
 |_=>⟨#[]⟩
def uA (t:BY)(es:Array (Int×Value))(c:Int)(x:Value):(layNew t es c x).2.1.led=t.led:=by
 unfold layNew;split
 ·unfold BY.orStandIn
  simp only;split<;>rfl
 ·rfl
def aBq {m f v:Nat}{l p:Bool}{r:BY×Array Nat}(h:BY.laid m f v l p hs=some r):r.1.led=l/\r.1.plain=p:=by
 unfold BY.laid at h;cases e:BY.layClean m hs with
 |none=>rw [e] at h;cases h
 |some o=>
  rw [e] at h;cases h;exact ⟨rfl,rfl⟩
def vZ (t:BY)(es:Array (Int×Value))(n:Nat)(hp:t.plain=false):(relayAll t es n).2.1.led=t.led/\(relayAll t es n).2.1.plain=false:=by
 unfold relayAll;split
 ·next t' o e=>
  have q:=aBq (show BY.laid _ _ _ t.led t.plain _=some _ from e);simp only;split
  ·exact ⟨q.1,q.2.trans hp⟩
  ·exact ⟨rfl,rfl⟩
 ·exact ⟨rfl,rfl⟩
def setO (es:Array (Int×Value))(ep:Nat)(t:BY):Obj:={ cls:=.type "set",dict:=none,data:=.set es ep t,slots:=#[] }
structure SetS (P:Av)(w:World)(h:Heap)(a:Addr)(ks:List Str):Prop where
 ex:∃ es ep t,h.get? a=some (setO es ep t)/\ElemsOf (strKind P w) es.toList/\t.fits es.size=true/\t.led=(!byT w)/\(t.plain=false\/es.size=0)/\(es.toList.map λe=>kv e.2).Perm ks
 nd:ks.Nodup
 lt:ks.length<EH
def dd (ks:List Str)(x:Str):List Str:=if x∈ks then ks else ks++[x]
def ddl (ss:List Str):List Str:=ss.foldl dd []
theorem aH5 :y∈dd ks x↔y∈ks\/y=x:=by
 unfold dd;split
 ·next h=>exact ⟨.inl,λz=>z.elim id λe=>e▸h⟩
 ·simp
def sR (h:ks.Nodup):(dd ks x).Nodup:=by
 unfold dd;split
 ·exact h
 ·next n=>
  rw [List.nodup_append];refine ⟨h,by simp,λa ha b hb=>?_⟩;rw [AE.mp hb];exact λe=>n (e▸ha)
def aC8 :(dd ks x).length<=ks.length+1:=by
 unfold dd;split
 ·omega
 ·simp
theorem aB0 (ss:List Str)(x:Str):ddl (ss++[x])=dd (ddl ss) x:=by unfold ddl;rw [List.foldl_append];rfl
theorem lW:∀ (ss acc:List Str),acc.Nodup->(ss.foldl dd acc).Nodup/\(∀ y,y∈ss.foldl dd acc↔y∈acc\/y∈ss)/\(ss.foldl dd acc).length<=acc.length+ss.length
 |[],acc,h=>⟨h,λy=>by simp,by simp⟩
 |x::r,acc,h=>by
  obtain ⟨a,b,c⟩:=lW r (dd acc x) (sR h);refine ⟨a,λy=>?_,?_⟩
  ·rw [Fg,b,aH5,AA]
   exact or_assoc
  ·rw [Fg,AZ]
   have:=aC8 (ks:=acc) (x:=x);omega
def ddl_nodup (ss:List Str):(ddl ss).Nodup:=(lW ss [] Ea).1
theorem ddl_mem :y∈ddl ss↔y∈ss:=((lW ss [] Ea).2.1 y).trans (by simp)
def ddl_len (ss:List Str):(ddl ss).length<=ss.length:=by
 have h:=(lW ss [] Ea).2.2;rw [List.length_nil,Nat.zero_add] at h;exact h
def aC5 {w:World}(el:ElemsOf (strKind P w) es)(h:e∈es):∃ t,e.2=.str (kv e.2) t:=by
 obtain ⟨⟨k,hk,_⟩,_⟩:=el e h;obtain ⟨t,ht⟩:=Du (x:=k) (v:=e.2) hk;exact ⟨t,by rw [ht];rfl⟩
def aH2 {w:World}(el:ElemsOf (strKind P w) es)(pm:(es.map λe=>kv e.2).Perm ks)(x:Str):x∈ks↔∃ e∈es,(strKind P w).is x e.2=true:=by
 rw [<- pm.mem_iff,AH];constructor
 ·rintro ⟨e,he,rfl⟩
  obtain ⟨t,ht⟩:=aC5 el he;exact ⟨e,he,by rw [ht];exact strKind_is P w _ t⟩
 ·rintro ⟨e,he,h⟩
  obtain ⟨t,ht⟩:=Du (x:=x) (v:=e.2) h;exact ⟨e,he,by rw [ht];rfl⟩
section
variable {P:Av}{w:World}{A:Around}{E:Value->Shared->Prop}{s:Shared}
theorem SetS.stored {h:Heap}{a:Addr}{es es':Array (Int×Value)}{ep:Nat}{t t':BY}{ks:List Str}(ho:h.get? a=some (setO es ep t))(el:ElemsOf (strKind P w) es'.toList)(hf:t'.fits es'.size=true)(hl:t'.led=(!byT w))(hp:t'.plain=false)
  (pm:(es'.toList.map λe=>kv e.2).Perm ks) (nd:ks.Nodup) (lt:ks.length<EH):(h.update a (Obj.putSet es' t')).get? a=some (setO es' (ep+1) t')/\SetS P w (h.update a (Obj.putSet es' t')) a ks:=by
 have hg:(h.update a (Obj.putSet es' t')).get? a=some (setO es' (ep+1) t'):=by
  have:=BR (Obj.putSet es' t') ho (by rw [putSet_of es' t' rfl];rfl);rw [putSet_of es' t' rfl] at this;exact this
 exact ⟨hg,⟨_,_,_,hg,el,hf,hl,.inl hp,pm⟩,nd,lt⟩
def qT {g:Bool->Sem Unit}(hg:∀ (b:Bool) (s1:Shared) (Q':Unit->Shared->Prop),Q' () s1->wpAny (model P w) A (g b) Q' E s1){a:Addr}{es es1:Array (Int×Value)}{ep:Nat}{t t2:BY}{ks:List Str}{wd:Bool}{R:Option Bool->Shared->Prop}
  (ho:s.heap.get? a=some (setO es ep t)) (el:ElemsOf (strKind P w) es1.toList) (hf:t2.fits es1.size=true) (hl:t2.led=(!byT w)) (hp:t2.plain=false) (pm:(es1.toList.map λe=>kv e.2).Perm ks) (nd:ks.Nodup) (lt:ks.length<EH)
  (h:∀ h',Cj a s.heap h'->SetS P w h' a ks->R (some true) { s with heap:=h' }) :
  wpAny (model P w) A (do
    storeSet a es1 t2
    if (!wd&&t2.tooFull)=true then do
      g (relayAll t2 es1 (DR es1.size)).2.2;storeSet a (relayAll t2 es1 (DR es1.size)).1 (relayAll t2 es1 (DR es1.size)).2.1;pure (some true)
     else pure (some true)) R E s:=by
 have sz:es1.size=ks.length:=by rw [<- Bv,<- Af (f:=λe=>kv e.2),pm.length_eq]
 refine Aa (wpAny_storeSet_of ho rfl ?_ (EW (by omega)));obtain ⟨o1,S1⟩:=SetS.stored (P:=P) (w:=w) ho el hf hl hp pm nd lt;have b1:=EE s.heap a (Obj.putSet es1 t2);split
 ·have p2:=relayAll_perm t2 es1 (DR es1.size)
  have f2:=relayAll_fits t2 es1 (DR es1.size);have l2:=vZ t2 es1 (DR es1.size) hp;generalize relayAll t2 es1 (DR es1.size)=r at p2 f2 l2 ⊢;obtain ⟨es2,t3,gv⟩:=r;dsimp only at p2 f2 l2 ⊢;have pm2:=(p2.map λe=>kv e.2).trans pm;have sz2:es2.size=ks.length:=by rw [<- Bv,<- Af (f:=λe=>kv e.2),pm2.length_eq]
  refine Aa (hg _ _ _ ?_);refine Aa (wpAny_storeSet_of o1 rfl ?_ (EW (by omega)));obtain ⟨_,S2⟩:=SetS.stored (P:=P) (w:=w) o1 (el.perm p2) f2 (l2.1.trans hl) l2.2 pm2 nd lt;exact Ag (h _ (b1.trans (EE _ a _)) S2)
 ·exact Ag (h _ b1 S1)
def add_str {tk:Tok}(S:SetS P w s.heap a ks)(hr:ks.length+1<EH)(h:∀ b h',Cj a s.heap h'->SetS P w h' a (dd ks x)->Q b { s with heap:=h' }) :
  wpAny (model P w) A (setAddHashed a (.str x tk) ((strKind P w).hash x)) Q E s:=by
 have S0:=S;obtain ⟨⟨es,ep,t,ho,el,hf,hl,hp,pm⟩,nd,lt⟩:=S;have sz:es.size=ks.length:=by rw [<- Bv,<- Af (f:=λe=>kv e.2),pm.length_eq]
 have key:=strKind_is P w x tk;have hsc:(Value.str x tk).scannable=true:=rfl;unfold setAddHashed setAddHashedIn;refine Bz (Aa (Ee ho rfl hf ?_));dsimp only;rw [byScan_of (knd:=strKind P w) hsc (by omega) el];simp only [↓reduceIte];unfold setAddByScan;refine Aa (Aa (Dz (Aa (wpAny_setScan_of key ho rfl hf el ?_))));have mem:=aH2 el pm x;cases q:List.findIdx? (λe=>(strKind P w).is x e.2) es.toList with
 |some j=>
  dsimp only;obtain ⟨hj,hpj,_⟩:=List.findIdx?_eq_some_iff_getElem.mp q;have hin:x∈ks:=mem.mpr ⟨es.toList[j],Dg hj,hpj⟩;refine Ag (Ag ?_);have e:dd ks x=ks:=by unfold dd;rw [if_pos hin]
  exact h false s.heap (Cj.refl a s.heap) (by rw [e];exact S0)
 |none=>
  dsimp only;have hin:x∉ks:=λz=>by
   obtain ⟨e,he,hpe⟩:=mem.mp z;have:=List.findIdx?_eq_none_iff.mp q e he;rw [hpe] at this;cases this
  have e:dd ks x=ks++[x]:=by unfold dd;rw [if_neg hin]
  have hgw:∀ (b:Bool) {s1:Shared} {Q':Unit->Shared->Prop},Q' () s1->wpAny (model P w) A (match b with|true=>rule "set.scan.the-table-gave-way" | false=>pure ()) Q' E s1:=λb s1 Q' z=>by
   cases b
   ·exact Ag z
   ·exact Dz z
  have lp:=layNew_perm t es ((strKind P w).hash x) (.str x tk);have lf:=layNew_fits t es ((strKind P w).hash x) (.str x tk);have ll:=uA t es ((strKind P w).hash x) (.str x tk);generalize layNew t es ((strKind P w).hash x) (.str x tk)=r at lp lf ll ⊢;obtain ⟨es1,t1,wd,gv⟩:=r;dsimp only at lp lf ll ⊢;rw [Array.toList_push] at lp;have el1:ElemsOf (strKind P w) es1.toList:=(el.push key hsc).perm lp;have pm1:(es1.toList.map λe=>kv e.2).Perm (dd ks x):=by
   rw [e];refine (lp.map _).trans ?_;rw [Bp];exact pm.append_right _
  have nd1:=sR (x:=x) nd;have lt1:(dd ks x).length<EH:=by have:=aC8 (ks:=ks) (x:=x);omega
  refine Aa (hgw _ ?_);split
  ·refine Aa ?_
   rw [hashByValue_scannable 8 hsc];refine Ag ?_;refine qT (ks:=dd ks x) ?_ ho el1 (BY.fits_plain_off lf) (ll.trans hl) rfl pm1 nd1 lt1 ?_
   ·intro b s1 Q' z
    cases b
    ·exact Ag z
    ·exact Dz z
   ·intro h' sb S'
    exact Ag (h _ h' sb S')
  ·next np=>
   refine Aa (Ag ?_);simp only [↓reduceIte];refine qT (ks:=dd ks x) ?_ ho el1 lf (ll.trans hl) (by simpa using np) pm1 nd1 lt1 ?_
   ·intro b s1 Q' z
    cases b
    ·exact Ag z
    ·exact Dz z
   ·intro h' sb S'
    exact Ag (h _ h' sb S')
end
theorem SetS.at {w:World}(S:SetS P w h a ks)(k:∀ o,h.get? a=some o->h'.get? a=some o):SetS P w h' a ks:=by
 obtain ⟨⟨es,ep,t,ho,r⟩,nd,lt⟩:=S;exact ⟨⟨es,ep,t,k _ ho,r⟩,nd,lt⟩
theorem oQ:∀ {vs:List Value} {ss:List Str},EK vs ss->∀ (i:Nat) (v:Value),vs[i]?=some v->∃ x t,ss[i]?=some x/\v=.str x t
 |_,_,.nil,i,v,h=>by simp at h
 |_,_,.cons y t hr,0,v,h=>by simp at h;exact ⟨y,t,rfl,h.symm⟩
 |_,_,.cons y t hr,i+1,v,h=>by
  obtain ⟨x,u,h1,h2⟩:=oQ hr i v (by simpa using h);exact ⟨x,u,by simpa using h1,h2⟩
section
variable {P:Av}{w:World}{A:Around}{R:Result->Shared->Prop}{I:Addr}{fp wr:List Addr}{G:Array GenState->Array GenState->Prop}{n:Nat}{Pr:Nat->Value->Prop}{St:Nat->Shared->Prop}
def qQ (W:WalksS P w A.in1 I fp wr G n Pr St)(a:Addr)(haf:a∉fp)(ss:List Str)(hl:ss.length=n)(hval:∀ i v,Pr i v->∃ x t,ss[i]?=some x/\v=.str x t)(hb:n+1<EH) :
  ∀ (k i:Nat) (s:Shared),n-i=k->i<=n->St i s->SetS P w s.heap a (ddl (ss.take i))->(∀ s',Moved (a::wr) G s s'->SetS P w s'.heap a (ddl ss)->R (.ok (.ret .none)) s') ->
   Ew (model P w) A (.builtin "set.update.loop" ⟨[.ref a,.ref I],[]⟩) R s:=by
 have haw:a∉wr:=λh=>haf (W.sub _ h);have sub:∀ b∈wr,b∈a::wr:=λb hb=>Ah _ hb;intro k
 induction k with
 |zero=>
  intro i s hk hi st S q;obtain rfl:i=n:=by omega
  refine CK F.entry_set_update_loop ?_;rw [CJ Fx _];show wpAny _ A.in1 (pyNext (.ref I) >>= _) _ _ s;refine Aa (W.done s _ _ st λs' hm=>?_);show wpAny _ A.in1 (ret BV) _ _ s';refine Ag (q s' (hm.mono sub) ?_);rw [EB (by omega)] at S;exact S.at λo e=>hm.heap a o haw e
 |succ k ih=>
  intro i s hk hi st S q;have lt:i<n:=by omega
  refine CK F.entry_set_update_loop ?_;rw [CJ Fx _];show wpAny _ A.in1 (pyNext (.ref I) >>= _) _ _ s;refine Aa (W.item i s _ _ lt st λv s' hP st' hm=>?_);obtain ⟨x,t,hx,rfl⟩:=hval i v hP;have S':SetS P w s'.heap a (ddl (ss.take i)):=S.at λo e=>hm.heap a o haw e;show wpAny _ A.in1 (holding [Value.str x t] (setAdd a (.str x t)) >>= _) _ _ s';refine Aa (Bz ?_);unfold setAdd;refine Bz ?_;refine Aa ((strKind P w).pyHash (k:=x) (strKind_is _ _ _ _) ?_);have room:(ddl (ss.take i)).length+1<EH:=by
   have h1:=ddl_len (ss.take i);rw [DD] at h1;omega
  refine add_str (s:={ s' with toks:=s'.toks+1 }) S' room λb h' sb S2=>?_;have S3:SetS P w h' a (ddl (ss.take (i+1))):=by
   have e:ss.take (i+1)=ss.take i++[x]:=by rw [List.take_succ,hx];rfl
   rw [e,aB0];exact S2
  refine Ag ⟨EI Fx _,ih (i+1) _ (by omega) lt (W.frame _ s' _ _ st' (Dq _) λb hb o e=>?_) S3 λs2 m2 z2=>?_⟩
  ·rw [sb.2 b (λh:b=a=>haf (by rw [<- h];exact hb))];exact e
  ·refine q s2 (Moved.trans W.gtrans ((hm.mono sub).then_heap (Dq _) λb o hb e=>?_) m2) z2
   rw [sb.2 b (λh:b=a=>hb (by rw [h];exact Ar))];exact e
end
section
variable {P:Av}{w:World}{A:Around}{E:Value->Shared->Prop}{s:Shared}
abbrev eU (w:World):Obj:=setO #[] 0 (.fresh 0 0 (!byT w))
def xX (v:Value)(h:Q1 (.ref s.heap.objs.size) { s with heap:=s.heap.push (eU w) }) :
  Ew (model P w) A (.call (.builtin "set.__new__") ⟨[.type "set",v],[]⟩) (wants Q1 E) s:=by
 refine Ft ?_;show wpAny _ A.in1 (do checkBuiltinCall "set.__new__" ⟨[.type "set",v],[]⟩;again (.builtin "set.__new__" ⟨[.type "set",v],[]⟩)) _ _ s;refine Aa (Eu (F.newCall_set_1 v) (Ag ⟨EI F.plain_set_new _,CK F.entry_set_new ?_⟩));rw [CJ F.plain_set_new _];unfold AI.«set.__new__» AI.Frozenset.newClass;have sub:=sub_set_self;obtain ⟨hp,g,d,tk,os⟩:=s;dsimp only
 wp_walk
 refine El (Ag ?_);dsimp only;simp only [newObj];refine Aa (wpAny_alloc (Ag ?_));exact Ag h
def rM (h:Heap):SetS P w (h.push (eU w)) h.objs.size []:=
 ⟨⟨#[],0,_,Ai _ rfl,λe he=>by simp at he,rfl,rfl,.inr rfl,.refl _⟩,Ea,by decide⟩
def call_set_strs {l:Addr}(hh:A.handled=none)(hl:s.heap.IsList l its)(hi:EK its.toList ss)(hb:its.size+1<EH)(h:∀ (h':Heap) (tk:Nat),SetS P w h' s.heap.objs.size (ddl ss)->(∀ b o,s.heap.get? b=some o->h'.get? b=some o)->Q (.ref s.heap.objs.size) { s with heap:=h',toks:=tk }) :
  wpAny (model P w) A (call (.type "set") [.ref l]) Q E s:=by
 obtain ⟨c,tl,hmro⟩:=Cd.mro;have hmade:=Cd.made;have hsub:=Cd.sub;refine Ez (Ft ?_);show wpAny _ _ (callAny (.type "set") _) _ _ _;refine Ag ⟨Es _ (by decide +kernel),CK F.entry_type_call ?_⟩;rw [Around.under_plain (weight_type_call_type "set" [.ref l] []) rfl];have h1:=Cd.notType;have h2:=Cd.canCreate;have hct:=F.typeCall_set_1 (.ref l)
 repeat (any_goals (first|assumption|wp_step))
 refine Cn (xX (.ref l) (E:=E) (Q1:=λobj s1=>obj=.ref s.heap.objs.size/\s1={ s with heap:=s.heap.push (eU w) }) ⟨rfl,rfl⟩) λr s1 hr=>?_;cases r with
 |error e=>exact hr
 |ok fl=>
  cases fl with
  |ret obj=>
   obtain ⟨rfl,rfl⟩:=hr;have hS:(s.heap.push (eU w)).get? s.heap.objs.size=some (eU w):=Ai _ rfl;have hT:Shared.TypeIs { s with heap:=s.heap.push (eU w) } (.ref s.heap.objs.size) "set":=⟨_,hS,rfl⟩;have hli:=Cd.init.lookup;have hbi:=Cd.init.bind (.ref s.heap.objs.size)
   repeat (any_goals (first|assumption|wp_step))
   refine Cn (Eh (R:=wants (λr s2=>r=.none/\∃ h' tk,s2={ s with heap:=h',toks:=tk }/\SetS P w h' s.heap.objs.size (ddl ss)/\(∀ b o,s.heap.get? b=some o->h'.get? b=some o)) E) Cd.init.plain F.entry_set_init (check_set_init_1 hT ?_)) λr2 s2 hr2=>?_
   ·obtain ⟨ol,hol,hcl,nl,hdl⟩:=hl
    obtain ⟨ocls,odict,odata,oslots⟩:=ol;simp only at hcl hdl;subst hcl;subst hdl;have hol':(s.heap.push (eU w)).get? l=some { cls:=.type "list",dict:=odict,data:=.seq its nl,slots:=oslots }:=Ad _ hol;have hsls:=F.sub_list_set;have hslf:=F.sub_list_frozenset;have hne:(Dd "list" == Dd "dict")=false:=by decide
    have hl1:(s.heap.push (eU w)).IsList l its:=⟨_,hol',rfl,nl,rfl⟩;unfold AI.«set.__init__» noKeywords AI.Frozenset.updateFrom;generalize hPI:pyIter=PI
    wp_walk
    subst hPI;refine wpAny_pyIter_list hl1 ?_;refine Aa (wpAny_runValue ?_);have hlS:l<s.heap.objs.size:=Aq hol;have hh3:A.in1.in1.in1.handled=none:=by simp [hh]
    have hz:(s.heap.push (eU w)).objs.size=s.heap.objs.size+1:=BL ..;have hneI:l≠(s.heap.push (eU w)).objs.size:=by
     rw [hz];exact As (Ck hlS)
    have haf:s.heap.objs.size∉[(s.heap.push (eU w)).objs.size,l]:=by
     simp only [AA,Ef,or_false,not_or];rw [hz];exact ⟨As (Cg _),Dw hlS⟩
    have hlen:ss.length=its.size:=by rw [<- Bv];exact (EK.length hi).symm
    refine qQ ((Walks.list hh3 _ l hneI its).toS) s.heap.objs.size haf ss hlen (λi v hv=>oQ hi i v (by rw [AW];exact hv)) hb (its.size-0) 0 _ (by omega) (Bi _) ⟨⟨_,Ai _ rfl,rfl,rfl⟩,(hl1.push _)⟩ ((rM s.heap).at λo e=>Ad _ e) λs' hm S'=>?_;obtain ⟨h',g',d',tk',os'⟩:=s';have eg:g'=s.gens:=hm.gens;have ed:d'=s.drawn:=hm.drawn;have eo:os'=s.os:=hm.os;subst eg;subst ed;subst eo;show wpAny _ _ _ _ _ _;refine Ag ?_;show wpAny _ _ (ret BV) _ _ _;refine Ag ⟨rfl,h',tk',rfl,S',λb o e=>?_⟩;have hb0:=Aq e;refine hm.heap b o ?_ (Ad _ (Ad _ e));simp only [AA,Ef,or_false,not_or];rw [hz];exact ⟨As hb0,As (Ck hb0)⟩
   ·cases r2 with
    |error e=>exact hr2
    |ok f2=>
     cases f2 with
     |ret r=>
      obtain ⟨rfl,h',tk,rfl,S',hk'⟩:=hr2
      repeat (any_goals (first|assumption|wp_step))
      exact h _ _ S' hk'
     |_=>exact hr2.elim
  |_=>exact hr.elim
end
end SX
namespace DX
open PySem PySem.Spec PyProof.Rows
theorem gJ:plainId "dict.update.loop" = true:=by decide +kernel
def nR:entryFor table "dict.update.loop" = some AI.«dict.update.loop»:=entryFor_of_tree (by kernel_rfl)
section
variable {P:Av}{w:World}{A:Around}{E:Value->Shared->Prop}{s:Shared}
def TupAt (h:Heap)(z:Addr)(x y:Value):Prop:=∃ o n,h.get? z=some o/\o.cls=.type "tuple" /\ o.data=.seq #[x,y] n
def lR (ht:TupAt s.heap z x y)(h:Q [x,y] s):wpAny (model P w) A (AI.Dict.pairItems (.ref z)) Q E s:=by
 obtain ⟨o,n,ho,hc,hd⟩:=ht;unfold AI.Dict.pairItems;refine Aa (DY (T:="tuple") ⟨_,ho,hc⟩ ?_)
 wp_walk
 rw [hd];exact Ag (Ag h)
end
section
variable {P:Av}{w:World}{K:Type}[DecidableEq K]{knd:KeyKind P w K}{A:Around}{R:Result->Shared->Prop}
def tH (acc:List (K×Value))(k:K)(v:Value):(stored acc k v).length<=acc.length+1:=by
 unfold stored;split
 ·rw [Af];omega
 ·rw [Ay];exact Aj _
end
section
variable {P:Av}{w:World}{K:Type}[DecidableEq K]{knd:KeyKind P w K}{A:Around}{E:Value->Shared->Prop}{s:Shared}
abbrev nuD:Obj:={ cls:=.type "dict",data:=.dict #[] }
end
end DX
namespace L2
open PySem PySem.Spec PyProof.Rows
section
variable {X:Cx}
def rDictL (K:Ab):List V->Hp->VK->Prop:=λxs H Q=>∃ (a:Addr) (us:List V) (kvs:List (Key×V)),xs=[.ref a]/\H a=some (.lst us)/\us.length=kvs.length/\(kvs.map (·.1)).Nodup /\
 (∀ (i:Nat) u kv,us[i]?=some u->kvs[i]?=some kv->∃ z,u=.ref z/\H z=some (.tup [kV kv.1,kv.2]))/\∀ p,H p=none->Q (.ref p) (upd H p (.dK kvs))
theorem sL:∀ (kvs acc:List (Key×V)),(kvs.map (·.1)).Nodup->(∀ kv∈kvs,∀ kw∈acc,kv.1≠kw.1)->kvs.foldl (λacc kv=>putK acc kv.1 kv.2) acc=acc++kvs
 |[],acc,_,_=>by simp
 |kv::r,acc,nd,h=>by
  rw [An] at nd;have nd':=Bo.mp nd;have e:putK acc kv.1 kv.2=acc++[kv]:=by
   unfold putK;rw [if_neg];intro z;obtain ⟨kw,hk,e⟩:=List.any_eq_true.mp z;exact h kv (Ar ..) kw hk (of_decide_eq_true e).symm
  rw [Fg,e,sL r (acc++[kv]) nd'.2 λk1 h1 k2 h2=>?_,List.append_assoc]
  ·rfl
  ·rcases Bh.mp h2 with h2|h2
   ·exact h k1 (Ah _ h1) k2 h2
   ·rw [AE.mp h2]
    exact λz=>nd'.1 (z▸BQ h1)
theorem yD:∀ {kvs:List (Key×V)} {vs:List (Key×Value)} {acc:List (Key×V)} {bcc:List (Key×Value)},KV kvs vs->KV acc bcc->KV (kvs.foldl (λacc kv=>putK acc kv.1 kv.2) acc) (vs.foldl (λacc kv=>stored acc kv.1 kv.2) bcc)
 |[],[],_,_,_,h=>h
 |kv::r,v::q,acc,bcc,.cons ⟨e,rv⟩ t,h=>by
  have h1:=h.put kv.1 rv;rw [e] at h1;rw [Fg,Fg,e];exact yD t h1
end
end L2
namespace L2.TS
open PySem PySem.Spec PyProof.Rows
abbrev Ky:=List Nat
def yC {a b:Ky}(hn:a≠b)(hl:¬ a<b):b<a:=by
 by_cases hb:b<a
 ·exact hb
 ·exact absurd (ER (List.not_lt.mp hb) (List.not_lt.mp hl)) hn
def ka (f:Value->Ky)(xs:Array Keyed)(i:Nat):Ky:=(xs[i]?.map λp=>f p.1).getD []
theorem yG {i j:Nat}(e:xs[i]?=ys[j]?):ka f xs i=ka f ys j:=by
 unfold ka;rw [e]
def Up (f:Value->Ky)(xs:Array Keyed)(n:Nat):Prop:=∀ i j,i<j->j<n->ka f xs i<ka f xs j
def Dn (f:Value->Ky)(xs:Array Keyed)(n:Nat):Prop:=∀ i j,i<j->j<n->ka f xs j<ka f xs i
def Df (f:Value->Ky)(xs:List Keyed):Prop:=xs.Pairwise λp q=>f p.1≠f q.1
structure Sb (f:Value->Ky)(kd:SortKind)(o:Array Keyed)(st:SortSt):Prop where
 pm:(arrOf st).Perm o
 kn:kindOf st=kd
 fl:failedOf st=none
 pe:pendingOf st=#[]
 df:Df f (arrOf st).toList
section
variable {prog:Av}{w:World}{A:Around}{E:Value->Shared->Prop}{s:Shared}{o:Array Keyed}{f:Value->Ky}{kd:SortKind}
theorem Sb.sz {st:SortSt}(b:Sb f kd o st):(arrOf st).size=o.size:=b.pm.size_eq
def Sb.put {st:SortSt}(b:Sb f kd o st)(p:xs.Perm (arrOf st)):Sb f kd o (setArr st xs):=
 ⟨p.trans b.pm,b.kn,b.fl,b.pe,((DU.mp p).symm.pairwise_iff λh=>Bg h).mp b.df⟩
theorem Sb.ne {st:SortSt}(b:Sb f kd o st){i j:Nat}(hi:i<o.size)(hj:j<o.size)(hij:i≠j):ka f (arrOf st) i≠ka f (arrOf st) j:=by
 have h:=Cy.mp b.df;have hi':i<(arrOf st).size:=by rw [b.sz];exact hi
 have hj':j<(arrOf st).size:=by rw [b.sz];exact hj
 have e1:ka f (arrOf st) i=f (arrOf st)[i].1:=by unfold ka;rw [getElem?_pos (arrOf st) i hi'];rfl
 have e2:ka f (arrOf st) j=f (arrOf st)[j].1:=by unfold ka;rw [getElem?_pos (arrOf st) j hj'];rfl
 rw [e1,e2]
 rcases Nat.lt_or_gt_of_ne hij with l|l
 ·exact h i j (by simpa using hi') (by simpa using hj') l
 ·exact (h j i (by simpa using hj') (by simpa using hi') l).symm
def Cmp (prog:Av)(w:World)(A:Around)(s:Shared)(kd:SortKind)(f:Value->Ky)(o:Array Keyed):Prop:=
 ∀ (p q:Keyed) (E:Value->Shared->Prop) (Q:Bool->Shared->Prop),p∈o.toList->q∈o.toList->f p.1≠f q.1->Q (decide (f p.1<f q.1)) s->wpAny (model prog w) A (keyLt' kd p.1 q.1) Q E s
def yA (C:Cmp prog w A s kd f o){st:SortSt}(b:Sb f kd o st){i j:Nat}(hi:i<o.size)(hj:j<o.size)(hij:i≠j)(h:Q (some (decide (ka f (arrOf st) i<ka f (arrOf st) j))) st):wpS (model prog w) A E s (ltAt' i j) Q st:=by
 have hd:=b.ne hi hj hij;have hi':i<(arrOf st).size:=by rw [b.sz];exact hi
 have hj':j<(arrOf st).size:=by rw [b.sz];exact hj
 have g1:(arrOf st)[i]?=some (arrOf st)[i]:=getElem?_pos _ i hi';have g2:(arrOf st)[j]?=some (arrOf st)[j]:=getElem?_pos _ j hj';have m1:(arrOf st)[i]∈o.toList:=(DU.mp b.pm).mem_iff.mp (Array.getElem_mem_toList _);have m2:(arrOf st)[j]∈o.toList:=(DU.mp b.pm).mem_iff.mp (Array.getElem_mem_toList _);have k1:ka f (arrOf st) i=f (arrOf st)[i].1:=by unfold ka;rw [g1];rfl
 have k2:ka f (arrOf st) j=f (arrOf st)[j].1:=by unfold ka;rw [g2];rfl
 rw [k1,k2] at h hd;rw [ltAt'_eq];refine BW (wpS_get ?_);dsimp only;rw [elem'_eq,elem'_eq,g1,g2];refine BW (Di (BW (Di ?_)));rw [lt'_eq];refine BW (wpS_get ?_);rw [b.kn];exact BW (wpS_lift (DG (C _ _ _ _ m1 m2 hd ⟨rfl,Di h⟩)))
def aFz :Up f xs 1:=λi j h1 h2=>by omega
def asc (C:Cmp prog w A s kd f o){st:SortSt}(b:Sb f kd o st){a r:Nat}(hr:r<=o.size)(ha:1<=a)(har:a<=r)(hs:Up f (arrOf st) a){Q:AscSt->SortSt->Prop}
  (h:∀ n,a<=n->n<=r->Up f (arrOf st) n->(n=r\/ka f (arrOf st) n<ka f (arrOf st) (n-1))->Q (none,n) st):wpS (model prog w) A E s (ascLoop a r) Q st:=by
 unfold ascLoop;refine wpS_forRange (I:=λx c u=>u=st/\c=(none,x)/\Up f (arrOf st) x) (λx c u h1 h2 h3=>?_) (λc u h3=>?_) ⟨rfl,rfl,hs⟩
 ·obtain ⟨rfl,rfl,up⟩:=h3
  refine BW (yA C b (by omega) (by omega) (by omega) ?_)
  by_cases l:ka f (arrOf u) x<ka f (arrOf u) (x-1)
  ·simp only [l,decide_true,if_true]
   exact Di (h x h1 (by omega) up (.inr l))
  ·simp only [l,decide_false,Dk,if_false]
   have l':=yC (b.ne (by omega) (by omega) (by omega)) l;refine Di ⟨rfl,rfl,λi j hij hj=>?_⟩
   by_cases jx:j<x
   ·exact up i j hij jx
   ·obtain rfl:j=x:=by omega
    by_cases ix:i=j-1
    ·rw [ix];exact l'
    ·exact List.lt_trans (up i (j-1) (by omega) (by omega)) l'
 ·obtain ⟨rfl,rfl,up⟩:=h3
  rw [show max a r=r by omega] at up ⊢;exact h r har (Aj _) up (.inl rfl)
theorem nJ {n:Nat}(hn:n<=xs.size)(k:Nat):ka f (mirror xs 0 n ((n-0)/2)) k=if k<n then ka f xs (n-1-k) else ka f xs k:=by
 have e:=getElem?_mirror_all (i:=0) hn k
 by_cases l:k<n
 ·rw [if_pos ⟨Bi _,l⟩] at e
  rw [if_pos l,yG e,Nat.zero_add]
 ·rw [if_neg λq=>l q.2] at e
  rw [if_neg l,yG e]
def tail (C:Cmp prog w A s kd f o){st:SortSt}(b:Sb f kd o st){n r:Nat}(hr:r<=o.size)(h1:1<=n)(hn:n<=r)(hs:Dn f (arrOf st) n)(h:∀ m u,Sb f kd o u->1<=m->m<=r->Up f (arrOf u) m->Q (some m) u):wpS (model prog w) A E s (tail3 n r) Q st:=by
 unfold tail3;have z:n<=(arrOf st).size:=by rw [b.sz];omega
 refine BW (wpS_reverse ?_);have b':=b.put (mirror_perm (arrOf st) 0 n ((n-0)/2));refine BW (asc C b' hr h1 hn (λi j hij hj=>?_) λm q1 q2 q3 _=>Di (h m _ b' (by omega) q2 q3));show ka f (mirror _ 0 n _) i<ka f (mirror _ 0 n _) j;rw [nJ z,nJ z,if_pos (by omega),if_pos hj];exact hs _ _ (by omega) (by omega)
def desc (C:Cmp prog w A s kd f o){st:SortSt}(b:Sb f kd o st){n r:Nat}(hr:r<=o.size)(h1:1<=n)(hn:n<=r)(hs:Dn f (arrOf st) n){Q:DescSt->SortSt->Prop}
  (h:∀ m,n<=m->m<=r->Dn f (arrOf st) m->Q (none,m,0) st):wpS (model prog w) A E s (descLoop n r) Q st:=by
 unfold descLoop;refine wpS_forRange (I:=λx c u=>u=st/\c=(none,x,0)/\Dn f (arrOf st) x) (λx c u q1 q2 q3=>?_) (λc u q3=>?_) ⟨rfl,rfl,hs⟩
 ·obtain ⟨rfl,rfl,dn⟩:=q3
  dsimp only;refine BW (yA C b (by omega) (by omega) (by omega) ?_)
  by_cases l:ka f (arrOf u) x<ka f (arrOf u) (x-1)
  ·simp only [l,decide_true,if_true,gt_iff_lt,CA,if_false]
   refine Di ⟨rfl,rfl,λi j hij hj=>?_⟩
   by_cases jx:j<x
   ·exact dn i j hij jx
   ·obtain rfl:j=x:=by omega
    by_cases ix:i=j-1
    ·rw [ix];exact l
    ·exact List.lt_trans l (dn i (j-1) (by omega) (by omega))
  ·simp only [l,decide_false,Dk,if_false]
   have l':=yC (b.ne (by omega) (by omega) (by omega)) l;refine BW (yA C b (by omega) (by omega) (by omega) ?_);simp only [l',decide_true,if_true];exact Di (h x q1 (by omega) dn)
 ·obtain ⟨rfl,rfl,dn⟩:=q3
  rw [show max n r=r by omega] at dn ⊢;exact h r hn (Aj _) dn
def count (C:Cmp prog w A s kd f o){st:SortSt}(b:Sb f kd o st){r:Nat}(hr:r<=o.size)(h1:1<=r)(h:∀ m u,Sb f kd o u->1<=m->m<=r->Up f (arrOf u) m->Q (some m) u):wpS (model prog w) A E s (countRun' 0 r) Q st:=by
 rw [countRun0_eq];refine BW (asc C b hr (Aj 1) h1 aFz λn q1 q2 up or=>?_);dsimp only
 by_cases nr:n=r
 ·rw [if_pos (by simpa using nr)]
  exact Di (h n st b q1 q2 up)
 ·rw [if_neg (by simpa using nr)]
  by_cases n1:n > 1
  ·rw [if_pos n1]
   refine BW (yA C b (by omega) (by omega) (by omega) ?_);have l:=up 0 (n-1) (by omega) (by omega);simp only [l,decide_true,if_true];exact Di (h n st b q1 q2 up)
  ·rw [if_neg n1]
   obtain rfl:n=1:=by omega
   have l:=or.resolve_left nr;unfold descPart;refine BW (wpS_lift (Dz ⟨rfl,?_⟩));refine BW (desc C b hr (by omega) (by omega) (λi j hij hj=>?_) λm p1 p2 dn=>?_)
   ·obtain rfl:i=0:=by omega
    obtain rfl:j=1:=by omega
    exact l
   ·simp only [gt_iff_lt,CA,if_false]
    exact tail C b hr (by omega) p2 dn h
theorem nK {k l:Nat}(hk:k<xs.size)(hl:l<=k)(i:Nat):ka f (bubble xs k (k-l)) i=if i=l then ka f xs k else if l<i/\i<=k then ka f xs (i-1) else ka f xs i:=by
 have e:=getElem?_bubble hk (k-l) (Nat.sub_le _ _) i;rw [show k-(k-l)=l by omega] at e
 by_cases c1:i=l
 ·rw [if_pos c1] at e ⊢;exact yG e
 ·rw [if_neg c1] at e ⊢
  by_cases c2:l<i/\i<=k
  ·rw [if_pos c2] at e ⊢;exact yG e
  ·rw [if_neg c2] at e ⊢;exact yG e
end
section
variable {prog:Av}{w:World}{A:Around}{E:Value->Shared->Prop}{s:Shared}{o:Array Keyed}{f:Value->Ky}{kd:SortKind}
def At (f:Value->Ky)(xs:Array Keyed)(k l r:Nat):Prop:=(∀ i,i<l->ka f xs i<ka f xs k)/\∀ i,r<=i->i<k->ka f xs k<ka f xs i
def aFy {k l:Nat}(hk:k<xs.size)(hl:l<=k)(up:Up f xs k)(a:At f xs k l l):Up f (bubble xs k (k-l)) (k+1):=by
 intro i j hij hj;rw [nK hk hl,nK hk hl]
 by_cases c1:i=l
 ·subst c1
  rw [if_pos rfl,if_neg (by omega),if_pos (by omega)];exact a.2 _ (by omega) (by omega)
 ·rw [if_neg c1]
  by_cases c2:j=l
  ·subst c2
   rw [if_pos rfl,if_neg (by omega)];exact a.1 _ hij
  ·rw [if_neg c2]
   by_cases c3:l<i/\i<=k
   ·rw [if_pos c3,if_pos (by omega)]
    exact up _ _ (by omega) (by omega)
   ·rw [if_neg c3]
    by_cases c4:l<j/\j<=k
    ·rw [if_pos c4]
     exact up _ _ (by omega) (by omega)
    ·rw [if_neg c4]
     exact up _ _ hij (by omega)
def binary (C:Cmp prog w A s kd f o){st:SortSt}(b:Sb f kd o st){n m:Nat}(hn:n<=o.size)(hm:m<=n)(hs:Up f (arrOf st) m){Q:Bool->SortSt->Prop}
  (h:∀ u,Sb f kd o u->Up f (arrOf u) n->Q true u):wpS (model prog w) A E s (binarySort' 0 n m) Q st:=by
 rw [binarySort'_eq];simp only [Nat.zero_add];refine BW (wpS_mono (wpS_forRange (I:=λk c u=>c=(none,())/\Sb f kd o u/\Up f (arrOf u) (min k n)) (Q:=λc u=>c=(none,())/\Sb f kd o u/\Up f (arrOf u) n)
  (λk c u q1 q2 q3=>?_) (λc u q3=>?_) ⟨rfl,b,λi j hij hj=>hs i j hij (by omega)⟩) λc u q=>?_)
 ·obtain ⟨rfl,b',up⟩:=q3
  rw [show min k n=k by omega] at up;have ko:k<o.size:=by omega
  refine BW (wpS_mono (wpS_forRange (I:=λx c v=>v=u/\∃ l r,c=(none,l,r)/\l<=r/\r<=k/\r-l<=k-x/\At f (arrOf u) k l r) (Q:=λc v=>v=u/\∃ l r,c=(none,l,r)/\l<=k/\At f (arrOf u) k l l)
   (λx c v p1 p2 p3=>?_) (λc v p3=>?_) ⟨rfl,0,k,rfl,by omega,by omega,by omega,λi hi=>by omega,λi g1 g2=>by omega⟩) λc v p=>?_)
  ·obtain ⟨rfl,l,r,rfl,g1,g2,g3,a1,a2⟩:=p3
   dsimp only
   by_cases lr:l ≥ r
   ·rw [if_pos lr]
    obtain rfl:l=r:=by omega
    exact Di ⟨rfl,l,l,rfl,g2,a1,a2⟩
   ·rw [if_neg lr]
    refine BW (yA C b' ko (by omega) (by omega) ?_)
    by_cases ls:ka f (arrOf v) k<ka f (arrOf v) ((l+r)/2)
    ·simp only [ls,decide_true,if_true]
     refine Di ⟨rfl,l,(l+r)/2,rfl,by omega,by omega,by omega,a1,λi t1 t2=>?_⟩
     by_cases im:i=(l+r)/2
     ·rw [im];exact ls
     ·exact List.lt_trans ls (up _ _ (by omega) t2)
    ·simp only [ls,decide_false,Dk,if_false]
     have ls':=yC (b'.ne ko (by omega) (by omega)) ls;refine Di ⟨rfl,(l+r)/2+1,r,rfl,by omega,by omega,by omega,λi t1=>?_,a2⟩
     by_cases im:i=(l+r)/2
     ·rw [im];exact ls'
     ·exact List.lt_trans (up _ _ (by omega) (by omega)) ls'
  ·obtain ⟨rfl,l,r,rfl,g1,g2,g3,a1⟩:=p3
   obtain rfl:l=r:=by omega
   exact ⟨rfl,l,l,rfl,g2,a1⟩
  ·obtain ⟨rfl,l,r,rfl,g2,a1⟩:=p
   dsimp only;rw [moveDown'_eq];refine BW (wpS_modify (Di ⟨rfl,b'.put (bubble_perm _ _ _),?_⟩));rw [show min (k+1) n=k+1 by omega];exact aFy (by rw [b'.sz];exact ko) g2 up a1
 ·obtain ⟨rfl,b',up⟩:=q3
  rw [show min (max (max m 1) n) n=n by omega] at up;exact ⟨rfl,b',up⟩
 ·obtain ⟨rfl,b',up⟩:=q
  exact Di (h u b' up)
def Dne (f:Value->Ky)(o:Array Keyed)(st:SortSt):Prop:=(arrOf st).Perm o/\failedOf st=none/\(pendingOf st).size=1/\Up f (arrOf st) o.size
theorem Sb.dne {st:SortSt}(b:Sb f kd o st)(up:Up f (arrOf st) o.size):Dne f o (setPending st ((pendingOf st).push x)):=
 ⟨b.pm,b.fl,by show ((pendingOf st).push x).size=1;rw [b.pe];rfl,up⟩
def runs (C:Cmp prog w A s kd f o){st:SortSt}(b:Sb f kd o st)(h2:2<=o.size)(h64:o.size<64)(h:∀ u,(arrOf u).Perm o->failedOf u=none->Up f (arrOf u) o.size->Q () u):wpS (model prog w) A E s sortRuns' Q st:=by
 rw [sortRuns'_eq];refine BW (wpS_get ?_);dsimp only;have mr:minRun' o.size o.size 0=o.size:=by
  generalize hz:o.size=z at h2 h64;cases z with
  |zero=>omega
  |succ z=>rw [minRun'_succ,if_pos h64]
 simp only [b.sz,mr];refine BW (wpS_mono (wpS_forRange (I:=λx c u=>(x=0/\c=(none,0)/\Sb f kd o u)\/(0<x/\c=(none,o.size)/\Dne f o u)) (Q:=λc u=>c=(none,o.size)/\Dne f o u)
  (λx c u q1 q2 q3=>?_) (λc u q3=>?_) (.inl ⟨rfl,rfl,b⟩)) λc u q=>?_)
 ·rcases q3 with ⟨rfl,rfl,b'⟩|⟨x1,rfl,d⟩
  ·dsimp only
   rw [if_neg (by omega)];simp only [Nat.sub_zero,Nat.min_self,Nat.zero_add];refine BW (count C b' (Aj _) (by omega) λm v b2 m1 m2 up=>?_);dsimp only
   by_cases lt:m<o.size
   ·rw [if_pos lt]
    refine BW (wpS_lift (Dz ⟨rfl,?_⟩));refine BW (binary C b2 (Aj _) m2 up λv3 b3 up3=>?_);simp only [Bool.not_true,Dk,if_false];refine BW (wpS_get ?_);rw [show (pendingOf v3).back?=none by rw [b3.pe];rfl];exact BW (wpS_modify (Di (.inr ⟨by omega,rfl,b3.dne up3⟩)))
   ·rw [if_neg lt]
    obtain rfl:m=o.size:=by omega
    refine BW (wpS_get ?_);rw [show (pendingOf v).back?=none by rw [b2.pe];rfl];exact BW (wpS_modify (Di (.inr ⟨by omega,rfl,b2.dne up⟩)))
  ·dsimp only
   rw [if_pos (Aj _)];exact Di ⟨rfl,d⟩
 ·rcases q3 with ⟨x0,_,_⟩|⟨_,e,d⟩
  ·omega
  ·exact ⟨e,d⟩
 ·obtain ⟨rfl,d⟩:=q
  dsimp only;refine BW (wpS_mono (wpS_forRange (I:=λ_ c v=>v=u/\c=(none,())) (Q:=λc v=>v=u/\c=(none,())) (λx c v p1 p2 p3=>?_) (λ_ _ p=>p) ⟨rfl,rfl⟩) λc v p=>?_)
  ·obtain ⟨rfl,rfl⟩:=p3
   refine BW (wpS_get ?_);rw [if_pos (by rw [d.2.2.1];exact Aj 1)];exact Di ⟨rfl,rfl⟩
  ·obtain ⟨rfl,rfl⟩:=p
   exact Di (h _ d.1 d.2.1 d.2.2.2)
end
def Tp (h:Heap)(nm:Value->Str)(v:Value):Prop:=∃ a o xs n t r,v=.ref a/\h.get? a=some o/\o.cls=.type "tuple" /\ o.data=.seq xs n/\xs.toList=.str (nm v) t::r
def Tp.keep {h h':Heap}{nm:Value->Str}{v:Value}{a:Addr}{its:Array Value}{m:Nat}(t:Tp h nm v)(ha:h.get? a=some (seqObj "list" its m))(k:∀ b o,b≠a->h.get? b=some o->h'.get? b=some o):Tp h' nm v:=by
 obtain ⟨b,o,xs,n,t,r,e,ho,hc,hd,hx⟩:=t;refine ⟨b,o,xs,n,t,r,e,k b o ?_ ho,hc,hd,hx⟩
 rintro rfl
 rw [ho] at ha;obtain rfl:=AG ha;exact absurd (show Dd "list" = Dd "tuple" from hc) (by simp)
def aC0 {h:Heap}{nm:Value->Str}:∀ (vs:List Value),(∀ v∈vs,Tp h nm v)->∃ fs,PySem.W.KatTups h vs fs/\fs.length=vs.length/\∀ v∈fs,∃ x t,v=.str x t
 |[],_=>⟨[],trivial,rfl,λv h=>nomatch h⟩
 |v::vs,H=>by
  obtain ⟨fs,k,l,e⟩:=aC0 vs λu hu=>H u (Ah _ hu);obtain ⟨a,o,xs,n,t,r,rfl,ho,hc,hd,hx⟩:=H v (Ar ..);refine ⟨_::fs,PySem.W.KatTups.cons ho hc hd (f:=.str (nm (.ref a)) t) ?_ k,by simp [l],?_⟩
  ·rw [<- AW,hx];rfl
  ·intro u hu
   rcases AA.mp hu with rfl|hu
   ·exact ⟨_,_,rfl⟩
   ·exact e u hu
theorem oK:∀ vs:List Value,vs.zip vs=vs.map λv=>(v,v)
 |[]=>rfl
 |v::vs=>by rw [BZ,oK vs,An]
def aDo {x y:Str}(h:x.cps.toList=y.cps.toList):x=y:=by
 cases x;cases y
 simpa using h
section
variable {prog:Av}{w:World}{A:Around}{E:Value->Shared->Prop}{s:Shared}{nm:Value->Str}{vs:List Value}
abbrev kf (nm:Value->Str):Value->Ky:=λv=>(nm v).cps.toList
theorem kind {Q:SortKind->Shared->Prop}(h0:0<vs.length)(T:∀ v∈vs,Tp s.heap nm v)(h:Q (tuples' true) s):wpAny (model prog w) A (keyKind' vs.toArray) Q E s:=by
 obtain ⟨fs,k,l,e⟩:=aC0 vs T;refine PySem.W.kat_kind (T:=.type "str") k (by omega) (λv hv=>?_) (by decide) ?_
 ·obtain ⟨x,t,rfl⟩:=e v hv
  exact PySem.W.Looks.now
 ·have hb:(Dd "str" != Dd "tuple")=true:=by decide
  rw [hb];exact h
def cmp (T:∀ v∈vs,Tp s.heap nm v):Cmp prog w A s (tuples' true) (kf nm) (pairsOf vs):=by
 intro p q E Q hp hq hn h;have m:∀ p∈(pairsOf vs).toList,p.1∈vs:=λp hp=>by rw [pairsOf_toList] at hp;exact (En hp).1
 obtain ⟨a,o,xs,n,t,r,ea,ho,hc,hd,hx⟩:=T _ (m p hp);obtain ⟨b,o',ys,n',t',r',eb,ho',hc',hd',hy⟩:=T _ (m q hq);have ne:nm p.1≠nm q.1:=λz=>hn (by show (nm p.1).cps.toList=_;rw [z]);rw [show keyLt' (tuples' true) p.1 q.1=keyLt' (tuples' true) (.ref a) (.ref b) by rw [ea,eb]];refine PySem.W.kat_lt ho hd ho' hd' ?_;rw [hx,hy,BZ];refine PySem.W.kat_cons (wpAny_eqBool_str ?_);rw [decide_eq_false ne];exact PySem.W.kat_no (oneLt_str h)
def aG4 (hp:xs.Perm (pairsOf vs))(hu:Up f xs (pairsOf vs).size):(xs.map (·.2)).toList.Perm vs/\(xs.map (·.2)).toList.Pairwise λu v=>f u<f v:=by
 have hl:=DU.mp hp;rw [pairsOf_toList,oK] at hl;have same:∀ p∈xs.toList,p.1=p.2:=λp h=>by
  obtain ⟨v,_,rfl⟩:=AH.mp (hl.mem_iff.mp h);rfl
 refine ⟨?_,?_⟩
 ·rw [Array.toList_map]
  refine (hl.map (·.2)).trans ?_;rw [Ca,show ((λp:Keyed=>p.2) ∘ λv:Value=>(v,v))=id from rfl,List.map_id]
 ·rw [Array.toList_map,Cw,Cy]
  intro i j hi hj hij;rw [<- same _ (Dg hi),<- same _ (Dg hj)];have hi':i<xs.size:=by simpa using hi
  have hj':j<xs.size:=by simpa using hj
  have g:=hu i j hij (by rw [<- hp.size_eq];exact hj');have e1:ka f xs i=f xs[i].1:=by unfold ka;rw [getElem?_pos xs i hi'];rfl
  have e2:ka f xs j=f xs[j].1:=by unfold ka;rw [getElem?_pos xs j hj'];rfl
  rw [e1,e2] at g
  simpa using g
def sort_tup {a:Addr}{n:Nat}{R:PySem.Fin->Shared->Prop}(ho:s.heap.get? a=some (seqObj "list" vs.toArray n))(T:∀ v∈vs,Tp s.heap nm v)(D:vs.Pairwise λu v=>nm u≠nm v)(h64:vs.length<64)
  (h:∀ out:List Value,out.Perm vs->(out.Pairwise λu v=>kf nm u<kf nm v)->R (.done (.ret .none)) { s with heap:=sortedHeap s.heap a vs out.toArray }):wpAny (model prog w) A (AI.«list.sort» ⟨[.ref a],[]⟩) R E s:=by
 have fin:∀ xs:Array Keyed,xs.Perm (pairsOf vs)->Up (kf nm) xs (pairsOf vs).size->R (.done (.ret .none)) { s with heap:=sortedHeap s.heap a vs (xs.map (·.2)) }:=λxs hp hu=>by
  obtain ⟨q1,q2⟩:=aG4 hp hu;have e:=h _ q1 q2;rw [ET] at e;exact e
 rw [list_sort_plain];have lt:a<s.heap.objs.size:=Aq ho;refine Aa (listItems_at ho rfl (Aa (listUpdate_at ho rfl ?_)));obtain ⟨e1,o1⟩:∃ e1,(s.heap.update a (DV λ_=>#[])).get? a=some (seqObj "list" #[] e1):=⟨_,get?_update_seq ho (λ_=>#[])⟩;refine Aa (seqEpoch_at o1 rfl (Aa (wpAny_newTuple (Aa (wpAny_newList (Bz ?_))))));show wpAny (model prog w) A _ R E { s with heap:=((s.heap.update a (DV λ_=>#[])).push (seqObj "tuple" vs.toArray 0)).push (seqObj "list" #[] 0) };generalize hg:((s.heap.update a (DV λ_=>#[])).push (seqObj "tuple" vs.toArray 0)).push (seqObj "list" #[] 0)=g;have keep:∀ b o,b≠a->s.heap.get? b=some o->g.get? b=some o:=λb o nb hb=>by
  have l:=Aq hb;rw [<- hg,DT _ _ _ (by rw [size_push',Heap.size_update];exact As (Ck l)),DT _ _ _ (by rw [Heap.size_update];exact As l),Heap.get?_update_ne _ _ _ _ nb];exact hb
 have o6:g.get? a=some (seqObj "list" #[] e1):=by
  rw [<- hg,DT _ _ _ (by rw [size_push',Heap.size_update];exact As (Ck lt)),DT _ _ _ (by rw [Heap.size_update];exact As lt)];exact o1
 have T':∀ v∈vs,Tp g nm v:=λv hv=>(T v hv).keep ho keep;have fin':∀ xs:Array Keyed,xs.Perm (pairsOf vs)->Up (kf nm) xs (pairsOf vs).size->R (.done (.ret .none)) { s with heap:=g.update a (DV λ_=>xs.map (·.2)) }:=λxs hp hu=>by
  rw [<- hg];exact fin xs hp hu
 dsimp only;have z:vs.toArray.size=vs.length:=by simp
 by_cases h2:vs.toArray.size<2
 ·rw [if_pos h2,if_pos h2]
  refine Aa (Ag ?_);rw [StateT.run_pure];refine Aa (Ag ?_);dsimp only;refine Aa (seqEpoch_at o6 rfl (Aa (listUpdate_at o6 rfl ?_ (hsz2:=by rw [Array.size_map];show (pairsOf vs).size<=_;rw [pairsOf_size,sizeLine_eq];omega))));simp only [bne_self_eq_false,Dk,if_false];refine Ag (fin' (vs.toArray.zip vs.toArray) (Array.Perm.refl _) λi j q1 q2=>?_);rw [pairsOf_size] at q2;omega
 ·rw [if_neg h2,if_neg h2]
  refine Aa (kind (by omega) T' ?_);refine Aa (BX (runs (kd:=tuples' true) (f:=kf nm) (o:=pairsOf vs) (st:=SortSt.mk' (tuples' true) (vs.toArray.zip vs.toArray) #[] 7 none) (Q:=λ_ st=>(arrOf st).Perm (pairsOf vs)/\failedOf st=none/\Up (kf nm) (arrOf st) (pairsOf vs).size)
   (cmp T') ⟨Array.Perm.refl _,rfl,rfl,rfl,?_⟩ (by rw [pairsOf_size];omega) (by rw [pairsOf_size];exact h64) λst x1 x2 x3=>⟨x1,x2,x3⟩) ?_ λ_ _ e=>e)
  ·show Df (kf nm) (pairsOf vs).toList
   rw [pairsOf_toList,oK];exact Cw.mpr (D.imp λne z=>ne (aDo z))
  ·rintro ⟨⟨⟩,st⟩ s' ⟨rfl,hp,hf,hs⟩
   dsimp only;refine Aa (seqEpoch_at o6 rfl (Aa (listUpdate_at o6 rfl ?_ (hsz2:=by refine AU (Nat.le_of_eq ((Array.size_map ..).trans (hp.size_eq.trans (pairsOf_size _)))) ?_;rw [sizeLine_eq];omega))));rw [hf];simp only [bne_self_eq_false,Dk,if_false];exact Ag (fin' _ hp hs)
end
end L2.TS
namespace L2
open PySem PySem.Spec PyProof.Rows
def nmH (H:Hp)(a:Addr):Str:=match H a with
 |some (.tup (.str x::_))=>x
 |_=>⟨#[]⟩
def nmV (H:Hp):Value->Str
 |.ref a=>nmH H a
 |_=>⟨#[]⟩
theorem mD:∀ as:List Addr,Vals (as.map V.ref) (as.map AC)
 |[]=>.nil
 |_::as=>.cons rfl (mD as)
def adOf:Value->Addr
 |.ref a=>a
 |_=>0
def rSortT (K:Ab):List V->Hp->VK->Prop:=λxs H Q=>∃ a as,xs=[.ref a]/\SqL K H a (as.map V.ref)/\as.length<64/\(∀ q∈as,∃ x r,H q=some (.tup (.str x::r)))/\(as.map (nmH H)).Nodup /\
 ∀ (p:Addr) (as':List Addr),as'.Perm as->(as'.Pairwise λu v=>(nmH H u).cps.toList<(nmH H v).cps.toList)->H p=none->Q (.ref p) (upd H p (.lst (as'.map V.ref)))
def Ite (K:Ab)(b:Addr):It:=
  ⟨λi H=>∃ ys,SqL K H b ys/\i<ys.length,
   λi H v H'=>∃ T,H T=none/\v=.ref T/\∀ ys,SqL K H b ys->∃ y,ys[i]?=some y/\H'=upd H T (.tup [.int i,y]),
   λi H=>∃ ys,SqL K H b ys/\i=ys.length⟩
def aJq (n b:Nat)(i:Nat)(h:Heap):Prop:=(∃ old,IsEnum h (n+1) n (i:Int) old)/\h.IsListIter n b i
def uU {P:Av}{w:World}{K:Ab}{es:List Expr}{k1:Nat}{p1:Pos}{n b:Nat}(hb:b<n):Turn P w K (.Tuple es k1 p1) (Ite K b) [n+1,n] (n+1) (aJq n b) where
 mem:=by simp
 obj:=λi h st c hc=>by
  obtain ⟨⟨old,c1⟩,⟨o5,d5,_,f5⟩⟩:=st;have hc':c=n+1\/c=n:=by simpa using hc
  rcases hc' with e|e
  ·subst e;exact ⟨_,c1,λv z=>by cases z⟩
  ·subst e;exact ⟨_,d5,λv z=>by rw [f5] at z;cases z⟩
 keep:=λi h h' st k=>by
  obtain ⟨⟨old,c1⟩,c5⟩:=st;exact ⟨⟨old,k _ (by simp) _ c1⟩,c5.at λo e=>k _ (by simp) o e⟩
 item:=by
  intro X hP hw hK hc i pins s σ H E I hf st hg;subst hP hw hK;obtain ⟨ys,hy,l2⟩:=hg;obtain ⟨its',r2,ty,_⟩:=I.list hy;have e2:=r2.length;obtain ⟨⟨old,c1⟩,c5⟩:=st;obtain ⟨vy,hvy⟩:∃ v,ys[i]?=some v:=⟨_,Ac l2⟩;obtain ⟨uy,huy,ry⟩:=r2.get hvy;refine wpAny_pyNext_enum_item (x:=uy) c1 c5 (bY ty) (by rw [<- AW,Fd];exact huy) (by show (_:Nat)≠_;omega) λg cz s2 cT sz kp=>⟨.ref s.heap.objs.size,rfl,?_⟩;refine wpAny_letOwnedTupleGo_enum (s:={ s with heap:=g,toks:=s.toks+1 }) cz λg' cz' sb=>?_;have hfr:H s.heap.objs.size=none:=I.hok.fresh (Aj _);have I0:Inv X pins σ (upd H s.heap.objs.size (.tup [.int i,vy])) { s with heap:=s.heap.push { cls:=.type "tuple",data:=.seq #[.int i s.toks,uy] },toks:=s.toks+1 }:=
   I.laid (λc u q=>Ad _ q) (Aj _) ⟨⟨by show 2<=Au;decide,_,Ai s.heap rfl,rfl⟩,[.int i s.toks,uy],.cons ⟨_,rfl⟩ (.cons ry .nil),⟨_,Ai s.heap rfl,rfl,_,rfl⟩⟩
  have lz:n+1<s.heap.objs.size:=Aq c1;have fpn:∀ c∈[n+1,n],c≠s.heap.objs.size:=λc hc'=>by
   have hc'':c=n+1\/c=n:=by simpa using hc'
   rcases hc'' with e|e<;>(subst e;exact As (by omega))
  have hf0:∀ c∈[n+1,n],FpOk X pins (upd H s.heap.objs.size (.tup [.int i,vy])) c:=λc hc'=>⟨by rw [aI (fpn c hc')];exact (hf c hc').1,(hf c hc').2⟩;have I1:Inv X pins σ (upd H s.heap.objs.size (.tup [.int i,vy])) { s with heap:=g',toks:=s.toks+1 }:=by
   refine Inv.turnedL (s:={ s with heap:=s.heap.push { cls:=.type "tuple",data:=.seq #[.int i s.toks,uy] },toks:=s.toks+1 }) (h':=g') (t':=s.toks+1) (ch:=[n+1,n]) I0 (λc o hc' e=>?_) hf0;replace e:(s.heap.push { cls:=.type "tuple",data:=.seq #[.int i s.toks,uy] }).get? c=some o:=e;have hn:∀ d∈[n+1,n],c≠d:=λd hd z=>hc' (by rw [z];exact hd);refine sb.extBut _ _ (hn _ (by simp)) ?_
   by_cases ec:c=s.heap.objs.size
   ·rw [ec] at e ⊢
    rw [Ai s.heap rfl] at e;cases e;exact cT
   ·rw [DT _ _ _ ec] at e
    exact kp c o (hn _ (by simp)) (hn _ (by simp)) e
  refine ⟨.ref s.heap.objs.size,_,I1,rfl,⟨_,hfr,rfl,λys' hy'=>⟨vy,by rw [I.list_inj hy' hy];exact hvy,rfl⟩⟩,?_,λc hc'=>(hf0 c hc').1⟩;exact ⟨⟨uy,cz'⟩,s2.extBut sb.extBut (As (Cg n))⟩
 done:=by
  intro X hP hw hK hc i pins s σ H E I hf st hg;subst hP hw hK;obtain ⟨ys,hy,l⟩:=hg;obtain ⟨its',r2,ty,_⟩:=I.list hy;have e2:=r2.length;obtain ⟨⟨old,c1⟩,c5⟩:=st;have hh:X.A.handled=none:=I.ok.hd hc;refine wpAny_pyNext_enum_end hh c1 c5 (bY ty) (by rw [<- AW,Fd];exact Ax (by omega)) λg kp=>⟨rfl,I.turnedL (t':=s.toks) (ch:=[n+1,n]) (λc o hc' e=>?_) hf⟩;exact kp c o (λz=>hc' (by rw [z];simp)) e
 self:=λ_ _ _ _ _ st h=>let ⟨⟨_,c1⟩,_⟩:=st;wpAny_pyIter_enum c1 h
def iEnu (K:Ab)(ta:TA):TI:=λσ H R=>ta σ H λvs H1=>∃ b,vs=[.ref b]/\(∃ ys,SqL K H1 b ys)/\R (Ite K b) H1
def nW:Ce "enumerate" = some (.type "enumerate"):=by decide +kernel
def aEk {X:Cx}{es:List Expr}{k1:Nat}{p1:Pos}{e1:Expr}{ta:TA}{p pos:Pos}(hg:Gl X "enumerate")(hm:X.mg "enumerate" = none)(ha:PA X [e1] ta)(hs:AQ [e1] X.env=[(false,eval e1 X.env)]:=by rfl) :
  PI X (.Tuple es k1 p1) (.Call (.Name "enumerate" p) [e1] [] pos) (iEnu X.K ta):=by
 intro pins s σ H R I h;refine Call_ (fS I hg hm nW (Bw (thn (ha pos pins s σ H _ I h) λus s1 ⟨vs,H1,I1,r1,q1⟩=>?_) hs rfl));obtain ⟨b,rfl,⟨ys,hy⟩,q⟩:=q1;cases r1 with
 |cons r rr=>
  cases rr;cases r;obtain ⟨its',_,ty,_⟩:=I1.list hy;have lb:b<s1.heap.objs.size:=by obtain ⟨o,e,_⟩:=bY ty;exact Aq e
  refine call_enumerate_list (bY ty) λg c1 c5 _ kp=>wpAny_pyIter_enum c1 ?_;have I2:Inv X pins σ H1 { s1 with heap:=g }:=I1.kept (t':=s1.toks) kp;refine ⟨s1.heap.objs.size+1,_,_,_,H1,rfl,I2,uU lb,⟨⟨_,c1⟩,c5⟩,λc hc=>?_,q⟩;refine I1.fpOk ?_ (I1.hok.fresh ?_)
  all_goals
   have hc':c=s1.heap.objs.size+1\/c=s1.heap.objs.size:=by simpa using hc
   rcases hc' with e|e<;>(subst e;omega)
def aBw {K:Ab}{b:Addr}{ys:List V}{g:TG}{tb:TS}{D:Ends}{σ:St}{H:Hp}(Pv:Nat->St->Hp->Prop)(h0:Pv 0 σ H)(hl:∀ i σ H,i<=ys.length->Pv i σ H->SqL K H b ys)
  (hs:∀ i y T σ H,ys[i]?=some y->H T=none->Pv i σ H->g (.ref T) σ (upd H T (.tup [.int (i:Nat),y])) λσ2 H2=>tb { D with nx:=Pv (i+1),ct:=Pv (i+1),bk:=D.nx } σ2 H2) (hd:∀ σ H,Pv ys.length σ H->D.nx σ H) :
  ∃ W:Nat->Nat->St->Hp->Prop,(∃ m,W 0 m σ H)/\∀ i m σ H,W i m σ H ->
   ((Ite K b).stop i H/\D.nx σ H)\/((Ite K b).go i H/\∃ N:St->Hp->Prop,(∀ σ' H',N σ' H'->∃ m',m'<m/\W (i+1) m' σ' H')/\∀ v H',(Ite K b).yld i H v H'->g v σ H' λσ2 H2=>tb { D with nx:=N,ct:=N,bk:=D.nx } σ2 H2):=by
 refine ⟨λi m σ H=>m=ys.length-i/\i<=ys.length/\Pv i σ H,⟨ys.length,by simp,Bi _,h0⟩,?_⟩
 rintro i m σ H ⟨rfl,hi,p⟩
 have q2:=hl i σ H hi p
 by_cases hlt:i<ys.length
 ·refine .inr ⟨⟨ys,q2,hlt⟩,Pv (i+1),λσ' H' p'=>⟨ys.length-(i+1),by omega,rfl,hlt,p'⟩,λv H' y=>?_⟩
  obtain ⟨T,hT,rfl,y⟩:=y;obtain ⟨y',e2,rfl⟩:=y ys q2;exact hs i y' T σ H e2 hT p
 ·have e:i=ys.length:=by omega
  subst e;exact .inl ⟨⟨ys,q2,rfl⟩,hd σ H p⟩
end L2
namespace HT
open PySem PySem.Spec PyProof.Rows
open AutoSeq1 (wpAny_loadPart')
section
variable {prog:Av}{w:World}{A:Around}{E:Value->Shared->Prop}{s:Shared}
end
end HT
namespace L2
open PySem PySem.Spec PyProof.Rows
def IteT (K:Ab)(b:Addr):It:=
  ⟨λi H=>∃ ys,SqT K H b ys/\i<ys.length,
   λi H v H'=>∃ T,H T=none/\v=.ref T/\∀ ys,SqT K H b ys->∃ y,ys[i]?=some y/\H'=upd H T (.tup [.int i,y]),
   λi H=>∃ ys,SqT K H b ys/\i=ys.length⟩
def EnuStT (n b:Nat)(i:Nat)(h:Heap):Prop:=(∃ old,IsEnum h (n+1) n (i:Int) old)/\h.IsTupleIter n b i
def iEnuT (K:Ab)(ta:TA):TI:=λσ H R=>ta σ H λvs H1=>∃ b,vs=[.ref b]/\(∃ ys,SqT K H1 b ys)/\R (IteT K b) H1
def Same.seqt {K:Ab}{H H':Hp}{a:Addr}{xs:List V}(e:Same H H')(h:SqT K H a xs):SqT K H' a xs:=by
 rcases h with h|h
 ·rcases h with h|⟨o,h⟩
  ·exact .inl (.inl (e _ _ h))
  ·exact .inl (.inr ⟨o,e _ _ h⟩)
 ·exact .inr h
def zI {K:Ab}{a b:Addr}{xs ys:List V}{D:Addr}{g:TG}{te:TE}{σ0:St}{QD:Hp->Prop}{H1:Hp}(ha:SqT K H1 a xs)(hb:SqT K H1 b ys)(hn:xs.length=ys.length)(Pr:Nat->V->Prop)(hD:H1 D=none)(hl:ys.length<=1000)
  (hs:∀ (i:Nat) x y T Hx (R:VK),xs[i]?=some x->ys[i]?=some y->Same H1 Hx->Hx T=some (.tup [x,y])->(∀ v H4,Same Hx H4->Pr i v->R v H4)->g (.ref T) σ0 Hx λσ2 H2=>Keep σ0 σ2/\te σ2 H2 R)
  (hd:∀ zs H',Same H1 H'->H' D=some (.lst zs)->zs.length=xs.length->(∀ (i:Nat) z,zs[i]?=some z->Pr i z)->QD H') :
  ∃ W:Nat->Nat->List V->Hp->Prop,(∃ m,W 0 m [] (upd H1 D (.lst [])))/\∀ i m zs H,W i m zs H->H D=some (.lst zs)/\zs.length<Au /\
   (((Itz2 K a b).stop i H/\QD H)\/((Itz2 K a b).go i H/\∀ x H',(Itz2 K a b).yld i H x H'->g x σ0 H' λσ2 H2=>Keep σ0 σ2/\aAi σ2 H2 λb H3=>
    if b=true then te σ2 H3 λy H4=>H4 D=some (.lst zs)/\∃ m',m'<m/\W (i+1) m' (zs++[y]) (upd H4 D (.lst (zs++[y]))) else ∃ m',m'<m/\W (i+1) m' zs H3)):=by
 refine ⟨λi m zs H=>m=xs.length-i/\i<=xs.length/\Same H1 H/\H D=some (.lst zs)/\zs.length=i/\∀ (j:Nat) z,zs[j]?=some z->Pr j z,
  ⟨_,rfl,Bi _,Same.upd hD,aB,rfl,λj z h=>by simp at h⟩,?_⟩
 rintro i m zs H ⟨rfl,hi,sm,hDH,zl,zp⟩
 refine ⟨hDH,bU (by omega),?_⟩
 by_cases hlt:i<xs.length
 ·refine .inr ⟨⟨xs,ys,sm.seqt ha,sm.seqt hb,hlt,by omega⟩,λx H' y=>?_⟩
  obtain ⟨T,hT,rfl,y⟩:=y;obtain ⟨x',y',e1,e2,rfl⟩:=y xs ys (sm.seqt ha) (sm.seqt hb);have st:=Same.upd (o:=.tup [x',y']) hT;have:=hs i x' y' T _ (λy H4=>H4 D=some (.lst zs)/\∃ m',m'<xs.length-i/\(m'=xs.length-(i+1)/\i+1<=xs.length/\Same H1 (upd H4 D (.lst (zs++[y])))/\(upd H4 D (.lst (zs++[y]))) D=some (.lst (zs++[y]))/\(zs++[y]).length=i+1/\∀ (j:Nat) z,(zs++[y])[j]?=some z->Pr j z)) e1 e2 (sm.trans st) aB (λv H4 s4 pv=>?_)
  ·exact this
  ·refine ⟨s4 _ _ (st _ _ hDH),xs.length-(i+1),by omega,rfl,hlt,λb o e=>?_,aB,by rw [Ay,zl];rfl,λj z hz=>?_⟩
   ·rw [aI (aZ e hD)]
    exact s4 _ _ (st _ _ (sm _ _ e))
   ·by_cases hj:j<zs.length
    ·rw [Cb hj] at hz
     exact zp j z hz
    ·have jl:=(Ae.mp hz).1
     rw [Ay] at jl;have jl':j<zs.length+1:=jl;have ej:j=zs.length:=by omega
     subst ej;rw [BH (Aj _),Nat.sub_self] at hz;obtain rfl:v=z:=by simpa using hz
     rw [zl];exact pv
 ·have e:i=xs.length:=by omega
  subst e;exact .inl ⟨⟨xs,ys,sm.seqt ha,sm.seqt hb,.inl rfl⟩,hd zs H sm hDH zl zp⟩
def rNeTs (K:Ab):R2:=λx y H Q=>∃ a b xs,x=.ref a/\y=.ref b/\SqT K H a xs/\SqT K H b xs/\(∀ v∈xs,Sf v)/\Q (.bl false) H
section
variable {X:Cx}{pins:List (Addr×Obj)}{σ:St}{H:Hp}{s:Shared}{A:Around}{E:Value->Shared->Prop}
structure KDict (w:World)(K:Ab)(a:Addr)(f:Str->Option Addr):Prop where
 lo:(a==DB)=false
 ex:∃ es n,K.lookup a=some ⟨.type "dict",none,.dict es n,#[]⟩/\PySem.W.KeysLit w.params es.toList/\∀ x,findBy EX es x=(f x).map AC
def aFh (D:KDict X.w X.K a f)(I:Inv X pins σ H s)(h:∀ s',Inv X pins σ H s'->Q (((f x).map AC).getD .none) s') :
  wpAny (model X.prog X.w) A (call (.builtin "dict.get") [.ref a,.str x t]) Q E s:=by
 obtain ⟨es,n,hl,hk,hf⟩:=D.ex;have hm:=PySem.W.mapOf_K (prog:=X.prog) (w:=X.w) I.kIn hl hk;have q:∀ s',Inv X pins σ H s'->Q ((findBy EX es x).getD .none) s':=λs' I'=>by rw [hf x];exact h s' I'
 exact call_meetsIn DH hm.typeIs PySem.F.entry_dict_get (PySem.F.args_dict_get_2 _ _) (meets_dict_get (strKind X.prog X.w) a (strKind_is X.prog X.w x t) D.lo) ⟨_,hm,q _ (I.tok _)⟩
end
def Inv.thaw {σ:St}(I:Inv X pins σ H s)(hd:H d=some (.frz ob (.dK kvs)))(h0:∀ o u,X.H₀ d≠some (.frz o u)):Inv X pins σ (upd H d (.dK kvs)) s:=by
 have ne:∀ b,H b=none->b≠d:=λb n z=>by rw [z,hd] at n;cases n
 have nd:∀ b u,H b=some u->u≠.frz ob (.dK kvs)->b≠d:=λb u e n z=>by
  rw [z,hd] at e;exact n (AG e).symm
 have st:∀ {a:Addr} {u:HO},ObjOk X.prog X.w H s.heap a u->ObjOk X.prog X.w (upd H d (.dK kvs)) s.heap a u:=λx=>
  x.stay (λc v _ q=>q) (λc q=>by rw [aI (nd c _ q (by intro z;cases z))];exact q) λc xs q=>by rw [aI (nd c _ q (by intro z;cases z))];exact q
 refine ⟨I.ok,I.os,I.bare,⟨I.base.keep,I.base.slot,λb o e n hx=>?_,I.base.there,λb xs e=>?_,λb o u e=>?_,λb ps e=>?_⟩,I.loc,I.cell,?_,λx c e=>?_,λp hp=>?_,λb u e=>?_,I.len⟩
 ·have z:=I.base.free b o e n hx
  rw [aI (ne b z)];exact z
 ·have z:=I.base.tups b xs e
  rw [aI (nd b _ z (by intro z;cases z))];exact z
 ·have z:=I.base.frzs b o u e
  rw [aI (λq=>h0 o u (by rw [<- q];exact e))];exact z
 ·obtain ⟨m,z⟩:=I.base.tbls b ps e
  exact ⟨m,by rw [aI (nd b _ z (by intro z;cases z))];exact z⟩
 ·rw [aI (ne _ I.free)]
  exact I.free
 ·rw [aI (ne _ (I.freeC x c e))]
  exact I.freeC x c e
 ·obtain ⟨q1,q2,q3⟩:=I.pin p hp
  exact ⟨q1,by rw [aI (ne _ q2)];exact q2,q3⟩
 ·by_cases e':b=d
  ·subst e'
   rw [aB] at e;cases e;exact st (I.hok b _ hd).2
  ·rw [aI e'] at e
   exact st (I.hok b u e)
def tThaw (H₀:Hp)(te:TE):TE:=λσ H Q=>te σ H λv H'=>∃ d ob kvs,H' d=some (.frz ob (.dK kvs))/\(∀ o u,H₀ d≠some (.frz o u))/\Q v (upd H' d (.dK kvs))
def rUpd:V->List V->Hp->VK->Prop:=λx vs H Q=>∃ d o kvs more,x=.ref d/\vs=[.ref o]/\d≠o/\H d=some (.dK kvs)/\H o=some (.dK more)/\kvs.length+more.length<=1000/\Q .non (upd H d (.dK (kN kvs more)))
section
variable {prog:Av}{w:World}{A:Around}{E:Value->Shared->Prop}{s:Shared}
end
def tMinD (te:TE):TE:=λσ H Q=>te σ H λx H1=>∃ l n,x=.ref l/\H1 l=some (.lst [.int n])/\Q (.int n) H1
structure MCal (P:Av)(w:World)(K:Ab)(mg:Str->Option Value)(base:Heap)(CX:CXT)(k:Nat)(C:Addr)(m:Str)(ps:List Str)(sp:Sp):Prop where
 ex:∃ (f:Addr) (fd:Az),Meth K C m f/\Binds K fd ps []/\FnOk P w K mg base CX k f fd ps sp
section
variable {X:Cx}{CX:CXT}{k:Nat}{C:Addr}{m:Str}{ps:List Str}{sp:Sp}{E:XK}{o e:Expr}{es:List Expr}{ta:TE}{t:TA}{apos pos:Pos}
def wJ {K:Ab}{f:Str}(h:X.K=K)(he:PE X o ta)(hb:EJ o f X.env (eval o X.env)=eval o X.env):PE X (.Attribute o f pos) (tFld K ta f):=h▸cZ he hb
end
def aF4 (H₀:Hp)(t:TS):TS:=λD σ H=>t { D with nx:=λσ' H'=>∃ d ob kvs,H' d=some (.frz ob (.dK kvs))/\(∀ o u,H₀ d≠some (.frz o u))/\D.nx σ' (upd H' d (.dK kvs)) } σ H
def wB {X:Cx}{st:Stmt}{t:TS}(h:PS X st t):PS X st (aF4 X.H₀ t):=by
 intro pins s σ H D I q;refine thn (h pins s σ H _ I q) λf s1 z=>?_;cases f with
 |next=>
  obtain ⟨σ',H',I',d,ob,kvs,hd,h0,q'⟩:=z;exact ⟨σ',_,I'.thaw hd h0,q'⟩
 |brk=>exact z
 |cont=>exact z
 |ret u=>exact z
section
variable {X:Cx}{e:Expr}{nm m:Str}{p apos cpos pos:Pos}{ty ta:TE}{aF:Addr}{f:Str->Option Addr}
def aIn (f:Str->Option Addr)(ty:TE):TE:=λσ H Q=>ty σ H λy H2=>∃ x,y=.str x/\Q (((f x).map V.ref).getD .non) H2
def aEm (D:KDict X.w X.K aF f)(hg:Gl X nm)(hm:X.mg nm=some (.ref aF))(he:PE X e ty)(M:M1 X (.Name nm p) "get" apos e cpos)(hd:(nm==("__debug__":Str))=false:=by decide):PE X (.Call (.Attribute (.Name nm p) "get" apos) [e] [] cpos) (aIn f ty):=by
 intro pins s σ H Q I h;refine wpAny_Call_method M.base M.few M.line Fu DH PySem.F.type_dict_get (fR I hg hm ?_ hd);obtain ⟨es,n,hl,hk,hf⟩:=D.ex;have hm':=PySem.W.mapOf_K (prog:=X.prog) (w:=X.w) I.kIn hl hk;refine ⟨hm'.typeIs,λb q=>?_,?_⟩
 ·cases q
  exact ⟨_,I.kIn _ _ hl,rfl⟩
 rw [M.trees];refine DE rfl (ES (DF (thn (he pins s σ H _ I h) λiv s2 ⟨y,H2,I2,ry,x,ex,q2⟩=>EC ?_)));subst ex;obtain ⟨t,rfl⟩:=(show ∃ t,iv=Value.str x t from ry);refine aFh D I2 λs3 I3=>⟨_,H2,I3,?_,q2⟩;cases f x with
 |none=>exact rfl
 |some a=>exact rfl
def tMethD (m:Str)(Cs:List (Addr×Sp))(E:XK)(ta:TE):TE:=λσ H Q=>ta σ H λx H1=>∃ C sp a dx fs,(C,sp)∈Cs/\x=.ref a/\H1 a=some (.ins C dx fs)/\fs.lookup m=none/\sp [x] H1 Q E
end
structure InsK (K:Ab)(C:Addr):Prop where
 cl:Cls K C
 ha:BP K (.ref C) "__class__" = some (some (.builtin "object.__class__"))
 hn:PySem.W.specialIn K (.builtin "object.__class__") "__get__" = some (some (.builtin "getset_descriptor.__get__"))
 htk:PySem.W.takesIn K (.builtin "object.__class__")=some true
 hm:PySem.W.mroIn K C (.type "object")=some true
def lay (H g:Hp):Hp:=λb=>match g b with
 |some o=>some o
 |none=>H b
theorem rV (h:g b=some o):lay H g b=some o:=by unfold lay;rw [h]
theorem iL (h:g b=none):lay H g b=H b:=by unfold lay;rw [h]
section
variable {X:Cx}{pins:List (Addr×Obj)}{σ:St}{H g:Hp}{s:Shared}{h':Heap}{t':Nat}
def Inv.laidL (I:Inv X pins σ H s)(k:∀ b u,s.heap.get? b=some u->h'.get? b=some u)(hp:∀ a o,g a=some o->s.heap.objs.size<=a)(new:∀ a o,g a=some o->ObjOk X.prog X.w (lay H g) h' a o) :
  Inv X pins σ (lay H g) { s with heap:=h',toks:=t' }:=by
 have sm:∀ b o,H b=some o->lay H g b=some o:=λb o e=>by
  cases q:g b with
  |none=>rw [iL q];exact e
  |some u=>
   rw [I.hok.fresh (hp b u q)] at e;cases e
 refine I.un ⟨λb u q _ _ _=>k b u q,λb u q _ _ _=>⟨u.slots,k b u q⟩,λb u q n _=>?_,λb u q _=>⟨u,k b u q⟩,λb xs q=>sm b _ q,λb u xs q=>sm b _ q,λb ps q=>⟨#[],by rw [sm b _ q];simp⟩⟩ λb u e=>?_
 ·cases z:g b with
  |none=>rw [iL z];exact n
  |some v=>exact absurd (Aq q) (Nat.not_lt.mpr (hp b v z))
 ·cases z:g b with
  |some v=>
   rw [rV z] at e;obtain rfl:=AG e;exact new b _ z
  |none=>
   rw [iL z] at e;exact (I.hok b u e).stay (λc v _ q=>k c v q) (λc q=>sm c _ q) λc xs q=>sm c _ q
end
namespace TI
def aA0 {α β:Type}{as' as:List α}(p:as'.Perm as):∀ {zs:List β},as.length=zs.length->∃ zs',zs'.Perm zs/\(as'.zip zs').Perm (as.zip zs)/\as'.length=zs'.length:=by
 induction p with
 |nil=>exact λ{zs} h=>⟨zs,.refl _,.refl _,h⟩
 |cons x _ ih=>
  intro zs h
  match zs,h with
  |z::t,h=>
   obtain ⟨zs',p1,p2,p3⟩:=ih (zs:=t) (by simpa using h);exact ⟨z::zs',p1.cons z,by rw [BZ,BZ];exact p2.cons _,by simp [p3]⟩
 |swap x y l=>
  intro zs h
  match zs,h with
  |z1::z2::t,h=>exact ⟨z2::z1::t,.swap ..,by rw [BZ,BZ,BZ,BZ];exact .swap ..,by simpa using h⟩
 |trans _ _ i1 i2=>
  intro zs h;obtain ⟨z2,a1,a2,a3⟩:=i2 h;obtain ⟨z1,b1,b2,b3⟩:=i1 a3;exact ⟨z1,b1.trans a1,b2.trans a2,b3⟩
theorem lk_mem {β:Type}{b:Addr}{z:β}:∀ {l:List (Addr×β)},l.lookup b=some z->(b,z)∈l
  |[],h=>by cases h
  |(a,y)::l,h=>by
    rw [De] at h;split at h
    · rename_i e;cases h;rw [Ek e];exact Ar ..
    · exact Ah _ (lk_mem h)
theorem mem_lk {β:Type}{b:Addr}{z:β}:∀ {l:List (Addr×β)},(l.map (·.1)).Nodup->(b,z)∈l->l.lookup b=some z
  |(a,y)::l,nd,h=>by
    rw [An] at nd;have nd':=Bo.mp nd;rw [De]
    rcases AA.mp h with e|hm
    · cases e;rw [beq_self_eq_true]
    · have ne:(b==a)=false:=by
        rw [beq_eq_false_iff_ne]
        rintro rfl
        exact nd'.1 (AH.mpr ⟨_,hm,rfl⟩)
      rw [ne];exact mem_lk nd'.2 hm
theorem nA {α β:Type}{R:α->β->Prop}:∀ {l:List α} {m:List β},Paired R l m->∀ {i:Nat} {a:α} {b:β},l[i]?=some a->m[i]?=some b->R a b
 |_,_,.nil,_,_,_,h,_=>by simp at h
 |_,_,.cons r t,0,_,_,h1,h2=>by
  simp at h1 h2;subst h1 h2;exact r
 |_,_,.cons r t,i+1,_,_,h1,h2=>nA t (i:=i) (by simpa using h1) (by simpa using h2)
def nmG (h:Heap):Value->Str
 |.ref a=>match h.get? a with
  |some o=>match o.data with
   |.seq xs _=>match xs.toList with
    |.str x _::_=>x
    |_=>⟨#[]⟩
   |_=>⟨#[]⟩
  |none=>⟨#[]⟩
 |_=>⟨#[]⟩
theorem xV (e:h.get? a=some { cls:=.type "tuple",data:=.seq #[.str x t,u] }):nmG h (.ref a)=x:=by
 unfold nmG;simp only [e]
def sorted_items {w:World}{r d:Addr}{ep:Nat}(hh:A.handled=none)(hv:s.heap.IsItemsView r d)(hm:s.heap.DictAt (bD P w) d vs ep)(rel:KV (zs.map λz=>(AR z.1,z.2)) vs)(nd:(zs.map (·.1)).Nodup)(h64:zs.length<64)(h:∀ (h':Heap) (tk:Nat) (as as':List Addr) (zs':List (Str×V)) (out:List Value),(∀ b o,s.heap.get? b=some o->h'.get? b=some o)->as.length=zs.length->as.Pairwise (·<·)->(∀ a∈as,s.heap.objs.size<a) ->
   (∀ a z,(a,z)∈as.zip zs->∃ t u,h'.get? a=some { cls:=.type "tuple",data:=.seq #[.str z.1 t,u] }/\RelV z.2 u)->zs'.Perm zs->(as'.zip zs').Perm (as.zip zs)->as'.length=zs'.length->out=as'.map AC->(zs'.Pairwise λu v=>u.1.cps.toList<v.1.cps.toList) ->
   Q (.ref h'.objs.size) { s with heap:=sortedHeap (h'.push (seqObj "list" (as.map AC).toArray 0)) h'.objs.size (as.map AC) out.toArray,toks:=tk }) :
  wpAny (model P w) A (call (.builtin "sorted") [.ref r]) Q E s:=by
 have vl:vs.length=zs.length:=by rw [<- rel.length,Af]
 refine Fm kind_sorted plain_sorted entry_sorted (args_sorted1 _) ?_;unfold AI.«sorted»;refine Aa (m:=checkCount "sorted" 1 1 _) (Ag ?_);refine Aa (PySem.W.kdx_collect (A:=A.in1) (knd:=bD P w) (kvs:=vs) (ep:=ep) hh hv hm (by rw [vl];exact bV (by omega)) λh' tk as hk hl hG=>?_);have al:as.length=zs.length:=hl.trans vl;have fc:∀ (j:Nat) a z,as[j]?=some a->zs[j]?=some z->∃ t u,h'.get? a=some { cls:=.type "tuple",data:=.seq #[.str z.1 t,u] }/\RelV z.2 u:=λj a z ha hz=>by
  obtain ⟨key,k,x,e1,e2,e3⟩:=hG.pairs j a ha;have ez:(zs.map λz=>((AR z.1:Key),z.2))[j]?=some (AR z.1,z.2):=by rw [Ao,hz];rfl
  obtain ⟨ek,er⟩:=nA rel ez e1;have ek':(AR z.1:Key)=k:=ek;subst ek';obtain ⟨t,rfl⟩:=Du (x:=z.1) (v:=key) e2;exact ⟨t,x,e3,er⟩
 have fz:∀ a z,(a,z)∈as.zip zs->∃ t u,h'.get? a=some { cls:=.type "tuple",data:=.seq #[.str z.1 t,u] }/\RelV z.2 u:=λa z m=>by
  obtain ⟨j,hj⟩:=Dr m;obtain ⟨h1,h2⟩:=Fp.mp hj;exact fc j a z h1 h2
 refine Aa (wpAny_newList ?_ (by rw [Af,al];exact bV (by omega)));have oL:(h'.push (seqObj "list" (as.map AC).toArray 0)).get? h'.objs.size=some (seqObj "list" (as.map AC).toArray 0):=Ai _ rfl;have nmz:as.map (λa=>nmG h' (.ref a))=zs.map (·.1):=by
  refine Ci λj=>?_;rw [Ao,Ao]
  by_cases lt:j<as.length
  ·have lt':j<zs.length:=by omega
   rw [Ac lt,Ac lt'];obtain ⟨t,u,e,_⟩:=fc j as[j] zs[j] (Ac lt) (Ac lt');rw [CT,CT,xV e]
  ·rw [Ax (by omega),Ax (by omega)]
   rfl
 have T':∀ v∈as.map AC,TS.Tp (h'.push (seqObj "list" (as.map AC).toArray 0)) (nmG h') v:=λv hv=>by
  obtain ⟨a,ha,rfl⟩:=AH.mp hv;obtain ⟨j,hj⟩:=Dr ha;have lt:j<zs.length:=by have:=(Ae.mp hj).1;omega
  obtain ⟨t,u,e,_⟩:=fc j a zs[j] hj (Ac lt);exact ⟨a,_,_,_,t,[u],rfl,Ad _ e,rfl,rfl,by rw [xV e]⟩
 have D:(as.map AC).Pairwise λu v=>nmG h' u≠nmG h' v:=by
  rw [Cw];have:=nd;rw [<- nmz] at this;exact Cw.mp this
 refine Aa (Bz (Bs slot_list_sort ⟨_,oL,rfl⟩ entry_list_sort (TS.sort_tup (nm:=nmG h') oL T' D (by rw [Af,al];exact h64) λout x1 x2=>⟨_,rfl,Ag ⟨_,rfl,?_⟩⟩) (args_list_sort _)));have er:∀ v∈out,v=.ref (adOf v):=λv hv=>by
  obtain ⟨b,_,rfl⟩:=AH.mp (x1.mem_iff.mp hv);rfl
 have eo:out=(out.map adOf).map AC:=by
  rw [Ca]
  conv=>lhs;rw [<- List.map_id out]
  exact Eg er
 have pm:(out.map adOf).Perm as:=by
  have:=x1.map adOf;rw [Ca,show (adOf ∘ AC)=id from rfl,List.map_id] at this;exact this
 obtain ⟨zs',p1,p2,p3⟩:=aA0 pm al;refine h h' tk as (out.map adOf) zs' out hk al hG.rise (λa ha=>hG.above a ha) fz p1 p2 p3 eo ?_;rw [eo] at x2;have x3:=Cw.mp x2;rw [Cy] at x3 ⊢;intro i j hi hj hij;have hi':i<(out.map adOf).length:=by omega
 have hj':j<(out.map adOf).length:=by omega
 have nz:∀ (i:Nat) (h1:i<(out.map adOf).length) (h2:i<zs'.length),nmG h' (.ref (out.map adOf)[i])=zs'[i].1:=λi h1 h2=>by
  have m:((out.map adOf)[i],zs'[i])∈(out.map adOf).zip zs':=by
   refine Al (i:=i) ?_;rw [Fp];exact ⟨Ac h1,Ac h2⟩
  obtain ⟨t,u,e,_⟩:=fz _ _ (p2.mem_iff.mp m);exact xV e
 have z:=x3 i j hi' hj' hij;have z':(nmG h' (.ref (out.map adOf)[i])).cps.toList<(nmG h' (.ref (out.map adOf)[j])).cps.toList:=z;rw [nz i hi' hi,nz j hj' hj] at z';exact z'
end TI
end L2
namespace L2
open PySem PySem.Spec PyProof.Rows
abbrev txK (zs:List (Str×V)):List (Key×V):=zs.map λz=>(AR z.1,z.2)
def tG (td:TE):TE:=λσ H Q=>td σ H λx H1=>∃ a zs,x=.ref a/\H1 a=some (.dK (txK zs))/\(zs.map (·.1)).Nodup/\zs.length<64 /\
 ∀ (p:Addr) (as:List Addr) (zs':List (Str×V)) (H':Hp),Same H1 H'->zs'.Perm zs->(zs'.Pairwise λu v=>u.1.cps.toList<v.1.cps.toList)->as.length=zs'.length ->
  (∀ a z,(a,z)∈as.zip zs'->H' a=some (.tup [.str z.1,z.2]))->H' p=some (.lst (as.map V.ref))->Q (.ref p) H'
def mY {X:Cx}{o:Expr}{td:TE}{p apos cpos pos:Pos}(hc:X.calm=true)(hg:Gl X "sorted")(hm:X.mg "sorted" = none)(ho:PE X o td)
  (hbase:EJ o "items" X.env (eval o X.env)=eval o X.env:=by rfl) (hline:(apos.endLine==cpos.line)=true:=by rfl)
  (hs3:AQ [Expr.Call (.Attribute o "items" apos) [] [] cpos] X.env=[(false,eval (.Call (.Attribute o "items" apos) [] [] cpos) X.env)]:=by rfl) :
  PE X (.Call (.Name "sorted" p) [.Call (.Attribute o "items" apos) [] [] cpos] [] pos) (tG td):=by
 intro pins s σ H Q I h;refine CQ (fS I hg hm boot_sorted (PyProof.Rows.callWith_builtin1 ?_ hs3 rfl));rw [hs3];show wpAny _ _ (spliced ((false,eval (.Call (.Attribute o "items" apos) [] [] cpos) X.env)::backTo pos [])) _ _ s;refine DF ?_;refine wpAny_Call_method0_late hbase hline (thn (ho pins s σ H _ I h) λv s1 ⟨x,H1,I1,r1,a,zs,ex,hH,nd,h64,q⟩=>?_);subst ex;cases r1;obtain ⟨z,lo,vs,rel,dd⟩:=uJ I1.hok hH;obtain ⟨t1,t2,_⟩:=aCy I1 (.inl ⟨_,.inl hH⟩);refine ⟨"dict","dict.items",Fu,PySem.F.slot_dict_items,PySem.F.type_dict_items,t1,t2,DE rfl (PySem.evalArgs_none ?_)⟩;refine call_meetsIn PySem.F.slot_dict_items t1 PySem.F.entry_dict_items (PySem.F.args_dict_items_1 _) (meets_dict_items (bD X.prog X.w) a lo) ⟨⟨vs,dd⟩,EC ?_⟩;have I2:Inv X pins σ H1 { s1 with heap:=s1.heap.push { cls:=.type "dict_items",data:=.fields #[.ref a] } }:=I1.kept (t':=s1.toks) λb o e=>Ad _ e;obtain ⟨z2,lo2,vs2,rel2,dd2⟩:=uJ I2.hok hH;obtain ⟨ep,hat⟩:=dd2.dictAt;refine TI.sorted_items (zs:=zs) (vs:=vs2) (ep:=ep) (I2.ok.hd hc) ⟨_,Ai _ rfl,rfl,rfl⟩ hat rel2 nd h64 λh' tk as as' zs' out keep al up ab fz p1 p2 p3 eo srt=>?_;have zk:((as.zip zs).map (·.1)).Nodup:=by
  rw [List.map_fst_zip (by omega)];exact up.imp λh e=>absurd (e▸h) (CA _)
 let g:Hp:=λb=>((as.zip zs).lookup b).map λz=>.tup [.str z.1,z.2]
 have gs:∀ b o,g b=some o->∃ z,(b,z)∈as.zip zs/\o=.tup [.str z.1,z.2]:=λb o e=>by
  obtain ⟨z,e1,e2⟩:=AO.mp e;exact ⟨z,TI.lk_mem e1,e2.symm⟩
 have gm:∀ b z,(b,z)∈as.zip zs->g b=some (.tup [.str z.1,z.2]):=λb z m=>by
  show ((as.zip zs).lookup b).map _=_;rw [TI.mem_lk zk m];rfl
 have I3:Inv X pins σ (lay H1 g) { s1 with heap:=h',toks:=tk }:=I2.laidL (t':=tk) keep (λb o e=>by
   obtain ⟨z,m,_⟩:=gs b o e;exact Nat.le_of_lt (ab b (En m).1)) λb o e=>by
   obtain ⟨z,m,rfl⟩:=gs b o e;obtain ⟨t,u,e1,e2⟩:=fz b z m;exact ⟨⟨zLn2,_,e1,rfl⟩,[.str z.1 t,u],.cons ⟨_,rfl⟩ (.cons e2 .nil),_,e1,rfl,_,rfl⟩
 have oL:(h'.push (seqObj "list" (as.map AC).toArray 0)).get? h'.objs.size=some (seqObj "list" (as.map AC).toArray 0):=Ai _ rfl;obtain ⟨e,he⟩:∃ e,(sortedHeap (h'.push (seqObj "list" (as.map AC).toArray 0)) h'.objs.size (as.map AC) out.toArray).get? h'.objs.size=some (seqObj "list" out.toArray e):=sortedHeap_at oL;have sm:Same H1 (lay H1 g):=λb o e=>by
  cases q:g b with
  |none=>rw [iL q];exact e
  |some u=>
   obtain ⟨z,m,_⟩:=gs b u q;rw [I2.hok.fresh (Nat.le_of_lt (ab b (En m).1))] at e;cases e
 have nL:lay H1 g h'.objs.size=none:=I3.hok.fresh (Aj _);refine ⟨.ref h'.objs.size,_,I3.laid (a:=h'.objs.size) (o:=.lst (as'.map V.ref)) (t':=tk) (λb o hb'=>?_) (Aj _) (rR (its:=out) (e:=e) (by rw [eo];exact mD as') ?_ he),rfl,q _ as' zs' _ (sm.trans (Same.upd nL)) p1 srt p3 (λb z m=>?_) aB⟩
 ·have lt:=Aq hb'
  rw [sortedHeap_old (As lt) (by rw [BL];exact Ck lt)];exact Ad _ hb'
 ·rw [Af,p3,p1.length_eq]
  exact bV (by omega)
 ·have m':=p2.mem_iff.mp m
  exact (Same.upd nL) _ _ (by rw [rV (gm b z m')])
end L2
namespace DX
open PySem PySem.Spec PyProof.Rows
def oN:typeLookup (.type "tuple") (CS "keys")=pure none:=am_miss_of_fast (by decide +kernel)
section
variable {P:Av}{w:World}{A:Around}{E:Value->Shared->Prop}{s:Shared}
def pW {k:Nat}{sl:Array (Option Value)}(ho:s.heap.get? a=some { cls:=.type "tuple",dict:=none,data:=.seq xs k,slots:=sl })(hh:A.handled=none)(h:∀ h' tk,(∀ b ob,s.heap.get? b=some ob->h'.get? b=some ob)->Q none { s with heap:=h',toks:=tk }):wpAny (model P w) A (getAttr? (.ref a) "keys") Q E s:=by
 have ty:s.TypeIs (.ref a) "tuple":=⟨_,ho,rfl⟩;unfold getAttr?;refine Aa (wpAny_mkText ?_);unfold getAttrBy?;refine Aa (DG ?_);unfold getAttrBy;refine Bz ?_;refine Aa (DY (T:="tuple") ⟨_,ho,rfl⟩ ?_);refine Aa (Eu Fw.lookup ?_);dsimp only;show wpAny _ _ (getAttrByItsOwn _ _ _ _ _ _) _ _ _;unfold getAttrByItsOwn;refine Aa (Eu (a:=none) rfl ?_);refine Aa (DG (Bz ?_));show wpAny _ _ (boundAndCalled _ _ _) _ _ _;unfold boundAndCalled;refine Aa (Eu (Fw.bind _) ?_);dsimp only;refine call_meets Fw ⟨_,ho,rfl⟩ am_entry_tuple_getattribute (F.args_tuple_getattribute_2 _ _) (meets_getattribute_miss_tuple a xs k sl "keys" _ oN (by decide +kernel)) ⟨ho,hh,λh' tk e ne=>?_⟩;show wpAny _ _ (getattributeRaised _ _ _ _ _ _ _) _ _ _;obtain ⟨t,u,he⟩:=ne.there;unfold getattributeRaised;refine Aa (Fh (T:="AttributeError") ⟨_,he,rfl⟩ sub_AttributeError ?_);rw [if_pos rfl];refine Aa (Eu am_tuple_getattr_none ?_);unfold hookOrError;dsimp only;unfold attributeErrorLeaves;refine Aa (wpAny_throw ?_);show wpAny _ _ (isInstance _ _ >>= _) _ _ _;refine Aa (Fh (T:="AttributeError") ⟨_,he,rfl⟩ sub_AttributeError ?_);rw [if_pos rfl];exact Ag (h h' tk ne.keeps)
end
section
variable {P:Av}{w:World}{K:Type}[DecidableEq K]{knd:KeyKind P w K}{A:Around}{R:Result->Shared->Prop}
def uR (hh:A.in1.handled=none)(d it l:Addr)(its:Array Value)(ps:List (K×Value))(hdi:d≠it)(hdl:d≠l)(hil:it≠l)(hl:ps.length=its.size)(hz:ps.length<=Au)(h0:Heap)(hL:h0.IsTuple l its)
  (hp:∀ (i:Nat) kv,ps[i]?=some kv->∃ z key,its[i]?=some (.ref z)/\knd.is kv.1 key=true/\z≠d/\z≠it/\TupAt h0 z key kv.2) :
  ∀ (n i:Nat) (s:Shared),its.size-i=n->i<=its.size->s.heap.IsTupleIter it l i->(∀ b o,b≠d->b≠it->h0.get? b=some o->s.heap.get? b=some o)->s.heap.DictOf knd d ((ps.take i).foldl (λacc kv=>stored acc kv.1 kv.2) [])->((ps.take i).foldl (λacc kv=>stored acc kv.1 kv.2) []).length<=i ->
   (∀ (h':Heap) (tk:Nat),(∀ b o,b≠d->b≠it->h0.get? b=some o->h'.get? b=some o)->h'.DictOf knd d (ps.foldl (λacc kv=>stored acc kv.1 kv.2) [])->R (.ok (.ret .none)) { s with heap:=h',toks:=tk }) ->
   Ew (model P w) A (.builtin "dict.update.loop" ⟨[.ref d,.ref it,rawInt i,.none],[]⟩) R s:=by
 intro n
 induction n with
 |zero=>
  intro i s hk hi st fr D len q;obtain rfl:i=its.size:=by omega
  refine CK nR ?_;rw [CJ gJ _];have hL':s.heap.IsTuple l its:=by
   obtain ⟨o,e,r⟩:=hL;exact ⟨o,fr l o (Bg hdl) (Bg hil) e,r⟩
  show wpAny _ A.in1 (pyNext (.ref it) >>= _) _ _ s;refine Aa (wpAny_pyNext_tuple_end hh st hL' (by simp) λh' eb=>?_);rw [EB (by omega)] at D;dsimp only;refine Aa (Eu (a:=()) rfl ?_);refine Ag (q h' s.toks (λb o b1 b2 e=>eb b o b2 (fr b o b1 b2 e)) ?_);obtain ⟨o,es,ep,ho,r⟩:=D;exact ⟨o,es,ep,eb d o hdi ho,r⟩
 |succ n ih=>
  intro i s hk hi st fr D len q;have lt:i<its.size:=by omega
  have hL':s.heap.IsTuple l its:=by
   obtain ⟨o,e,r⟩:=hL;exact ⟨o,fr l o (Bg hdl) (Bg hil) e,r⟩
  obtain ⟨kv,hkv⟩:∃ kv,ps[i]?=some kv:=⟨_,Ac (by omega)⟩;obtain ⟨z,key,e1,e2,z1,z2,tz⟩:=hp i kv hkv;refine CK nR ?_;rw [CJ gJ _];show wpAny _ A.in1 (pyNext (.ref it) >>= _) _ _ s;refine Aa (wpAny_pyNext_tuple_item st hL' e1 λh' st' sb=>?_);have fr1:∀ b o,b≠d->b≠it->h0.get? b=some o->h'.get? b=some o:=λb o b1 b2 e=>(sb.2 b b2).trans (fr b o b1 b2 e);have D1:h'.DictOf knd d ((ps.take i).foldl (λacc kv=>stored acc kv.1 kv.2) []):=by
   obtain ⟨o,es,ep,ho,r⟩:=D;exact ⟨o,es,ep,(sb.2 d hdi).trans ho,r⟩
  have tz1:TupAt h' z key kv.2:=by
   obtain ⟨o,m,ho,r⟩:=tz;exact ⟨o,m,fr1 z o z1 z2 ho,r⟩
  dsimp only;refine Aa (Bz ?_);refine Aa (wpAny_tryCatch (lR tz1 ?_));dsimp only;refine Bz (wpAny_dictSet_pairs e2 D1 (λh2 D2 sb2=>?_) (by omega));have et:ps.take (i+1)=ps.take i++[kv]:=by rw [CU,hkv];rfl
  refine Ag ⟨EI gJ _,?_⟩;have D3:h2.DictOf knd d ((ps.take (i+1)).foldl (λacc kv=>stored acc kv.1 kv.2) []):=by
   rw [et,List.foldl_append];exact D2
  have len3:((ps.take (i+1)).foldl (λacc kv=>stored acc kv.1 kv.2) []).length<=i+1:=by
   rw [et,List.foldl_append];have:=tH ((ps.take i).foldl (λacc kv=>stored acc kv.1 kv.2) []) kv.1 kv.2;show (stored _ kv.1 kv.2).length<=i+1;omega
  refine ih (i+1) _ (by omega) lt ?_ (λb o b1 b2 e=>(sb2.2 b b1).trans (fr1 b o b1 b2 e)) D3 len3 λh3 tk f3 d3=>q h3 tk f3 d3;obtain ⟨o,e,r⟩:=st';exact ⟨o,(sb2.2 it (Bg hdi)).trans e,r⟩
end
section
variable {P:Av}{w:World}{K:Type}[DecidableEq K]{knd:KeyKind P w K}{A:Around}{E:Value->Shared->Prop}{s:Shared}
def call_dict_tup {l:Addr}{its:Array Value}{n:Nat}{sl:Array (Option Value)}{ps:List (K×Value)}{Q:Value->Shared->Prop}(hh:A.handled=none)(hl:s.heap.get? l=some { cls:=.type "tuple",dict:=none,data:=.seq its n,slots:=sl })(hz:ps.length<=Au)(hlen:ps.length=its.size)
  (hp:∀ (i:Nat) kv,ps[i]?=some kv->∃ z key,its[i]?=some (.ref z)/\knd.is kv.1 key=true/\TupAt s.heap z key kv.2)
  (h:∀ (h':Heap) (tk:Nat),(∀ b o,s.heap.get? b=some o->h'.get? b=some o)->h'.DictOf knd s.heap.objs.size (ps.foldl (λacc kv=>stored acc kv.1 kv.2) [])->Q (.ref s.heap.objs.size) { s with heap:=h',toks:=tk }) :
  wpAny (model P w) A (call (.type "dict") [.ref l]) Q E s:=by
 obtain ⟨c,tl,hmro⟩:=CO.mro;have hmade:=CO.made;have hsub:=CO.sub;refine Ez (Ft ?_);show wpAny _ _ (callAny (.type "dict") _) _ _ _;refine Ag ⟨Es _ (by decide +kernel),CK F.entry_type_call ?_⟩;rw [Around.under_plain (weight_type_call_type "dict" [.ref l] []) rfl];have h1:=CO.notType;have h2:=CO.canCreate;have hct:=F.kt_typeCall_dict_1 (.ref l)
 repeat (any_goals (first|assumption|wp_step))
 refine Cn (kt_code_dict_new (.ref l) (E:=E) (Q₁:=λobj s1=>obj=.ref s.heap.objs.size/\s1={ s with heap:=s.heap.push nuD }) ⟨rfl,rfl⟩) λr s1 hr=>?_;cases r with
 |error e=>exact hr
 |ok fl=>
  cases fl with
  |ret obj=>
   obtain ⟨rfl,rfl⟩:=hr;have hS:(s.heap.push nuD).get? s.heap.objs.size=some nuD:=Ai _ rfl;have hT:Shared.TypeIs { s with heap:=s.heap.push nuD } (.ref s.heap.objs.size) "dict":=⟨_,hS,rfl⟩;have hli:=CO.init.lookup;have hbi:=CO.init.bind (.ref s.heap.objs.size)
   repeat (any_goals (first|assumption|wp_step))
   refine Cn (Eh (R:=wants (λr s2=>r=.none/\∃ h' tk,s2={ s with heap:=h',toks:=tk }/\h'.DictOf knd s.heap.objs.size (ps.foldl (λacc kv=>stored acc kv.1 kv.2) [])/\(∀ b o,s.heap.get? b=some o->h'.get? b=some o)) E) CO.init.plain F.entry_dict_init (CO.init.check _ _ _ _ _ _ _ _ hT (F.args_dict_init_2 _ _) ?_)) λr2 s2 hr2=>?_
   ·have hl1:(s.heap.push nuD).get? l=some { cls:=.type "tuple",dict:=none,data:=.seq its n,slots:=sl }:=Ad _ hl
    have hlS:l<s.heap.objs.size:=Aq hl;have hz1:(s.heap.push nuD).objs.size=s.heap.objs.size+1:=BL ..;show wpAny _ _ (AI.Dict.selfAndRest "__init__" ⟨[.ref s.heap.objs.size,.ref l],[]⟩ >>= _) _ _ _;refine Aa ?_;unfold AI.Dict.selfAndRest AI.Dict.notOrdered;rw [if_pos (by decide +kernel)];refine Aa (Aa (DY (T:="dict") hT ?_));rw [if_neg (by decide +kernel)];refine Ag ?_;refine Aa (Eu (a:=s.heap.objs.size) rfl (Ag ?_));show wpAny _ _ (AI.Dict.updateFrom "dict.__init__" s.heap.objs.size (.ref l) [] .none) _ _ _;unfold AI.Dict.updateFrom;refine Aa (DY (T:="tuple") ⟨_,hl1,rfl⟩ ?_);rw [if_pos (by decide +kernel)];refine Aa (pW hl1 (by simp [hh]) λh3 tk3 k3=>?_);rw [if_pos (show (none:Option Value).isNone=true from rfl)];refine Aa (Dz ?_);have hl3:h3.get? l=some { cls:=.type "tuple",dict:=none,data:=.seq its n,slots:=sl }:=k3 _ _ hl1;have hL3:h3.IsTuple l its:=⟨_,hl3,rfl,n,rfl⟩;refine Aa (EG hL3 ?_);have hd3:h3.get? s.heap.objs.size=some nuD:=k3 _ _ hS;have dlt:=Aq hd3;have llt:=Aq hl3;have old:∀ b o,s.heap.get? b=some o->(h3.push { cls:=.type "tuple_iterator",data:=.fields #[.ref l,.int 0 0] }).get? b=some o/\b≠s.heap.objs.size/\b≠h3.objs.size:=λb o e=>by
     have e3:=k3 _ _ (Ad nuD e);exact ⟨Ad _ e3,As (Aq e),As (Aq e3)⟩
    refine Ag ⟨EI gJ _,uR (knd:=knd) (by simp [hh]) s.heap.objs.size h3.objs.size l its ps (As dlt) (Dw hlS) (Dw llt) hlen hz (h3.push { cls:=.type "tuple_iterator",data:=.fields #[.ref l,.int 0 0] }) ⟨_,(old l _ hl).1,rfl,n,rfl⟩ (λi kv hkv=>?_) its.size 0 _ (by omega) (Bi _) ⟨_,Ai _ rfl,rfl,rfl⟩ (λb o _ _ e=>e) ?_ (Aj _) λh' tk fr D=>⟨rfl,h',tk,rfl,D,λb o e=>fr b o (old b o e).2.1 (old b o e).2.2 (old b o e).1⟩⟩
    ·obtain ⟨z,key,e1,e2,o,m,e3,e4⟩:=hp i kv hkv
     exact ⟨z,key,e1,e2,(old z o e3).2.1,(old z o e3).2.2,o,m,(old z o e3).1,e4⟩
    ·exact ⟨nuD,#[],0,Ad _ hd3,⟨rfl,rfl,rfl⟩,rfl,(λe he=>by simp at he),.nil,Ea⟩
   ·cases r2 with
    |error e=>exact hr2
    |ok f2=>
     cases f2 with
     |ret r=>
      obtain ⟨rfl,h',tk,rfl,S',hk'⟩:=hr2
      repeat (any_goals (first|assumption|wp_step))
      exact h _ _ hk' S'
     |_=>exact hr2.elim
  |_=>exact hr.elim
end
end DX
namespace L2
open PySem PySem.Spec PyProof.Rows
section
variable {X:Cx}
def aGw:List V->Hp->VK->Prop:=λxs H Q=>∃ (a:Addr) (us:List V) (kvs:List (Key×V)),xs=[.ref a]/\H a=some (.tup us)/\us.length=kvs.length/\(kvs.map (·.1)).Nodup /\
 (∀ (i:Nat) u kv,us[i]?=some u->kvs[i]?=some kv->∃ z,u=.ref z/\H z=some (.tup [kV kv.1,kv.2]))/\∀ p,H p=none->Q (.ref p) (upd H p (.dK kvs))
def kX (hc:X.calm=true):fG X (.type "dict") (aGw):=by
 intro pins s σ H xs us' Q I r h;obtain ⟨a,us,kvs,rfl,hH,hl,nd,hp,q⟩:=h;obtain ⟨u,rfl,rx⟩:=vals1 r;cases rx;obtain ⟨⟨z,nd0⟩,its,rv,ob,e0,e1,n,e2⟩:(us.length<=Au/\NoD s.heap a)/\∃ its:List Value,Vals us its/\PyProof.Rows.IsTup s.heap a its.toArray:=I.hok a _ hH;obtain ⟨oc,od,odt,osl⟩:=ob;have e3:od=none:=nd0.at e0;have e1':oc=.type "tuple":=e1;have e2':odt=.seq its.toArray n:=e2;subst e3 e1' e2';have e:=e0;have vl:=rv.length;have at':∀ (i:Nat) kv,kvs[i]?=some kv->∃ z key v,its[i]?=some (.ref z)/\RelV (kV kv.1) key/\RelV kv.2 v/\DX.TupAt s.heap z key v:=λi kv hkv=>by
  have hi:=(Ae.mp hkv).1;obtain ⟨u,hu⟩:∃ u,us[i]?=some u:=⟨_,Ac (by omega)⟩;obtain ⟨z,rfl,hz⟩:=hp i u kv hu hkv;obtain ⟨v,hv,ru⟩:=rv.get hu;cases ru;obtain ⟨_,ts,rt,o,ho,hc',m,hd⟩:_/\∃ ts,Vals [kV kv.1,kv.2] ts/\s.heap.IsTuple z ts.toArray:=I.hok z _ hz;obtain ⟨k1,v1,rfl,r1,r2⟩:=vals2 rt;exact ⟨z,k1,v1,hv,r1,r2,o,m,ho,hc',hd⟩
 obtain ⟨vs,kvr,vat⟩:∃ vs:List (Key×Value),KV kvs vs/\∀ (i:Nat) kv,vs[i]?=some kv->∃ z key,its.toArray[i]?=some (.ref z)/\(bD X.prog X.w).is kv.1 key=true/\DX.TupAt s.heap z key kv.2:=by
  have key:∀ (kvs:List (Key×V)) (j:Nat),(∀ (i:Nat) kv,kvs[i]?=some kv->∃ z key v,its[j+i]?=some (.ref z)/\RelV (kV kv.1) key/\RelV kv.2 v/\DX.TupAt s.heap z key v)->∃ vs:List (Key×Value),KV kvs vs/\∀ (i:Nat) kv,vs[i]?=some kv->∃ z key,its.toArray[j+i]?=some (.ref z)/\(bD X.prog X.w).is kv.1 key=true/\DX.TupAt s.heap z key kv.2:=by
   intro kvs
   induction kvs with
   |nil=>exact λj _=>⟨[],.nil,λi kv h=>by simp at h⟩
   |cons kv r ih=>
    intro j h;obtain ⟨vs,a1,a2⟩:=ih (j+1) λi kv hk=>by
     have:=h (i+1) kv (by simpa using hk);rwa [show j+(i+1)=j+1+i by omega] at this
    obtain ⟨z,key,v,b1,b2,b3,b4⟩:=h 0 kv rfl;refine ⟨(kv.1,v)::vs,.cons ⟨rfl,b3⟩ a1,λi kw hk=>?_⟩;cases i with
    |zero=>
     cases (show some (kv.1,v)=some kw from hk);exact ⟨z,key,by simpa using b1,uC b2,b4⟩
    |succ i=>
     have:=a2 i kw (by simpa using hk);rwa [show j+(i+1)=j+1+i by omega]
  obtain ⟨vs,a1,a2⟩:=key kvs 0 λi kv hk=>by rw [Nat.zero_add];exact at' i kv hk
  exact ⟨vs,a1,λi kv hk=>by have:=a2 i kv hk;rwa [Nat.zero_add] at this⟩
 have kl:=kvr.length;refine DX.call_dict_tup (knd:=bD X.prog X.w) (I.ok.hd hc) e (ps:=vs) (by omega) (by rw [Ak];omega) vat λh' tk k3 D=>?_;have rel:=yD kvr (acc:=[]) (bcc:=[]) .nil;rw [sL kvs [] nd (λ_ _ _ h=>nomatch h),List.nil_append] at rel;exact ⟨.ref _,_,I.laid (a:=s.heap.objs.size) (o:=.dK kvs) (t':=tk) k3 (Aj _) ⟨by omega,beq_eq_false_iff_ne.mpr (Bg (As I.big)),_,rel,D⟩,rfl,q _ (I.hok.fresh (Aj _))⟩
end
def aF8 (K:Ab)(ta:TE):TE:=λσ H Q=>ta σ H λv H1=>∃ a x y,v=.ref a/\SqT K H1 a [.str x,.str y]/\(∀ c∈x.cps.toList,c<16^8)/\(∀ c∈y.cps.toList,c<16^8)/\x.length<=20/\y.length<=20 /\
 ∀ z:Str,z.length<=500->Q (.str z) H1
def aGi (x y:Str):(PyData.tuple [.str x,.str y]).shown.length=(Fb x).length+(Fb y).length+4:=by
 have e:(PyData.tuple [.str x,.str y]).shown=tupleText [Fb x,Fb y]:=by
  simp only [PyData.shown,PyData.shownAll]
 rw [e];have j:=join_length_add [Fb x,Fb y] (by simp);unfold tupleText;have p:piled [Fb x,Fb y]=(Fb x).length+2+((Fb y).length+2):=by simp [piled]
 have c:(if ([Fb x,Fb y].length==1)=true then (",)":String) else ")") = ")":=rfl
 rw [c];have l1:(("(":Str)).length=1:=by decide +kernel
 have l2:(((")":String):Str)).length=1:=by decide +kernel
 rw [Str.length_append,Str.length_append];rw [l1];have l2':(CS ")").length=1:=l2
 rw [l2'];omega
def aEn {k:Nat}(hr:Room k X.A)(ha:PE X value ta):PE X (.FormattedValue value (-1) none pos) (aF8 X.K ta):=by
 intro pins s σ H Q I h;refine FormattedValue_plain (thn (ha pins s σ H _ I h) λu s1 ⟨v,H1,I1,rv,a,x,y,ev,sq,cx,cy,lx,ly,q⟩=>?_);subst ev;cases rv;obtain ⟨its,r,⟨o,ho,hc,n,hd⟩,hz⟩:=I1.tuple sq;obtain ⟨u1,u2,rfl,⟨t1,rfl⟩,⟨t2,rfl⟩⟩:=vals2 r;have rd:Reads s1.heap (.ref a) (.tuple [.str x,.str y]) ([]++([]++[])):=.tuple ho hc hd (.cons (.str x t1) (.cons (.str y t2) .nil));have b1:=StrLaws.reprText_len x cx;have b2:=StrLaws.reprText_len y cy;have sl:=aGi x y;have un:=hr.units;refine formatField_of_reads rd (by simp [PyData.showable,PyData.showableAll]) (λ_ h=>by simp at h) hr.gd (by simp only [PyData.depth,PyData.depthAll];omega) (λ_ _ e=>e) (λh' u tk k=>⟨.str _,H1,I1.kept (t':=tk) k,⟨_,rfl⟩,q _ (by omega)⟩) (by rw [sl];exact AU (show _<=448 by omega) (by decide))
end L2
namespace K52
open PySem PySem.Spec PyProof.Rows L2 GM TM
abbrev sE0:Stmt:=inClass (top 5) 0
abbrev sE1:Stmt:=inClass (top 7) 0
abbrev sE2:Stmt:=inClass (top 6) 0
abbrev sE3:Stmt:=inClass (top 8) 0
abbrev sE4:Stmt:=inClass (top 9) 0
abbrev aCm:Stmt:=inClass (top 33) 0
abbrev vP:Stmt:=inClass (top 33) 1
abbrev aCl:Stmt:=inClass (top 34) 0
abbrev vO:Stmt:=inClass (top 34) 1
abbrev aCk:Stmt:=inClass (top 35) 0
abbrev jB:Stmt:=inClass (top 35) 1
abbrev vU:Stmt:=inClass (top 36) 0
abbrev pD:Stmt:=inClass (top 36) 1
abbrev vT:Stmt:=inClass (top 37) 0
abbrev pC:Stmt:=inClass (top 37) 1
structure Er1 (K:Ab)(cP c f:Addr)(fs:List Str):Prop where
 e:∀ x∈fs,ExF K c cP f x
 s:PySem.W.subIn K (.ref c) (.ref cP)=some true
structure ErB (K:Ab)(mg:Str->Option Value)(cP c0 c1 c2 c3 c4 f0 f1 f2 f3 f4:Addr):Prop where
 ct:CtK K cP
 bi:BaseI K cP
 mP:mg "PhialError" = some (.ref cP)
 r0:Er1 K cP c0 f0 ["place","phial"]
 r1:Er1 K cP c1 f1 ["place","phial"]
 r2:Er1 K cP c2 f2 ["place","phial"]
 r3:Er1 K cP c3 f3 ["place","phial","over"]
 r4:Er1 K cP c4 f4 ["place","phial","pair"]
 m0:mg "Dry" = some (.ref c0)
 m1:mg "Low" = some (.ref c1)
 m2:mg "Wet" = some (.ref c2)
 m3:mg "Spilt" = some (.ref c3)
 m4:mg "Touch" = some (.ref c4)
def zY (e c:Addr)(fl:List (Str×V))(H:Hp)(Q:VK):Prop:=∀ dx H',dx≠e->(∀ p o,p≠e->H p=some o->H' p=some o)->H' e=some (exN e c (some dx))->H' dx=some (xdE dx fl)->Q .non H'
def spI2 (c:Addr):Sp:=λvs H Q _=>∃ (e:Addr) (n p:Nat),vs=[.ref e,.int (n:Nat),.int (p:Nat)]/\n<1000/\p<1000/\H e=some (exN e c none)/\zY e c [("phial",.int (p:Nat)),("place",.int (n:Nat))] H Q
def spI3 (c:Addr):Sp:=λvs H Q _=>∃ (e:Addr) (n p:Nat) (u:V),vs=[.ref e,.int (n:Nat),.int (p:Nat),u]/\n<1000/\p<1000/\H e=some (exN e c none)/\zY e c [("over",u),("phial",.int (p:Nat)),("place",.int (n:Nat))] H Q
def aDp (K:Ab)(c:Addr):Sp:=λvs H Q _=>∃ (e a:Addr) (n p:Nat) (x y:Str),vs=[.ref e,.int (n:Nat),.int (p:Nat),.ref a]/\n<1000/\p<1000/\SqT K H a [.str x,.str y]/\Wr x/\Wr y/\H e=some (exN e c none)/\zY e c [("pair",.ref a),("phial",.int (p:Nat)),("place",.int (n:Nat))] H Q
def BadE (c:Addr)(fl:List (Str×V))(H:Hp)(E:XK):Prop:=∀ dx H',Same H H'->H' dx=some (xdE dx fl)->E (.ref c) (some dx) H'
def BadE.mono {c:Addr}{fl:List (Str×V)}{H H1:Hp}{E:XK}(h:BadE c fl H E)(s:Same H H1):BadE c fl H1 E:=λdx H' s' hd=>h dx H' (s.trans s') hd
def pV {e c:Addr}{fl:List (Str×V)}{H:Hp}{E:XK}(he:H e=none)(h:BadE c fl H E):zY e c fl (upd H e (exN e c none)) (λv H2=>v=.non/\∃ dd,H2 e=some (exN e c dd)/\E (.ref c) dd (rem H2 e)):=λdx H' ne sm hE hd=>by
 refine ⟨rfl,some dx,hE,h dx _ (λp o hp=>?_) (by rw [mS ne];exact hd)⟩;have n1:p≠e:=λz=>by rw [z,he] at hp;cases hp
 rw [mS n1];exact sm p o n1 (by rw [aI n1];exact hp)
abbrev zX (c:Addr)(vs:List V)(sp:Sp)(H:Hp)(E:XK):Prop:=vs.length<=Au/\∀ e,H e=none->sp (.ref e::vs) (upd H e (exN e c none)) (λv H2=>v=.non/\∃ dd,H2 e=some (exN e c dd)/\E (.ref c) dd (rem H2 e)) E0
def wA {c:Addr}{n p:Nat}{H:Hp}{E:XK}(hn:n<1000)(hp:p<1000)(h:BadE c [("phial",.int (p:Nat)),("place",.int (n:Nat))] H E):zX c [.int (n:Nat),.int (p:Nat)] (spI2 c) H E:=
 ⟨zLn2,λe he=>⟨e,n,p,rfl,hn,hp,aB,pV he h⟩⟩
def aGu {c:Addr}{n p:Nat}{u:V}{H:Hp}{E:XK}(hn:n<1000)(hp:p<1000)(h:BadE c [("over",u),("phial",.int (p:Nat)),("place",.int (n:Nat))] H E):zX c [.int (n:Nat),.int (p:Nat),u] (spI3 c) H E:=
 ⟨zLn3,λe he=>⟨e,n,p,u,rfl,hn,hp,aB,pV he h⟩⟩
def aEd {K:Ab}{c a:Addr}{n p:Nat}{x y:Str}{H:Hp}{E:XK}(hn:n<1000)(hp:p<1000)(sq:H a=some (.tup [.str x,.str y]))(wx:Wr x)(wy:Wr y)(h:BadE c [("pair",.ref a),("phial",.int (p:Nat)),("place",.int (n:Nat))] H E):zX c [.int (n:Nat),.int (p:Nat),.ref a] (aDp K c) H E:=
 ⟨zLn3,λe he=>⟨e,a,n,p,x,y,rfl,hn,hp,SqT.of ((Same.upd he) _ _ sq),wx,wy,aB,pV he h⟩⟩
def MdE (e c:Addr)(fl:List (Str×V))(H0 H:Hp):Prop:=∃ dx,H0 dx=none/\dx≠e/\(∀ p o,p≠e->H0 p=some o->H p=some o)/\H e=some (exN e c (some dx))/\H dx=some (xdE dx fl)
def eI {K:Ab}{cP c f e:Addr}{n:V}{tj:TJ}{t:TS}{D:Ends}{σ:L2.St}{H:Hp}(F:ExF K c cP f "place")(h0:σ[0]?=some (some (.ref e)))(h1:σ[1]?=some (some n))(he:H e=some (exN e c none))(hj:∀ Q:Str->Hp->Prop,(∀ z,Q z H)->tj Str.empty σ H Q)
  (k:∀ H',MdE e c [("place",n)] H H'->t D σ H'):tSeq (aF9 (aCd K cP (aAj (tVar 0) (aAj (aF7 tj) tNil)))) (tSeq (sExN K c cP f (tVar 0) (tVar 1) "place") t) D σ H:=
 ⟨_,h0,hj _ λz=>⟨e,c,none,f,z,rfl,he,F.i,_,h1,_,h0,e,rfl,he,F,λdx hd ne=>k _ ⟨dx,hd,ne,λp o n1 hp=>by
  rw [aI (λz=>by rw [z,hd] at hp;cases hp),aI n1];exact hp,by rw [aI (Bg ne),aB],aB⟩⟩⟩
def eM {K:Ab}{cP c f e:Addr}{v:V}{x:Str}{i:Nat}{fl:List (Str×V)}{D:Ends}{σ:L2.St}{H0 H:Hp}(F:ExF K c cP f x)(h0:σ[0]?=some (some (.ref e)))(hi:σ[i]?=some (some v))(l:fl.length<=90)(m:MdE e c fl H0 H)(k:∀ H',MdE e c ((x,v)::fl) H0 H'->D.nx σ H'):sExM K c cP f (tVar 0) (tVar i) x D σ H:=by
 obtain ⟨dx,nd,ne,sm,h1,h2⟩:=m;refine ⟨_,hi,_,h0,e,dx,fl,rfl,h1,h2,l,F,k _ ⟨dx,nd,ne,λp o n1 hp=>?_,by rw [aI (Bg ne)];exact h1,aB⟩⟩;rw [aI (λz=>by rw [z,nd] at hp;cases hp)];exact sm p o n1 hp
theorem MdE.go {e c:Addr}{fl:List (Str×V)}{H0 H:Hp}{Q:VK}(m:MdE e c fl H0 H)(k:zY e c fl H0 Q):Q .non H:=by
 obtain ⟨dx,_,ne,sm,h1,h2⟩:=m;exact k dx H ne sm h1 h2
def fs3 (f1 f2 f3:Str)(u1 u2 u3:V):List (Str×V):=putF f3 u3 (putF f2 u2 (putF f1 u1 []))
def fs1 (f1:Str)(u1:V):List (Str×V):=putF f1 u1 []
def kA (C:Addr)(f1 f2 f3:Str):Sp:=λvs H Q _=>∃ (p dx:Addr) (u1 u2 u3:V),vs=[.ref p,u1,u2,u3]/\H p=some (.ins C dx [])/\∀ H',(∀ b o,b≠p->H b=some o->H' b=some o)->H' p=some (.ins C dx (fs3 f1 f2 f3 u1 u2 u3))->Q .non H'
def oR (C:Addr)(f1:Str):Sp:=λvs H Q _=>∃ (p dx:Addr) (u1:V),vs=[.ref p,u1]/\H p=some (.ins C dx [])/\∀ H',(∀ b o,b≠p->H b=some o->H' b=some o)->H' p=some (.ins C dx (fs1 f1 u1))->Q .non H'
theorem rT (f:Str)(v:V):∀ fs:List (Str×V),(putF f v fs).length<=fs.length+1
  |[]=>Aj _
  |(g,x)::r=>by
    unfold putF;split
    · exact Dq _
    · exact Nat.succ_le_succ (rT f v r)
def aFk {f1 f2 f3:Str}{u1 u2 u3:V}(n3:f1≠f3)(n2:f1≠f2):(fs3 f1 f2 f3 u1 u2 u3).lookup f1=some u1:=by
 unfold fs3;rw [bG,if_neg n3,bG,if_neg n2,bG,if_pos rfl]
def aFj {f1 f2 f3:Str}{u1 u2 u3:V}(n3:f2≠f3):(fs3 f1 f2 f3 u1 u2 u3).lookup f2=some u2:=by
 unfold fs3;rw [bG,if_neg n3,bG,if_pos rfl]
def aFi {f1 f2 f3:Str}{u1 u2 u3:V}:(fs3 f1 f2 f3 u1 u2 u3).lookup f3=some u3:=by
 unfold fs3;rw [bG,if_pos rfl]
def yP {f1 f2 f3 m:Str}{u1 u2 u3:V}(n1:m≠f1)(n2:m≠f2)(n3:m≠f3):(fs3 f1 f2 f3 u1 u2 u3).lookup m=none:=by
 unfold fs3;rw [bG,if_neg n3,bG,if_neg n2,bG,if_neg n1];rfl
def yQ {f1:Str}{u1:V}:(fs1 f1 u1).lookup f1=some u1:=by
 unfold fs1;rw [bG,if_pos rfl]
def aCz {f1 m:Str}{u1:V}(n1:m≠f1):(fs1 f1 u1).lookup m=none:=by
 unfold fs1;rw [bG,if_neg n1];rfl
structure DCl (K:Ab)(C:Addr)(fs:List Str):Prop where
 cl:Cls K C
 na:∀ f∈fs,NoAttr K C f
section
variable {P:Av}{w:World}{K:Ab}{mg:Str->Option Value}{base:Heap}{cP c0 c1 c2 c3 c4 f0 f1 f2 f3 f4 C:Addr}{f:Addr}{fd:Az}
theorem cpsT (t:Nat):cps ((toString (t:Int):String):Str)=dg t:=PySem.W.KIN.signs_num t
def logT {t:Nat}(h:t<10^60):((t:Int)).natAbs.log2<1920:=by
 rw [Int.natAbs_natCast]
 by_cases z:t=0
 ·subst z
  decide
 ·exact (Nat.log2_lt z).mpr (Ej h (by decide +kernel))
def aEc {n:Nat}(h:n<1000):((toString (n:Int):String):Str).length<=60:=by
 rw [lenC,cpsT];exact aH4 (Ej h (by decide +kernel))
def mH {x:Str}(h:Wr x):∀ c∈x.cps.toList,c<16^8:=λc hc=>by
 exact Dl (h.lt c hc).2 (by decide)
def jN {i n:Nat}{b:Str}{r:TJ}{acc:Str}{σ:L2.St}{H:Hp}{Q:Str->Hp->Prop}{m j:Nat}(la:acc.length<=m)(hj:m+b.length+120<=j/\j<=900)(hi:σ[i]?=some (some (.int (n:Nat))))(hn:n<1000)(k:∀ z:Str,z.length<=j->r z σ H Q):uD (tC (.str b)) (uD (tFmt (tVar i)) r) acc σ H Q:=by
 have hl:=aEc hn;obtain ⟨hj,j1⟩:=hj;refine ⟨_,rfl,?_,_,hi,_,⟨logT (Ej hn (by decide +kernel)),rfl⟩,_,rfl,?_,k _ ?_⟩
 ·rw [lenA];exact bV (by omega)
 ·rw [lenA,lenA];exact bV (by omega)
 ·rw [lenA,lenA];omega
def jE {b:Str}{acc:Str}{σ:L2.St}{H:Hp}{Q:Str->Hp->Prop}{m:Nat}(la:acc.length<=m)(l':m+b.length<=1000)(k:∀ z,Q z H):uD (tC (.str b)) jNil acc σ H Q:=
 have l:acc.length+b.length<=1000:=by omega
 ⟨_,rfl,by rw [lenA];exact bV l,by rw [lenA];exact bV l,k _⟩
def scE0:FnScope ["self","place","phial"] ["self","place","phial"] (aG sE0):=fnScOk (by decide +kernel)
def aI7 (F:Fun K "__init__" "Dry.__init__" sE0 f fd)(R:ErB K mg cP c0 c1 c2 c3 c4 f0 f1 f2 f3 f4):FnOk P w K mg base CX0 1 f fd ["self","place","phial"] (spI2 c0):=by
 refine F.ok scE0 (λvs H Q E h=>?_) (λcdv A outer s H vs Q E hr h=>?_)
 ·obtain ⟨_,_,_,e,_⟩:=h
  rw [e];rfl
 ·obtain ⟨e,n,p,rfl,hn,hp,he,k⟩:=h
  exact ⟨_,aD (dJ (gL rfl R.mP R.bi (aA (pv 0) (aA (jI (bI aT (bI (fZ (pv 1)) (bI aT (bI (fZ (pv 2)) (bI aT mW)))))) aC)))) (aD (mU (C:=c0) (P:=cP) (f:=f0) rfl (pv 0) (pv 1) rfl) (aE (jD (C:=c0) (P:=cP) (f:=f0) (pv 0) (pv 2) rfl))),eI (R.r0.e _ (by simp)) rfl rfl he (λ_ k=>jN (m:=0) (j:=160) (by decide) (by decide +kernel) rfl hn λz hz=>jN (j:=320) hz (by decide +kernel) rfl hp λz hz=>jE hz (by decide +kernel) k) λ_ m=>eM (R.r0.e _ (by simp)) rfl rfl (by simp) m λ_ m=>m.go k⟩
def scE1:FnScope ["self","place","phial"] ["self","place","phial"] (aG sE1):=fnScOk (by decide +kernel)
def aI6 (F:Fun K "__init__" "Low.__init__" sE1 f fd)(R:ErB K mg cP c0 c1 c2 c3 c4 f0 f1 f2 f3 f4):FnOk P w K mg base CX0 1 f fd ["self","place","phial"] (spI2 c1):=by
 refine F.ok scE1 (λvs H Q E h=>?_) (λcdv A outer s H vs Q E hr h=>?_)
 ·obtain ⟨_,_,_,e,_⟩:=h
  rw [e];rfl
 ·obtain ⟨e,n,p,rfl,hn,hp,he,k⟩:=h
  exact ⟨_,aD (dJ (gL rfl R.mP R.bi (aA (pv 0) (aA (jI (bI aT (bI (fZ (pv 1)) (bI aT (bI (fZ (pv 2)) (bI aT mW)))))) aC)))) (aD (mU (C:=c1) (P:=cP) (f:=f1) rfl (pv 0) (pv 1) rfl) (aE (jD (C:=c1) (P:=cP) (f:=f1) (pv 0) (pv 2) rfl))),eI (R.r1.e _ (by simp)) rfl rfl he (λ_ k=>jN (m:=0) (j:=160) (by decide) (by decide +kernel) rfl hn λz hz=>jN (j:=320) hz (by decide +kernel) rfl hp λz hz=>jE hz (by decide +kernel) k) λ_ m=>eM (R.r1.e _ (by simp)) rfl rfl (by simp) m λ_ m=>m.go k⟩
def scE2:FnScope ["self","place","phial"] ["self","place","phial"] (aG sE2):=fnScOk (by decide +kernel)
def aI5 (F:Fun K "__init__" "Wet.__init__" sE2 f fd)(R:ErB K mg cP c0 c1 c2 c3 c4 f0 f1 f2 f3 f4):FnOk P w K mg base CX0 1 f fd ["self","place","phial"] (spI2 c2):=by
 refine F.ok scE2 (λvs H Q E h=>?_) (λcdv A outer s H vs Q E hr h=>?_)
 ·obtain ⟨_,_,_,e,_⟩:=h
  rw [e];rfl
 ·obtain ⟨e,n,p,rfl,hn,hp,he,k⟩:=h
  exact ⟨_,aD (dJ (gL rfl R.mP R.bi (aA (pv 0) (aA (jI (bI aT (bI (fZ (pv 1)) (bI aT (bI (fZ (pv 2)) (bI aT mW)))))) aC)))) (aD (mU (C:=c2) (P:=cP) (f:=f2) rfl (pv 0) (pv 1) rfl) (aE (jD (C:=c2) (P:=cP) (f:=f2) (pv 0) (pv 2) rfl))),eI (R.r2.e _ (by simp)) rfl rfl he (λ_ k=>jN (m:=0) (j:=160) (by decide) (by decide +kernel) rfl hn λz hz=>jN (j:=320) hz (by decide +kernel) rfl hp λz hz=>jE hz (by decide +kernel) k) λ_ m=>eM (R.r2.e _ (by simp)) rfl rfl (by simp) m λ_ m=>m.go k⟩
def scE3:FnScope ["self","place","phial","over"] ["self","place","phial","over"] (aG sE3):=fnScOk (by decide +kernel)
def aI4 (F:Fun K "__init__" "Spilt.__init__" sE3 f fd)(R:ErB K mg cP c0 c1 c2 c3 c4 f0 f1 f2 f3 f4):FnOk P w K mg base CX0 1 f fd ["self","place","phial","over"] (spI3 c3):=by
 refine F.ok scE3 (λvs H Q E h=>?_) (λcdv A outer s H vs Q E hr h=>?_)
 ·obtain ⟨_,_,_,_,e,_⟩:=h
  rw [e];rfl
 ·obtain ⟨e,n,p,u,rfl,hn,hp,he,k⟩:=h
  exact ⟨_,aD (dJ (gL rfl R.mP R.bi (aA (pv 0) (aA (jI (bI aT (bI (fZ (pv 1)) (bI aT (bI (fZ (pv 2)) (bI aT mW)))))) aC)))) (aD (mU (C:=c3) (P:=cP) (f:=f3) rfl (pv 0) (pv 1) rfl) (aD (jD (C:=c3) (P:=cP) (f:=f3) (pv 0) (pv 2) rfl) (aE (jD (C:=c3) (P:=cP) (f:=f3) (pv 0) (pv 3) rfl)))),eI (R.r3.e _ (by simp)) rfl rfl he (λ_ k=>jN (m:=0) (j:=160) (by decide) (by decide +kernel) rfl hn λz hz=>jN (j:=320) hz (by decide +kernel) rfl hp λz hz=>jE hz (by decide +kernel) k) λ_ m=>eM (R.r3.e _ (by simp)) rfl rfl (by simp) m λ_ m=>eM (R.r3.e _ (by simp)) rfl rfl (by simp) m λ_ m=>m.go k⟩
def jP {i:Nat}{a:Addr}{x y b:Str}{acc:Str}{σ:L2.St}{H:Hp}{Q:Str->Hp->Prop}(wx:Wr x)(wy:Wr y)(sq:SqT K H a [.str x,.str y]){m:Nat}(la:acc.length<=m)(l:m+b.length<=400)(hi:σ[i]?=some (some (.ref a)))(k:∀ z,Q z H):uD (tC (.str b)) (uD (aF8 K (tVar i)) jNil) acc σ H Q:=by
 refine ⟨_,rfl,?_,_,hi,a,x,y,rfl,sq,mH wx,mH wy,(by have:=wx.l8;omega),(by have:=wy.l8;omega),λz hz=>⟨z,rfl,?_,?_,k _⟩⟩
 ·rw [lenA];exact bV (by omega)
 ·rw [lenA,lenA];exact bV (by omega)
 ·rw [lenA,lenA];exact bV (by omega)
def scE4:FnScope ["self","place","phial","pair"] ["self","place","phial","pair"] (aG sE4):=fnScOk (by decide +kernel)
def aI3 (F:Fun K "__init__" "Touch.__init__" sE4 f fd)(R:ErB K mg cP c0 c1 c2 c3 c4 f0 f1 f2 f3 f4):FnOk P w K mg base CX0 1 f fd ["self","place","phial","pair"] (aDp K c4):=by
 refine F.ok scE4 (λvs H Q E h=>?_) (λcdv A outer s H vs Q E hr h=>?_)
 ·obtain ⟨_,_,_,_,_,_,e,_⟩:=h
  rw [e];rfl
 ·obtain ⟨e,a,n,p,x,y,rfl,hn,hp,sq,wx,wy,he,k⟩:=h
  exact ⟨_,aD (dJ (gL rfl R.mP R.bi (aA (pv 0) (aA (jI (bI aT (bI (fZ (pv 1)) (bI aT (bI (fZ (pv 2)) (bI aT (bI (aEn hr (pv 3)) mW))))))) aC)))) (aD (mU (C:=c4) (P:=cP) (f:=f4) rfl (pv 0) (pv 1) rfl) (aD (jD (C:=c4) (P:=cP) (f:=f4) (pv 0) (pv 2) rfl) (aE (jD (C:=c4) (P:=cP) (f:=f4) (pv 0) (pv 3) rfl)))),eI (R.r4.e _ (by simp)) rfl rfl he (λ_ k=>jN (m:=0) (j:=160) (by decide) (by decide +kernel) rfl hn λz hz=>jN (j:=320) hz (by decide +kernel) rfl hp λz hz=>jP wx wy sq hz (by decide +kernel) rfl k) λ_ m=>eM (R.r4.e _ (by simp)) rfl rfl (by simp) m λ_ m=>eM (R.r4.e _ (by simp)) rfl rfl (by simp) m λ_ m=>m.go k⟩
def i3 {f1 f2 f3:Str}{N:List Str}{vs:List V}{H:Hp}{Q:VK}{E:XK}(D:DCl K C [f1,f2,f3])(h:kA C f1 f2 f3 vs H Q E):tSeq (sFld K (tVar 0) (tVar 1) f1) (tSeq (sFld K (tVar 0) (tVar 2) f2) (sFld K (tVar 0) (tVar 3) f3)) { nx:=λ_ H'=>Q .non H',rt:=Q } (start N vs) H:=by
 obtain ⟨p,dx,u1,u2,u3,rfl,hp,k⟩:=h;refine ⟨_,rfl,_,rfl,p,C,dx,[],rfl,hp,D.cl,D.na _ (by simp),(by show 0<1000;decide),_,rfl,_,rfl,p,C,dx,_,rfl,aB,D.cl,D.na _ (by simp),(by show 1<1000;decide),?_⟩;exact ⟨_,rfl,_,rfl,p,C,dx,_,rfl,aB,D.cl,D.na _ (by simp),(Dl (rT ..) (by show 2<1000;decide)),k _ (λb o nb hb=>by rw [aI nb,aI nb,aI nb];exact hb) aB⟩
def i1 {f1:Str}{N:List Str}{vs:List V}{H:Hp}{Q:VK}{E:XK}(D:DCl K C [f1])(h:oR C f1 vs H Q E):sFld K (tVar 0) (tVar 1) f1 { nx:=λ_ H'=>Q .non H',rt:=Q } (start N vs) H:=by
 obtain ⟨p,dx,u1,rfl,hp,k⟩:=h;exact ⟨_,rfl,_,rfl,p,C,dx,[],rfl,hp,D.cl,D.na _ (by simp),(by show 0<1000;decide),k _ (λb o nb hb=>by rw [aI nb];exact hb) aB⟩
def aBj (F:Fun K "__init__" "Draw.__init__" aCm f fd)(D:DCl K C ["phial","ware","amount"]):FnOk P w K mg base CX0 1 f fd ["self","phial","ware","amount"] (kA C "phial" "ware" "amount"):=
 F.ok (N:=["self","phial","ware","amount"]) (fnScOk (by decide +kernel)) (λ_ _ _ _ ⟨_,_,_,_,_,e,_⟩=>e▸rfl) λ_ _ _ _ _ _ _ _ hr h=>⟨_,(aD (fM (pv 0) (pv 1) rfl) (aD (fM (pv 0) (pv 2) rfl) (aE (fM (pv 0) (pv 3) rfl)))),i3 D h⟩
def aBi (F:Fun K "__init__" "Fill.__init__" aCl f fd)(D:DCl K C ["phial","ware","level"]):FnOk P w K mg base CX0 1 f fd ["self","phial","ware","level"] (kA C "phial" "ware" "level"):=
 F.ok (N:=["self","phial","ware","level"]) (fnScOk (by decide +kernel)) (λ_ _ _ _ ⟨_,_,_,_,_,e,_⟩=>e▸rfl) λ_ _ _ _ _ _ _ _ hr h=>⟨_,(aD (fM (pv 0) (pv 1) rfl) (aD (fM (pv 0) (pv 2) rfl) (aE (fM (pv 0) (pv 3) rfl)))),i3 D h⟩
def aBh (F:Fun K "__init__" "Pour.__init__" aCk f fd)(D:DCl K C ["one","other","part"]):FnOk P w K mg base CX0 1 f fd ["self","one","other","part"] (kA C "one" "other" "part"):=
 F.ok (N:=["self","one","other","part"]) (fnScOk (by decide +kernel)) (λ_ _ _ _ ⟨_,_,_,_,_,e,_⟩=>e▸rfl) λ_ _ _ _ _ _ _ _ hr h=>⟨_,(aD (fM (pv 0) (pv 1) rfl) (aD (fM (pv 0) (pv 2) rfl) (aE (fM (pv 0) (pv 3) rfl)))),i3 D h⟩
def xR (F:Fun K "__init__" "Empty.__init__" vU f fd)(D:DCl K C ["phial"]):FnOk P w K mg base CX0 1 f fd ["self","phial"] (oR C "phial"):=
 F.ok (N:=["self","phial"]) (fnScOk (by decide +kernel)) (λ_ _ _ _ ⟨_,_,_,e,_⟩=>e▸rfl) λ_ _ _ _ _ _ _ _ hr h=>⟨_,(aE (fM (pv 0) (pv 1) rfl)),i1 D h⟩
def xQ (F:Fun K "__init__" "Rinse.__init__" vT f fd)(D:DCl K C ["phial"]):FnOk P w K mg base CX0 1 f fd ["self","phial"] (oR C "phial"):=
 F.ok (N:=["self","phial"]) (fnScOk (by decide +kernel)) (λ_ _ _ _ ⟨_,_,_,e,_⟩=>e▸rfl) λ_ _ _ _ _ _ _ _ hr h=>⟨_,(aE (fM (pv 0) (pv 1) rfl)),i1 D h⟩
end
end K52
namespace PySem.SeqAt
open PySem MeetsSeq
end PySem.SeqAt
namespace HT
open PySem PySem.Spec PyProof.Rows
section
variable {prog:Av}{w:World}{A:Around}{E:Value->Shared->Prop}{s:Shared}
def getItem_tuple_whole {t sl:Addr}{items:Array Value}{vl vu:Value}{lo hi:Option Int}{Q:Value->Shared->Prop}(ht:IsTup s.heap t items)(hs:s.heap.IsSliceOf sl vl vu .none)(pl:IsPart vl lo)(pu:IsPart vu hi)
  (hw:sIx items.size 0 lo=0/\sIx items.size items.size hi=items.size) (h:Q (.ref t) s):wpAny (model prog w) A (getItem (.ref t) (.ref sl)) Q E s:=by
 obtain ⟨os,hos,hcs,hds⟩:=id hs;have hTs:s.TypeIs (.ref sl) "slice":=⟨os,hos,hcs⟩;unfold getItem
 try with_reducible refine Bz ?_
 first|refine Aa (Ag ?_)|skip
 refine Aa (wpAny_sequenceKey ht.typeIs (by decide) ?_);refine Aa (BA (name:=CS "__getitem__") ht.typeIs BN
  (Bs BN ht.typeIs entry_tuple_getitem ?_ (args_tuple_getitem _ _)))
 show wpAny _ _ (AI.Tuple.tupleItemsOf (.ref t) >>= _) _ _ s;refine Aa (tupleItemsOf_ ht ?_);refine Aa (DY hTs ?_);rw [if_pos (by decide)];refine Aa (fE hs pl pu ?_);rw [hw.1,hw.2];have hyes:(((0:Nat):Int)==0&&(1:Int)==1&&(items.size-0)==items.size)=true:=by simp
 show wpAny _ _ (if (((0:Nat):Int)==0&&(1:Int)==1&&(items.size-0)==items.size)=true then _ else _) _ _ s;rw [if_pos hyes];refine Aa (m:=AI.Tuple.tupleIsExact (.ref t)) ?_;unfold AI.Tuple.tupleIsExact;refine Aa (DY ht.typeIs (Ag ?_));rw [if_pos (by decide)];exact Aa (Dz (Ag ⟨_,rfl,Ag h⟩))
end
end HT
namespace L2
open PySem PySem.Spec PyProof.Rows
def rIndexF:V->List V->Hp->VK->Prop:=λx vs H Q=>∃ l xs y,∃ i j:Nat,∃ z,x=.ref l/\vs=[y,.int (i:Int)]/\H l=some (.lst xs)/\eW y=true/\xs.all eW=true/\i<=j/\xs[j]?=some z/\eqV z y=true /\
 (∀ m z,i<=m->m<j->xs[m]?=some z->eqV z y=false)/\Q (.int (j:Int)) H
section
variable {X:Cx}
def aIv (K:Ab):V->Option Int->Option Int->Hp->VK->Prop:=λx lo hi H Q=>∃ a xs,x=.ref a/\H a=some (.tup xs)/\∀ p H',Same H H'->H' p=some (.tup (cutV xs lo hi))->Q (.ref p) H'
def aDs:SlR X (aIv X.K):=by
 intro pins s σ H x v vl vu lo hi sl Q I rx hs pl pu h;obtain ⟨a,xs,rfl,hx,q⟩:=h
 by_cases hw:HT.sIx xs.length 0 lo=0/\HT.sIx xs.length xs.length hi=xs.length
 ·cases rx
  obtain ⟨its,r,ht,hz⟩:=I.tuple (SqT.of hx);have hlen:its.toArray.size=xs.length:=by rw [Ak];exact r.length.symm
  refine ⟨"tuple",_,BN.lookup,ht.typeIs,?_⟩;refine HT.getItem_tuple_whole ht hs pl pu (by rw [hlen];exact hw) ⟨.ref a,H,I,rfl,q a H (Same.refl _) ?_⟩;unfold cutV;rw [hw.1,hw.2,List.drop_zero,Nat.sub_zero,BF];exact hx
 ·exact aGh pins s σ H _ v vl vu lo hi sl Q I rx hs pl pu ⟨a,xs,rfl,SqT.of hx,hw,λp hp=>q p _ (Same.upd hp) aB⟩
end
end L2
namespace K52
open PySem PySem.Spec PyProof.Rows L2 GM TM
def spWh:Sp:=λvs H Q _=>∃ n:Int,vs=[.int n]/\Q (.bl true) H
structure RwA (t b:Int):Prop where
 am:Amt t b
 bt:Bt 200 t
 bb:Bt 200 b
def aCg (K:Ab):Sp:=λvs H Q _=>∃ a t b,vs=[.ref a]/\H a=some (.tup [.int t,.int b])/\RwA t b/\Q (.bl true) H
inductive KindG (H:Hp)(nb:Nat):Str->V->Prop where
 |ph {n:Nat}:n<nb->KindG H nb "phial" (.int (n:Nat))
 |wa {x:Str}:Wr x->KindG H nb "ware" (.str x)
 |lv {a t b}:H a=some (.tup [.int t,.int b])->RwA t b->KindG H nb "level" (.ref a)
 |mu {a t b}:H a=some (.tup [.int t,.int b])->RwA t b->1<=t->KindG H nb "amount" (.ref a)
 |pa {a t b}:H a=some (.tup [.int t,.int b])->RwA t b->1<=t->t<=b->KindG H nb "part" (.ref a)
def KindG.keep {H H':Hp}{nb:Nat}{k:Str}{v:V}(s:Same H H')(h:KindG H nb k v):KindG H' nb k v:=by
 cases h with
 |ph h=>exact .ph h
 |wa h=>exact .wa h
 |lv h r=>exact .lv (s _ _ h) r
 |mu h r a=>exact .mu (s _ _ h) r a
 |pa h r a b=>exact .pa (s _ _ h) r a b
def BnV (H:Hp)(b:Addr)(nb:Nat):Prop:=∃ r q rs,H b=some (.tup [.ref r,q])/\H r=some (.tup rs)/\rs.length=nb
def BnV.keep {H H':Hp}{b:Addr}{nb:Nat}(s:Same H H')(h:BnV H b nb):BnV H' b nb:=by
 obtain ⟨r,q,rs,h1,h2,h3⟩:=h;exact ⟨r,q,rs,s _ _ h1,s _ _ h2,h3⟩
inductive spOfKind (vs:List V)(H:Hp)(Q:VK)(Ex:XK):Prop
 |mk (b nb k v:_) (e0:vs=[.ref b,.str k,v]) (e1:BnV H b nb) (e2:KindG H nb k v) (e3:∀ H',Same H H'->Q (.bl true) H'):spOfKind  vs H Q Ex
section
variable {P:Av}{w:World}{K:Ab}{mg:Str->Option Value}{base:Heap}{f:Addr}{fd:Az}
def aGn:FnScope ["thing"] ["thing"] (aG aD6):=fnScOk (by decide +kernel)
def aE1 (F:Fun K "is_whole_number" "is_whole_number" aD6 f fd)(T:Txt mg):FnOk P w K mg base CX0 1 f fd ["thing"] spWh:=by
 refine F.ok aGn (λvs H Q E h=>?_) (λcdv A outer s H vs Q E hr h=>?_)
 ·obtain ⟨_,rfl,_⟩:=h
  rfl
 ·obtain ⟨n,rfl,k⟩:=h
  exact ⟨_,aE (aK (iB (aU dX rfl T.isi CL (aA (pv 0) (aA (eS (v:=.ty "int") rfl T.int' zR rfl) aC)))
   (gK (wI (aU dX rfl T.isi CL (aA (pv 0) (aA (eS (v:=.ty "bool") rfl T.bool' zU rfl) aC))))))),_,rfl,_,"int",true,rfl,.int_int,_,rfl,iteT ⟨_,rfl,_,"bool",false,rfl,.int_bool,_,rfl,k⟩⟩
def aGo:FnScope ["thing"] ["thing"] (aG aD7):=fnScOk (by decide +kernel)
def aE2 (F:Fun K "is_amount" "is_amount" aD7 f fd)(T:Txt mg)(cW:Cal P w K mg base CX0 1 "is_whole_number" ["thing"] spWh)(cG:Cal P w K mg base CX0 1 "common_divisor" ["one","other"] aDq):FnOk P w K mg base CX0 2 f fd ["thing"] (aCg K):=by
 refine F.ok aGo (λvs H Q E h=>?_) (λcdv A outer s H vs Q E hr h=>?_)
 ·obtain ⟨_,_,_,rfl,_⟩:=h
  rfl
 ·obtain ⟨a,t,b,rfl,ha,am,k⟩:=h
  refine ⟨_,(aD (bF (PW.pt (hU (eB (dA (aU dX rfl T.isi CL (aA (pv 0) (aA (eS (v:=.ty "tuple") rfl T.tup' cY rfl) aC))))) (fX (aM pP (aU aY rfl T.len Bu (aA (pv 0) aC)) aH (aV _)))))
    (aE (aK fP))
    aQ)
   (aD (bF (PW.pt (hU (eB (dA (aJ cW hr rfl aR (aA (pit 0 0) aC)))) (fX (eB (dA (aJ cW hr rfl aR (aA (pit 0 1) aC)))))))
    (aE (aK fP))
    aQ)
   (aE (aK (iB (dB aEt (pit 0 0) aH (aV _)) (iB (dB aEt (pit 0 1) aH (aV _)) (gK (dB dD (aJ cG hr rfl aR (aA (pit 0 0) (aA (pit 0 1) aC))) aH (aV _))))))))),?_⟩
  refine cut3 ?_
  intros
  have h:=SqT.of (K:=K) ha;have t0:=am.am.t0;have b1:=am.am.b1;refine ⟨_,rfl,_,"tuple",true,rfl,.tup_tuple h,_,rfl,iteF ⟨_,rfl,a,_,rfl,.inr h,rfl,_,rfl,iteF ?_⟩⟩;refine ⟨a,_,_,rfl,h,rfl,t,rfl,_,rfl,iteF ⟨a,_,_,rfl,h,rfl,b,rfl,_,rfl,iteF ⟨a,_,_,rfl,h,rfl,_,_,rfl,rfl,_,rfl,?_⟩⟩⟩;rw [decide_eq_true t0];refine iteT ⟨a,_,_,rfl,h,rfl,_,_,rfl,rfl,_,rfl,?_⟩;rw [decide_eq_true b1];refine iteT ⟨a,_,_,rfl,h,rfl,a,_,_,rfl,h,rfl,t,b,rfl,t0,by omega,rfl,?_⟩;rw [am.am.g];exact k
def aAn:FnScope ["bench","kind","thing"] ["bench","kind","thing"] (aG pB):=fnScOk (by decide +kernel)
def xJ {aN aO:Addr}(F:Fun K "is_of_kind" "is_of_kind" pB f fd)(T:Txt mg)(mN:mg "NOUGHT" = some (.ref aN))(sN:∀ H:Hp,SqT K H aN [.int 0,.int 1])(mO:mg "ONE" = some (.ref aO))(sO:∀ H:Hp,SqT K H aO [.int 1,.int 1])(cW:Cal P w K mg base CX0 2 "is_whole_number" ["thing"] spWh)(cI:Cal P w K mg base CX0 2 "is_ware" ["thing"] (qY K))(cA:Cal P w K mg base CX0 2 "is_amount" ["thing"] (aCg K))(cL:Cal P w K mg base CX0 2 "less" ["one","other"] (spLess K)):FnOk P w K mg base CX0 3 f fd ["bench","kind","thing"] spOfKind:=by
 refine F.ok aAn (λvs H Q E h=>?_) (λcdv A outer s H vs Q E hr h=>?_)
 ·obtain ⟨_,_,_,_,rfl,_⟩:=h
  rfl
 ·obtain ⟨b,nb,kd,v,rfl,⟨r,q0,rs,hb,hr',rl⟩,h,k⟩:=h
  refine ⟨_,(aD (bF (aM dD (pv 1) aT (aV _))
    (aE (aK (iB (aJ cW hr rfl aR (aA (pv 2) aC)) (gK (rH aA2 wV aH (pv 2) (aU aY rfl T.len Bu (aA (pit 0 0) aC)))))))
    aQ)
   (aD (bF (aM dD (pv 1) aT (aV _))
    (aE (aK (aJ cI hr rfl aR (aA (pv 2) aC))))
    aQ)
   (aD (bF (eB (dA (aJ cA hr rfl aR (aA (pv 2) aC))))
    (aE (aK fP))
    aQ)
   (aD (bF (aM dD (pv 1) aT (aV _))
    (aE (aK fP))
    aQ)
   (aE (aK (iB (dB (nG hr.units) (pv 2) (fB (v:=.ref aN) rfl mN rfl) (aV _)) (gK (aG1 (dB dD (pv 1) aT (aV _)) (gK (wI (aJ cL hr rfl aR (aA (fB (v:=.ref aO) rfl mO rfl) (aA (pv 2) aC)))))))))))))),?_⟩
  refine cut5 ?_
  intros
  have k0:=k H (Same.refl _);have ne:∀ {t b:Int},1<=t->decide ([t,b]=[0,1])=false:=λ{t b} h=>decide_eq_false (λe=>by injection e with e _;omega);cases h with
  |@ph n h=>
   refine ⟨_,rfl,rfl,_,rfl,iteT ⟨_,rfl,_,rfl,_,rfl,iteT ⟨_,rfl,_,_,rfl,rfl,_,rfl,?_⟩⟩⟩;rw [decide_eq_true (by omega:(0:Int)<=(n:Nat))];refine iteT ⟨b,_,_,rfl,SqT.of hb,rfl,r,_,rfl,.inr (SqT.of hr'),_,_,rfl,rfl,?_⟩;show Q (.bl (decide (((n:Nat):Int)<((rs.length:Nat):Int)))) H;rw [decide_eq_true (by omega:((n:Nat):Int)<((rs.length:Nat):Int))];exact k0
  |wa h=>exact ⟨_,rfl,rfl,_,rfl,iteF ⟨_,rfl,rfl,_,rfl,iteT ⟨_,rfl,_,rfl,h,k⟩⟩⟩
  |@lv a t b h am=>exact ⟨_,rfl,rfl,_,rfl,iteF ⟨_,rfl,rfl,_,rfl,iteF ⟨_,rfl,a,t,b,rfl,h,am,_,rfl,iteF ⟨_,rfl,rfl,_,rfl,iteT k0⟩⟩⟩⟩
  |@mu a t b h am t1=>
   refine ⟨_,rfl,rfl,_,rfl,iteF ⟨_,rfl,rfl,_,rfl,iteF ⟨_,rfl,a,t,b,rfl,h,am,_,rfl,iteF ⟨_,rfl,rfl,_,rfl,iteF ⟨_,rfl,a,aN,[t,b],[0,1],rfl,rfl,SqT.of h,sN H,_,rfl,?_⟩⟩⟩⟩⟩;rw [ne t1];exact iteT ⟨_,rfl,rfl,_,rfl,iteT k0⟩
  |@pa a t b h am t1 tb=>
   refine ⟨_,rfl,rfl,_,rfl,iteF ⟨_,rfl,rfl,_,rfl,iteF ⟨_,rfl,a,t,b,rfl,h,am,_,rfl,iteF ⟨_,rfl,rfl,_,rfl,iteF ⟨_,rfl,a,aN,[t,b],[0,1],rfl,rfl,SqT.of h,sN H,_,rfl,?_⟩⟩⟩⟩⟩;rw [ne t1];refine iteT ⟨_,rfl,rfl,_,rfl,iteF ⟨_,rfl,aO,a,1,1,t,b,rfl,⟨sO H,SqT.of h,⟨by decide,by decide,by decide +kernel⟩,am.am,dZ 4000 (c:=2) (by decide) (by decide),dZ 4000 (c:=2) (by decide) (by decide),am.bt.mono (by decide),am.bb.mono (by decide)⟩,?_⟩⟩;refine ⟨_,rfl,?_⟩;show Q (.bl (!decide ((1:Int)*b<t*1))) H;rw [decide_eq_false (by omega:¬ (1:Int)*b<t*1)];exact k0
end
inductive Rw where
 |draw (i:Nat) (x:Str) (t b:Int)
 |fill (i:Nat) (x:Str) (t b:Int)
 |pour (i j:Nat) (t b:Int)
 |empty (i:Nat)
 |rinse (i:Nat)
def RwQ (H:Hp)(q:Addr):Rw->Prop
 |.draw _ _ t b=>H q=some (.tup [.int t,.int b])
 |.fill _ _ t b=>H q=some (.tup [.int t,.int b])
 |.pour _ _ t b=>H q=some (.tup [.int t,.int b])
 |_=>True
def RwW (q:Addr):Rw->Str×List V
 |.draw i x _ _=>("draw",[.int ((i:Nat):Int),.str x,.ref q])
 |.fill i x _ _=>("fill",[.int ((i:Nat):Int),.str x,.ref q])
 |.pour i j _ _=>("pour",[.int ((i:Nat):Int),.int ((j:Nat):Int),.ref q])
 |.empty i=>("empty",[.int ((i:Nat):Int)])
 |.rinse i=>("rinse",[.int ((i:Nat):Int)])
def RwV (H:Hp)(a:Addr):Rw->Prop
 |.draw i x t b=>∃ q,H a=some (.tup [.str "draw",.int ((i:Nat):Int),.str x,.ref q])/\H q=some (.tup [.int t,.int b])
 |.fill i x t b=>∃ q,H a=some (.tup [.str "fill",.int ((i:Nat):Int),.str x,.ref q])/\H q=some (.tup [.int t,.int b])
 |.pour i j t b=>∃ q,H a=some (.tup [.str "pour",.int ((i:Nat):Int),.int ((j:Nat):Int),.ref q])/\H q=some (.tup [.int t,.int b])
 |.empty i=>H a=some (.tup [.str "empty",.int ((i:Nat):Int)])
 |.rinse i=>H a=some (.tup [.str "rinse",.int ((i:Nat):Int)])
def RwV.keep {H H':Hp}{a:Addr}{r:Rw}(s:Same H H')(h:RwV H a r):RwV H' a r:=by
 cases r with
 |draw i x t b=>obtain ⟨q,h1,h2⟩:=h;exact ⟨q,s _ _ h1,s _ _ h2⟩
 |fill i x t b=>obtain ⟨q,h1,h2⟩:=h;exact ⟨q,s _ _ h1,s _ _ h2⟩
 |pour i j t b=>obtain ⟨q,h1,h2⟩:=h;exact ⟨q,s _ _ h1,s _ _ h2⟩
 |empty i=>exact s _ _ h
 |rinse i=>exact s _ _ h
theorem RwV.w {H:Hp}{a:Addr}{r:Rw}(h:RwV H a r):∃ q,H a=some (.tup (.str (RwW q r).1::(RwW q r).2))/\RwQ H q r:=by
 cases r with
 |draw i x t b=>exact h
 |fill i x t b=>exact h
 |pour i j t b=>exact h
 |empty i=>exact ⟨a,h,trivial⟩
 |rinse i=>exact ⟨a,h,trivial⟩
def GoodR (nb:Nat)(ws:List Str):Rw->Prop
 |.draw i x t b=>i<nb/\x∈ws/\RwA t b/\1<=t
 |.fill i x t b=>i<nb/\x∈ws/\RwA t b
 |.pour i j t b=>i<nb/\j<nb/\i≠j/\RwA t b/\1<=t/\t<=b
 |.empty i=>i<nb
 |.rinse i=>i<nb
def frms:List (Str×List Str):=[("draw",["phial","ware","amount"]),("fill",["phial","ware","level"]),("pour",["phial","phial","part"]),("empty",["phial"]),("rinse",["phial"])]
def frmR:Rw->List Str
 |.draw ..=>["phial","ware","amount"]
 |.fill ..=>["phial","ware","level"]
 |.pour ..=>["phial","phial","part"]
 |_=>["phial"]
structure FormsK (w:World)(K:Ab)(mg:Str->Option Value)(aF:Addr)(f:Str->Option Addr):Prop where
 d:KDict w K aF f
 m:mg "FORMS" = some (.ref aF)
 y:∀ p∈frms,∃ a,f p.1=some a/\∀ H:Hp,SqT K H a (p.2.map V.str)
def RwW.frm {q:Addr}{r:Rw}:((RwW q r).1,frmR r)∈frms:=by
 cases r<;>simp [frms,RwW,frmR]
theorem RwW.len {q:Addr}{r:Rw}:(RwW q r).2.length=(frmR r).length/\(frmR r).length<=3:=by
 cases r<;>simp [RwW,frmR]
def iteN {A B:Prop}{c:Bool}(e:c=false)(h:B):if c=true then A else B:=by
 rw [e];exact iteF h
def aFm {H:Hp}{nb:Nat}{k1 k2 k3:Str}{u1 u2 u3:V}(h1:KindG H nb k1 u1)(h2:KindG H nb k2 u2)(h3:KindG H nb k3 u3):∀ (i:Nat) k u,[k1,k2,k3][i]?=some k->[u1,u2,u3][i]?=some u->KindG H nb k u
 |0,_,_,hk,hu=>by cases hk;cases hu;exact h1
 |1,_,_,hk,hu=>by cases hk;cases hu;exact h2
 |2,_,_,hk,hu=>by cases hk;cases hu;exact h3
 |i+3,_,_,hk,_=>by simp at hk
def aH3 {H:Hp}{nb:Nat}{k1:Str}{u1:V}(h1:KindG H nb k1 u1):∀ (i:Nat) k u,[k1][i]?=some k->[u1][i]?=some u->KindG H nb k u
 |0,_,_,hk,hu=>by cases hk;cases hu;exact h1
 |i+1,_,_,hk,_=>by simp at hk
def GoodR.each {H:Hp}{nb:Nat}{ws:List Str}{q:Addr}{r:Rw}(g:GoodR nb ws r)(wr:∀ x∈ws,Wr x)(h:RwQ H q r):∀ (i:Nat) k u,(frmR r)[i]?=some k->(RwW q r).2[i]?=some u->KindG H nb k u:=by
 cases r with
 |draw i x t b=>exact aFm (.ph g.1) (.wa (wr x g.2.1)) (.mu h g.2.2.1 g.2.2.2)
 |fill i x t b=>exact aFm (.ph g.1) (.wa (wr x g.2.1)) (.lv h g.2.2)
 |pour i j t b=>exact aFm (.ph g.1) (.ph g.2.1) (.pa h g.2.2.2.1 g.2.2.2.2.1 g.2.2.2.2.2)
 |empty i=>exact aH3 (.ph g)
 |rinse i=>exact aH3 (.ph g)
structure RIn (H:Hp)(b a:Addr)(nb:Nat)(ws:List Str)(r:Rw):Prop where
 bn:BnV H b nb
 rv:RwV H a r
 gd:GoodR nb ws r
 wr:∀ x∈ws,Wr x
inductive spIsRow (vs:List V)(H:Hp)(Q:VK)(Ex:XK):Prop
 |mk (b a nb ws r:_) (e0:vs=[.ref b,.ref a]) (e1:RIn H b a nb ws r) (e2:∀ H',Same H H'->Q (.bl true) H'):spIsRow  vs H Q Ex
theorem sU {xs:List V}{j:Nat}(h:j<=xs.length):cutV xs (some (j:Int)) none=xs.drop j:=by
 unfold cutV;rw [HT.sIx_nat,HT.sIx_none,Nat.min_eq_left h];exact EB (by rw [List.length_drop];omega)
theorem zH (x:Str)(us:List V):cutV (V.str x::us) (some 1) none=us:=by
 have:=sU (xs:=V.str x::us) (j:=1) (by simp)
 simpa using this
section
variable {P:Av}{w:World}{K:Ab}{mg:Str->Option Value}{base:Heap}
def aHn:(["kind","thing","bench"]:List Str).Nodup:=by decide +kernel
abbrev Nrow:List Str:=["bench","row","form"]
def vJ:FnScope Nrow ["bench","row"] (aG mR):=fnScOk (by decide +kernel)
def aBg {f aF:Addr}{fF:Str->Option Addr}{fd:Az}(F:Fun K "is_row" "is_row" mR f fd)(T:Txt mg)(FK:FormsK w K mg aF fF)(cK:Cal P w K mg base CX0 3 "is_of_kind" ["bench","kind","thing"] spOfKind):FnOk P w K mg base CX0 4 f fd ["bench","row"] spIsRow:=by
 refine F.ok vJ (λvs H Q E h=>?_) (λcdv A outer s H vs Q E hr h=>?_)
 ·obtain ⟨_,_,_,_,_,rfl,_⟩:=h
  rfl
 ·obtain ⟨b,a,nb,ws,rw',rfl,⟨bn,rv,gd,wr⟩,k⟩:=h
  refine ⟨_,(aD (bF (PW.pt (hU (eB (dA (aU dX rfl T.isi CL (aA (pv 1) (aA (eS (v:=.ty "tuple") rfl T.tup' cY rfl) aC))))) (hU (aM dD (aU aY rfl T.len Bu (aA (pv 1) aC)) aH (aV _)) (fX (eB (dA (aU dX rfl T.isi CL (aA (pit 1 0) (aA (eS (v:=.ty "str") rfl T.str' aC9 rfl) aC)))))))))
    (aE (aK fP))
    aQ)
   (aD (aL (i:=2) vJ.nd rfl (Or.inl rfl) (aEm FK.d rfl FK.m (pit 1 0) ⟨rfl,rfl,rfl,rfl⟩))
   (aD (bF (PW.pt (hU (aM wW (pv 2) dO (aV _)) (fX (aM pP (aU aY rfl T.len Bu (aA (pv 1) aC)) (aP bP (aU aY rfl T.len Bu (aA (pv 2) aC)) aH) (aV _)))))
    (aE (aK fP))
    aQ)
   (aD (bF (eB (dA (aU (jW rfl) rfl T.all' boot_all (aA (eC (N':=["kind","thing","bench"]) (g:=gTup K 2 (qA (L2.gName 0) (qA (L2.gName 1) gNil))) (λσ=>[none,none,some 0].map λt=>t.bind λj=>(σ[j]?).join) rfl rfl (by decide +kernel) (by decide +kernel)
      (iG (sc:=aG mR) rfl (by decide +kernel)) (λ_ _ _=>eA (sc:=aG mR) (N:=Nrow) [none,none,some 0] rfl rfl rfl rfl (by decide +kernel))
      (aEi rfl T.zip' (aA (pv 2) (aA (lP aDs (pv 1) (pL aH) pM) aC))) (λ_ _ _ _ _ _=>fO rfl (bE (aS (i:=0) aHn rfl (Or.inl rfl)) (bE (aS (i:=1) aHn rfl (Or.inl rfl)) eF)))
      (λ_ _ _ _ _ _=>dM)
      (λ_ _ _ _ _ _=>aJ cK hr rfl aR (aA (pv 2) (aA (pv 0) (aA (pv 1) aC))))) aC))))
    (aE (aK fP))
    aQ)
   (aE (aK (aG1 (dB pP (pit 1 0) aT (aV _)) (gK (dB pP (pit 1 1) (pit 1 2) (aV _)))))))))),?_⟩
  refine cut5 ?_
  intros
  obtain ⟨q,ha,hq⟩:=rv.w;obtain ⟨g,eg,hg⟩:=FK.y _ (RwW.frm (q:=q) (r:=rw'));obtain ⟨ul,k3⟩:=RwW.len (q:=q) (r:=rw');have ek:=gd.each wr hq;have npour:(RwW q rw').1 ≠ "pour" \/ ∃ (p o:Int) (w':V),(RwW q rw').2=[.int p,.int o,w']/\p≠o:=by
   cases rw' with
   |pour i j t b=>exact .inr ⟨_,_,_,rfl,λe=>gd.2.2.1 (by omega)⟩
   | draw=>exact .inl (show ("draw":Str)≠_ by decide +kernel)
   | fill=>exact .inl (show ("fill":Str)≠_ by decide +kernel)
   | empty=>exact .inl (show ("empty":Str)≠_ by decide +kernel)
   | rinse=>exact .inl (show ("rinse":Str)≠_ by decide +kernel)
  generalize (RwW q rw').1=x at ha eg npour;generalize (RwW q rw').2=us at ha ul ek npour;generalize frmR rw'=ks at hg ul k3 ek;refine ⟨_,rfl,_,"tuple",true,rfl,.tup_tuple (SqT.of ha),_,rfl,iteF ⟨_,rfl,a,_,rfl,.inr (SqT.of ha),rfl,_,rfl,iteN (decide_eq_false λz=>?_) ⟨a,_,_,rfl,SqT.of ha,rfl,_,"str",true,rfl,.str_str,_,rfl,iteF ⟨a,_,_,rfl,SqT.of ha,rfl,x,rfl,?_⟩⟩⟩⟩
  ·have:=V.int.inj z
   rw [AZ] at this;omega
  rw [eg];refine ⟨_,rfl,rfl,_,rfl,iteF ⟨_,rfl,a,_,rfl,.inr (SqT.of ha),_,rfl,g,_,rfl,.inr (hg H),_,_,rfl,rfl,rfl,_,rfl,iteN ?_ ?_⟩⟩
  ·show (!decide (V.int (((V.str x::us).length:Nat):Int)=V.int (((ks.map V.str).length:Nat)+1)))=false
   rw [decide_eq_true (by rw [AZ,Af,ul];rfl)];rfl
  refine ⟨_,rfl,_,rfl,_,rfl,a,_,rfl,ha,λc H1 s1 hc=>?_⟩;rw [show cutV (V.str x::us) (some 1) none=us from zH x us] at hc;refine ⟨g,c,rfl,⟨_,hg H1⟩,⟨_,SqT.of hc⟩,λD nD=>?_⟩;refine zI (hg H1) (SqT.of hc) (by rw [Af,ul]) (λ_ v=>v=.bl true) nD (by omega) (λi kx u T' Hx R hk hu sx hT hR=>?_) (λzs H2 s2 hD zl hz=>?_)
  ·rw [Ao] at hk
   obtain ⟨kd,hkd,rfl⟩:=AO.mp hk;exact ⟨T',_,rfl,SqT.of hT,rfl,_,_,rfl,_,_,rfl,rfl,((Keep.refl _).set rfl).set rfl,_,rfl,_,rfl,_,rfl,b,nb,kd,u,rfl,bn.keep (s1.trans sx),(ek i kd u hkd hu).keep (s1.trans sx),λH3 s3=>hR _ _ s3 rfl⟩
  have ez:zs=(ks.map λ_=>true).map V.bl:=list_eq (by rw [zl,Af,Af,Af]) λi x' y' hx' hy'=>by
   rw [Ca,Ao] at hx';obtain ⟨_,_,rfl⟩:=AO.mp hx';exact hz i y' hy'
  subst ez;have s02:=s1.trans s2;have ha2:=s02 _ _ ha;have k':=k H2 s02;refine ⟨D,_,rfl,SqL.of hD,_,rfl,iteN ?_ ⟨a,_,_,rfl,SqT.of ha2,rfl,rfl,_,rfl,?_⟩⟩
  ·rw [List.all_map,show ks.all (id ∘ λ_=>true)=true from Cf.mpr λ_ _=>rfl]
   rfl
  by_cases hx:x = "pour"
  ·rcases npour with n|⟨p,o,w',rfl,n⟩
   ·exact absurd hx n
   subst hx;refine iteF ⟨a,_,_,rfl,SqT.of ha2,rfl,a,_,_,rfl,SqT.of ha2,rfl,rfl,?_⟩;show Q (.bl (!decide (V.int p=V.int o))) H2;rw [decide_eq_false λz=>n (V.int.inj z)];exact k'
  ·show if (!decide (V.str x=V.str "pour"))=true then _ else _
   rw [decide_eq_false λz=>hx (V.str.inj z)];exact iteT k'
end
end K52
namespace SX
open PySem PySem.Spec PyProof.Rows
def eE:Slot "set_iterator" "__next__" "set_iterator.__next__":=.of (owner:="set_iterator") (n:="__next__") (by rw [typeLookup_type,builtinLookup_eq_fast];kernel_rfl) (by decide +kernel) (by decide +kernel) (by decide +kernel) (by first|exact .inl (by decide +kernel)|exact .inr (by decide +kernel)) (by rw [isSubtype_type];kernel_rfl)
def iO:entryFor table "set_iterator.__next__" = some AI.«set_iterator.__next__»:=entryFor_of_tree (by kernel_rfl)
def lZ (a:Value):argsOk "set_iterator.__next__" ⟨[a],[]⟩:=by unfold argsOk;kernel_rfl
def qZ:Slot "set_iterator" "__iter__" "set_iterator.__iter__":=.of (owner:="set_iterator") (n:="__iter__") (by rw [typeLookup_type,builtinLookup_eq_fast];kernel_rfl) (by decide +kernel) (by decide +kernel) (by decide +kernel) (by first|exact .inl (by decide +kernel)|exact .inr (by decide +kernel)) (by rw [isSubtype_type];kernel_rfl)
def nQ:entryFor table "set.__iter__" = some AI.«frozenset.__iter__»:=entryFor_alias (id':="frozenset.__iter__") (by kernel_rfl) rfl (by decide +kernel) (by kernel_rfl)
def itO (f:Value)(i:Int)(n ep:Nat)(a:Addr):Obj:={ cls:=.type "set_iterator",dict:=none,data:=.fields #[f,.int i 0,.ref a,.int n 0,.int ep 0],slots:=#[] }
theorem hZ {α:Type}:∀ {l:List α} {i:Nat} (h:i<l.length),(l[i]::l.eraseIdx i).Perm l
 |[],_,h=>by simp at h
 |x::l,0,h=>by simp
 |x::l,i+1,h=>by
  have:=hZ (l:=l) (i:=i) (by simpa using h);simp only [List.getElem_cons_succ,List.eraseIdx_cons_succ];exact (List.Perm.swap _ _ _).trans (this.cons x)
section
variable {P:Av}{w:World}{A:Around}{E:Value->Shared->Prop}{s:Shared}
def uL {n:Nat}(hn:n≠0)(h:∀ i d',i<n->Q i { s with drawn:=d' }):wpAny (model P w) A (choose src n) Q E s:=
 λ_ _ _=>⟨hn,h _ _ (Nat.mod_lt _ (by omega))⟩
theorem nU {α:Type}:∀ (n:Nat) (xs:List α) (s:Shared) (Q:List α->Shared->Prop),xs.length=n->(∀ ys d',ys.Perm xs->Q ys { s with drawn:=d' })->wpAny (model P w) A (drawOrder n xs) Q E s
 |0,xs,s,Q,hl,h=>by
  obtain rfl:xs=[]:=Bq.mp hl;unfold drawOrder;exact Ag (h [] s.drawn (.refl _))
 |n+1,[],s,Q,hl,h=>by cases hl
 |n+1,x::xs,s,Q,hl,h=>by
  unfold drawOrder;refine Aa (uL (by simp) λi d' hi=>?_);have e:(x::xs)[i]?=some (x::xs)[i]:=Ac hi;simp only [e];have el:((x::xs).eraseIdx i).length=n:=by rw [List.length_eraseIdx_of_lt hi];simpa using hl
  refine Aa (nU n _ _ _ el λys d2 pm=>Ag ?_);exact h _ d2 ((pm.cons _).trans (hZ hi))
theorem wG {α:Type}(nx:Nat->Nat):∀ (n k:Nat) (l:List α) (o:Array α),l.length=n->(pickOrder.go nx n k l o).toList.Perm (o.toList++l)
 |0,k,l,o,h=>by
  obtain rfl:l=[]:=Bq.mp h;unfold pickOrder.go;rw [Cc]
 |n+1,k,l,o,h=>by
  have lt:nx k%l.length<l.length:=Nat.mod_lt _ (by omega);unfold pickOrder.go;rw [Ac lt];dsimp only;refine (wG nx n (k+1) _ _ (by rw [List.length_eraseIdx_of_lt lt];omega)).trans ?_;rw [Array.toList_push,List.append_assoc];exact List.Perm.append_left _ (hZ lt)
def wF {α:Type}(nx:Nat->Nat)(xs:Array α):(pickOrder nx xs).toList.Perm xs.toList:=by
 have:=wG nx xs.size 0 xs.toList #[] (by simp)
 simpa [pickOrder] using this
def oT {ep:Nat}(ho:s.heap.get? a=some (setO es ep t))(hf:t.fits es.size=true)(h:Q (!byT w&&(!t.plain&&decide (es.size > 1))) s):wpAny (model P w) A (setDrawn a) Q E s:=by
 unfold setDrawn;refine Aa (Ee ho rfl hf ?_);unfold setsByText;refine Aa (Aa (El (Ag ?_)));exact Ag h
def vB (hh:A.handled=none)(hQ:∀ h',(∀ b o,s.heap.get? b=some o->h'.get? b=some o)->Q none { s with heap:=h' }) :
  wpAny (model P w) A.in1 (do raiseNew (<- newExc (.type "StopIteration") [])) (λ(fin:Fin) s'=>∃ v,fin=.done (.ret v)/\wpAny (model P w) A (pure (some v)) Q E s') (λe s'=>wpAny (model P w) A (do if <- isInstance e (.type "StopIteration") then pure none else throw e) Q E s') s:=by
 refine Aa ?_;simp only [newExc,newTuple];refine Aa (Ba ?_ (by size_fits));refine Aa (m:=firstArgMember _ _) (Eu (a:=BV) (by first|rfl|(simp only [firstArgMember];rfl)) ?_);refine Ba ?_ (by size_fits);simp only [raiseNew];refine Aa (wpAny_handled ?_);rw [show A.in1.handled=none from hh];refine Aa (Ag (wpAny_throw ?_));refine Aa (Fh (T:="StopIteration") (b:=true) ⟨_,Ai _ rfl,rfl⟩ isSubtype_stop ?_);exact Ag (hQ _ λb o e=>Ad _ (Ad _ e))
end
def yW:entryFor table "set_iterator.__iter__" = some AI.«dict_keyiterator.__iter__»:=entryFor_alias (id':="dict_keyiterator.__iter__") (by kernel_rfl) rfl (by decide +kernel) (by kernel_rfl)
def aB4 (a:Value):argsOk "set_iterator.__iter__" ⟨[a],[]⟩:=by unfold argsOk;kernel_rfl
abbrev IP (ord:List Value)(i:Nat)(v:Value):Prop:=ord[i]?=some v
section
variable {P:Av}{w:World}{A:Around}{E:Value->Shared->Prop}{s:Shared}{a I:Addr}{es:Array (Int×Value)}{ep:Nat}{t:BY}
def vH {i:Int}{n:Nat}(hI:s.heap.get? I=some (itO f i n ep a))(h:Q (.ref I) s):wpAny (model P w) A (pyIter (.ref I)) Q E s:=by
 refine wpAny_pyIter_slot ⟨_,hI,rfl⟩ qZ (Bs qZ ⟨_,hI,rfl⟩ yW ?_ (aB4 _));show wpAny _ _ (ret (.ref I)) _ _ s;exact Ag ⟨_,rfl,"set_iterator",_,⟨_,hI,rfl⟩,eE.lookup,h⟩
def lG {i:Int}{n k:Nat}(hI:s.heap.get? I=some (itO f i n ep a))(hk:k<5)(h:∀ h',h'.get? I=some { cls:=.type "set_iterator",dict:=none,data:=.fields (#[f,.int i 0,.ref a,.int n 0,.int ep 0].setIfInBounds k x),slots:=#[] }->Cj I s.heap h'->Q () { s with heap:=h' }) :
  wpAny (model P w) A (setField (.ref I) k x) Q E s:=Cu hI hk h
def mC (hh:A.handled=none)(ne:a≠I)(hf:t.fits es.size=true)(ord:List Value)(sl:Nat->Nat)(hx:∀ (A:Around) (E:Value->Shared->Prop) (i:Nat) (s:Shared) (Q:Option (Value×Nat)->Shared->Prop),i<=ord.length->s.heap.get? a=some (setO es ep t)->Q (ord[i]?.map λv=>(v,sl (i+1))) s->wpAny (model P w) A (setNext a (sl i) i ep) Q E s) :
  Walks P w A I [I,a] [I] ord.length (IP ord) (λi h=>h.get? I=some (itO (.int (sl i) 0) i es.size ep a)/\h.get? a=some (setO es ep t)) where
 sub:=λb hb=>by simp at hb;simp [hb]
 frame:=λi h h' st k=>⟨k I (by simp) _ st.1,k a (by simp) _ st.2⟩
 self:=λi s Q E st hQ=>vH st.1 hQ
 item:=λi s Q E hi st hQ=>by
  obtain ⟨hI,ho⟩:=st;unfold pyNext;refine Aa (DG (BA (name:=CS "__next__") ⟨_,hI,rfl⟩ eE (Bs eE ⟨_,hI,rfl⟩ iO ?_ (lZ _))));show wpAny _ _ (fieldsOf (.ref I) >>= _) _ _ s;refine Aa (wpAny_fieldsOf hI rfl ?_);show wpAny _ _ (setEntries a >>= _) _ _ s;refine Aa (Et ho rfl hf ?_);dsimp only;rw [if_neg (by simp)];simp only [Cm];refine Aa (hx _ _ i s _ (Nat.le_of_lt hi) ho ?_);rw [Ac hi];dsimp only [Option.map];refine Aa (lG hI (by decide) λh1 g1 b1=>?_);refine Aa (Cu (k:=1) g1 (by simp) λh2 g2 b2=>?_);refine Ag ⟨_,rfl,Ag (hQ _ h2 s.toks (Ac hi) ⟨?_,?_⟩ λb o hb e=>?_)⟩
  ·rw [g2]
   rfl
  ·rw [b2.2 a ne,b1.2 a ne]
   exact ho
  ·have hb':b≠I:=by simpa using hb
   show h2.get? b=some o;rw [b2.2 b hb',b1.2 b hb'];exact e
 done:=λs Q E st hQ=>by
  obtain ⟨hI,ho⟩:=st;unfold pyNext;refine Aa (DG (BA (name:=CS "__next__") ⟨_,hI,rfl⟩ eE (Bs eE ⟨_,hI,rfl⟩ iO ?_ (lZ _))));show wpAny _ _ (fieldsOf (.ref I) >>= _) _ _ s;refine Aa (wpAny_fieldsOf hI rfl ?_);show wpAny _ _ (setEntries a >>= _) _ _ s;refine Aa (Et ho rfl hf ?_);dsimp only;rw [if_neg (by simp)];simp only [Cm];refine Aa (hx _ _ ord.length s _ (Aj _) ho ?_);rw [Ax (Aj _)];dsimp only [Option.map];refine Aa (lG hI (by decide) λh1 g1 b1=>?_);refine vB hh λh2 k2=>hQ h2 s.toks λb o hb e=>k2 b o ?_;have hb':b≠I:=by simpa using hb
  show h1.get? b=some o;rw [b1.2 b hb'];exact e
def sZ (hh:A.handled=none)(ne:a≠I)(nt:tp≠I)(hf:t.fits es.size=true)(pl:List Nat)(ord:List Value)(ol:ord.length=pl.length)(hp:∀ (i p:Nat),pl[i]?=some p->∃ x v,es[p]?=some (x,v)/\ord[i]?=some v) :
  Walks P w A I [I,a,tp] [I] ord.length (IP ord) (λi h=>h.get? I=some (itO (.ref tp) i es.size ep a)/\h.get? a=some (setO es ep t)/\h.get? tp=some { cls:=.type "tuple",dict:=none,data:=.seq (pl.map λ(p:Nat)=>rawInt p).toArray,slots:=#[] }) where
 sub:=λb hb=>by simp at hb;simp [hb]
 frame:=λi h h' st k=>⟨k I (by simp) _ st.1,k a (by simp) _ st.2.1,k tp (by simp) _ st.2.2⟩
 self:=λi s Q E st hQ=>vH st.1 hQ
 item:=λi s Q E hi st hQ=>by
  obtain ⟨hI,ho,ht⟩:=st;obtain ⟨p,hpl⟩:∃ p,pl[i]?=some p:=⟨_,Ac (by omega)⟩;obtain ⟨x,v,he,hv⟩:=hp i p hpl;unfold pyNext;refine Aa (DG (BA (name:=CS "__next__") ⟨_,hI,rfl⟩ eE (Bs eE ⟨_,hI,rfl⟩ iO ?_ (lZ _))));show wpAny _ _ (fieldsOf (.ref I) >>= _) _ _ s;refine Aa (wpAny_fieldsOf hI rfl ?_);show wpAny _ _ (setEntries a >>= _) _ _ s;refine Aa (Et ho rfl hf ?_);dsimp only;rw [if_neg (by simp)];refine Aa (CZ ht rfl ?_);dsimp only;have hq:((pl.map λ(p:Nat)=>rawInt p).toArray)[(Int.toNat (i:Int))]?=some (.int p 0):=by
   rw [Cm,List.getElem?_toArray,Ao,hpl];rfl
  rw [hq];dsimp only;simp only [Cm];refine Aa ?_;unfold setNextDrawn;refine Aa (Ee ho rfl hf ?_);dsimp only;rw [if_neg (by simp),he];refine Ag ?_;refine Aa (lG hI (by decide) λh1 g1 b1=>?_);refine Ag ⟨_,rfl,Ag (hQ _ h1 s.toks hv ⟨?_,?_,?_⟩ λb o hb e=>?_)⟩
  ·rw [g1]
   rfl
  ·rw [b1.2 a ne]
   exact ho
  ·rw [b1.2 tp nt]
   exact ht
  ·have hb':b≠I:=by simpa using hb
   show h1.get? b=some o;rw [b1.2 b hb'];exact e
 done:=λs Q E st hQ=>by
  obtain ⟨hI,ho,ht⟩:=st;unfold pyNext;refine Aa (DG (BA (name:=CS "__next__") ⟨_,hI,rfl⟩ eE (Bs eE ⟨_,hI,rfl⟩ iO ?_ (lZ _))));show wpAny _ _ (fieldsOf (.ref I) >>= _) _ _ s;refine Aa (wpAny_fieldsOf hI rfl ?_);show wpAny _ _ (setEntries a >>= _) _ _ s;refine Aa (Et ho rfl hf ?_);dsimp only;rw [if_neg (by simp)];refine Aa (CZ ht rfl ?_);dsimp only;have hq:((pl.map λ(p:Nat)=>rawInt p).toArray)[(Int.toNat (ord.length:Int))]?=none:=by
   rw [Cm,List.getElem?_toArray,Ao,Ax (by omega)];rfl
  rw [hq];dsimp only;refine Aa (lG hI (by decide) λh0 g0 b0=>?_);refine Aa (Cu (k:=2) g0 (by simp) λh1 g1 b1=>?_);refine vB hh λh2 k2=>hQ h2 s.toks λb o hb e=>k2 b o ?_;have hb':b≠I:=by simpa using hb
  show h1.get? b=some o;rw [b1.2 b hb',b0.2 b hb'];exact e
end
section
variable {P:Av}{w:World}{A:Around}{E:Value->Shared->Prop}{s:Shared}{a I:Addr}{es:Array (Int×Value)}{ep:Nat}{t:BY}
def xW {sl i:Nat}(hb:byT w=true)(hf:t.fits es.size=true)(ho:s.heap.get? a=some (setO es ep t))(h:Q ((pickOrder (w.params.setOrder a ep) es)[i]?.map λe=>(e.2,sl)) s):wpAny (model P w) A (setNext a sl i ep) Q E s:=by
 unfold setNext;refine Aa (Ee ho rfl hf ?_);dsimp only;unfold setsByText;refine Aa (Aa (El (Ag ?_)));show wpAny _ _ (if byT w=true then _ else _) _ _ s;rw [if_pos hb,if_neg (by simp)];refine Aa ?_;unfold setWalk;refine Aa (Ee ho rfl hf ?_);dsimp only;unfold setsByText;refine Aa (Aa (El (Ag ?_)));show wpAny _ _ (if byT w=true then _ else _) _ _ s;rw [if_pos hb];refine Aa (El (Ag ?_));exact Ag h
def aBn {sl i:Nat}(hb:byT w=false)(hf:t.fits es.size=true)(hl:t.led=true)(h1:es.size<=1)(ho:s.heap.get? a=some (setO es ep t))(h:Q (match es[DS t.place sl]?,t.place[DS t.place sl]? with|some (_,x),some j=>some (x,j+1)|_,_=>none) s):wpAny (model P w) A (setNext a sl i ep) Q E s:=by
 unfold setNext;refine Aa (Ee ho rfl hf ?_);dsimp only;unfold setsByText;refine Aa (Aa (El (Ag ?_)));show wpAny _ _ (if byT w=true then _ else _) _ _ s;rw [if_neg (by rw [hb];decide)];show wpAny _ _ (if (!t.plain&&decide (es.size > 1))=true then _ else _) _ _ s;rw [if_neg (by rw [decide_eq_false (by omega)];simp)];show wpAny _ _ (bind (if (!t.led&&!es.isEmpty)=true then _ else _) _) _ _ s;rw [if_neg (by rw [hl];simp)];refine Aa (Ag ?_);exact Ag h
theorem lB {P:Av}{w:World}{es:List (Int×Value)}(el:ElemsOf (strKind P w) es):∀ {l:List (Int×Value)},(∀ e∈l,e∈es)->EK (l.map (·.2)) (l.map λe=>kv e.2)
 |[],_=>.nil
 |e::l,h=>by
  obtain ⟨t,ht⟩:=aC5 el (h e (Ar ..));have:=lB el (l:=l) λx hx=>h x (Ah _ hx);rw [An,An,ht];exact .cons _ _ this
def jF {α:Type}(es:Array α){pl:List Nat}(pm:pl.Perm (AF es.size)):(pl.filterMap λp=>es[p]?).Perm es.toList:=by
 have:=pm.filterMap λp=>es[p]?;rw [filterMap_getElem?_range] at this;exact this
theorem mV {α:Type}(es:Array α):∀ {pl:List Nat},(∀ p∈pl,p<es.size)->∀ (i p:Nat),pl[i]?=some p->∃ e,es[p]?=some e/\(pl.filterMap λp=>es[p]?)[i]?=some e
 |[],_,i,p,h=>by simp at h
 |q::pl,hlt,i,p,h=>by
  have hq:=hlt q (Ar ..);have eq:es[q]?=some es[q]:=Fn hq;rw [CW,eq];cases i with
  |zero=>
   simp at h;subst h;exact ⟨_,eq,rfl⟩
  |succ i=>
   simp only [List.getElem?_cons_succ] at h ⊢;exact mV es (λp hp=>hlt p (Ah _ hp)) i p h
theorem places_len {α:Type}(es:Array α):∀ {pl:List Nat},(∀ p∈pl,p<es.size)->(pl.filterMap λp=>es[p]?).length=pl.length
 |[],_=>rfl
 |q::pl,hlt=>by
  have eq:es[q]?=some (es[q]'(hlt q (Ar ..))):=Fn _;rw [CW,eq];simp only [AZ];rw [places_len es λp hp=>hlt p (Ah _ hp)]
def aBr {ks:List Str}{Q:Value->Shared->Prop}(hh:A.handled=none)(S:SetS P w s.heap a ks)
  (h:∀ I fp St ord h' d',Walks P w A I fp [I] ord.length (IP ord) St->St 0 h'->(∀ b o,s.heap.get? b=some o->h'.get? b=some o)->(∀ b∈fp,s.heap.objs.size<=b\/b=a)->s.heap.objs.size<=I->EK ord (ord.map kv)->(ord.map kv).Perm ks->Q (.ref I) { s with heap:=h',drawn:=d' }) :
  wpAny (model P w) A (pyIter (.ref a)) Q E s:=by
 obtain ⟨⟨es,ep,t,ho,el,hf,hl,hp,pm⟩,nd,lt⟩:=S;have la:a<s.heap.objs.size:=Aq ho;refine wpAny_pyIter_slot ⟨_,ho,rfl⟩ F.slot_set_iter (Bs F.slot_set_iter ⟨_,ho,rfl⟩ nQ ?_ (F.args_set_iter_1 _));show wpAny _ _ (AI.Frozenset.sizeOf a >>= _) _ _ s;refine Aa (Aa (Et ho rfl hf (Ag ?_)));refine Aa (oT ho hf ?_)
 by_cases hd:(!byT w&&(!t.plain&&decide (es.size > 1)))=true
 ·rw [if_pos hd]
  refine Aa (nU es.size (AF es.size) s _ ED λpl d' pp=>?_);refine Aa (Ba ?_ ?hz)
  case hz=>
   show ((pl.map λ(p:Nat)=>rawInt p).toArray).size<=Au;rw [Ak,Af,pp.length_eq,ED];have:es.size=ks.length:=by rw [<- Bv,<- Af (f:=λe=>kv e.2),pm.length_eq]
   exact EW (by omega)
  refine Aa (wpAny_setEpoch_of (o:=setO es ep t) (Ad _ ho) rfl hf ?_);refine Aa (Ba (Ag ⟨_,rfl,"set_iterator",_,⟨_,Ai _ rfl,rfl⟩,eE.lookup,?_⟩));have hlt:∀ p∈pl,p<es.size:=λp hp=>Cp.mp (pp.mem_iff.mp hp);have sz:=λ(h:Heap) (o:Obj)=>BL h o;refine h _ _ _ ((pl.filterMap λp=>es[p]?).map (·.2)) _ d' (sZ hh (a:=a) (tp:=s.heap.objs.size) ?_ ?_ hf pl _ (by rw [Af,places_len es hlt]) λi p hi=>?_) ⟨Ai _ rfl,Ad _ (Ad _ ho),Ad _ (Ai _ rfl)⟩ (λb o e=>Ad _ (Ad _ e)) (λb hb=>?_) ?_ ?_ ?_
  ·rw [sz]
   exact As (Ck la)
  ·rw [sz]
   exact As (Cg _)
  ·obtain ⟨e,h1,h2⟩:=mV es hlt i p hi
   exact ⟨e.1,e.2,h1,by rw [Ao,h2];rfl⟩
  ·simp only [AA,Ef,or_false] at hb
   rcases hb with rfl|rfl|rfl
   ·left
    rw [sz];exact Dq _
   ·exact .inr rfl
   ·exact .inl (Aj _)
  ·rw [sz]
   exact Dq _
  ·rw [Ca]
   exact lB el λe he=>(jF es pp).mem_iff.mp he
  ·rw [Ca]
   exact ((jF es pp).map _).trans pm
 ·rw [if_neg hd]
  refine Aa (Ag ?_);refine Aa (wpAny_setEpoch_of ho rfl hf ?_);refine Aa (Ba (Ag ⟨_,rfl,"set_iterator",_,⟨_,Ai _ rfl,rfl⟩,eE.lookup,?_⟩));have fpk:∀ b∈[s.heap.objs.size,a],s.heap.objs.size<=b\/b=a:=λb hb=>by
   simp only [AA,Ef,or_false] at hb
   rcases hb with rfl|rfl
   ·exact .inl (Aj _)
   ·exact .inr rfl
  cases hb:byT w with
  |true=>
   have pk:=wF (w.params.setOrder a ep) es;refine h _ _ _ ((pickOrder (w.params.setOrder a ep) es).toList.map (·.2)) _ s.drawn (mC hh (a:=a) (As la) hf _ (λ_=>0) λA E i s Q _ ho h=>xW hb hf ho ?_) ⟨Ai _ rfl,Ad _ ho⟩ (λb o e=>Ad _ e) fpk (Aj _) ?_ ?_
   ·rw [Ao,AW,Option.map_map] at h
    exact h
   ·rw [Ca]
    exact lB el λe he=>pk.mem_iff.mp he
   ·rw [Ca]
    exact (pk.map _).trans pm
  |false=>
   have s1:es.size<=1:=by
    rcases hp with hp|hp
    ·rw [hb,hp] at hd
     by_cases z:es.size > 1
     ·exact absurd (by rw [decide_eq_true z];rfl) hd
     ·omega
    ·omega
   rw [hb] at hl;refine h _ _ _ (es.toList.map (·.2)) _ s.drawn (mC hh (a:=a) (As la) hf _ (λi=>if i=0 then 0 else t.place.getD 0 0+1) λA E i s Q hi ho h=>aBn hb hf hl s1 ho ?_) ⟨Ai _ rfl,Ad _ ho⟩ (λb o e=>Ad _ e) fpk (Aj _) ?_ ?_
   ·have hpl:t.place.size=es.size:=by
     simp only [BY.fits,BU,beq_iff_eq] at hf;exact hf.1
    rw [Af,Bv] at hi;generalize t.place=pl at *
    obtain ⟨pl⟩:=pl;obtain ⟨es⟩:=es
    match es,pl,hpl,i,hi with
    |[],[],_,0,_=>exact h
    |[e],[p],_,0,_=>exact h
    |[e],[p],_,1,_=>
     have e1:DS #[p] (p+1)=1:=by simp [DS,DS.go]
     simp only [Nat.one_ne_zero,if_false];show Q (match (#[e]:Array _)[DS #[p] (p+1)]?,(#[p]:Array _)[DS #[p] (p+1)]? with|some (_,x),some j=>some (x,j+1)|_,_=>none) s;rw [e1];exact h
    |_::_::_,_,_,_,_=>simp at s1
   ·rw [Ca]
    exact lB el λe he=>he
   ·rw [Ca]
    exact pm
end
section
variable {P:Av}{w:World}{A:Around}{E:Value->Shared->Prop}{s:Shared}{a:Addr}{ks:List Str}
def SetS.type (S:SetS P w s.heap a ks):s.TypeIs (.ref a) "set":=by
 obtain ⟨⟨es,ep,t,ho,_⟩,_,_⟩:=S;exact ⟨_,ho,rfl⟩
def aBs (hT:s.TypeIs (.ref a) "set")(h:Q false s):wpAny (model P w) A (AI.List.listLengthHint (.ref a)) Q E s:=by
 unfold AI.List.listLengthHint;refine Aa (wpAny_specialOf hT PySem.F.slot_set_len.lookup ?_);generalize hid:("set.__len__":String)=id0
 wp_delta
 rw [show splitId id0=some ("set","__len__") from by subst hid;decide +kernel];subst hid;refine Aa (Fh (T:="set") (b:=true) hT (by rw [isSubtype_type];kernel_rfl) ?_);refine wpAny_ite_split (λz=>absurd z (by decide)) (λ_=>?_);refine wpAny_ite_split (λ_=>?_) (λz=>absurd (by decide +kernel) z);exact Aa (DY hT (Ag h))
def uI {c:Nat}(hh:A.handled=none)(S:SetS P w s.heap a ks)(ne:L≠a)(res:Value)(hL:s.heap.get? L=some { cls:=.type "list",data:=.seq #[] c })(hR:∀ h' d' tk acc c' ks',(∀ b o,b≠L->s.heap.get? b=some o->h'.get? b=some o)->h'.get? L=some { cls:=.type "list",dict:=none,data:=.seq acc c',slots:=#[] }->EK acc.toList ks'->ks'.Perm ks->R (.ok (.ret res)) { s with heap:=h',drawn:=d',toks:=tk }) :
  wpAny (model P w) A.in1 (EF (.ref L) (.ref a) res) (λfin s'=>match fin with|.done f=>R (.ok f) s'|.again c'=>c'.quiet=true/\Ew (model P w) A c' R s') (λe s'=>R (.error e) s') s:=by
 have lL:=Aq hL;have lt:=S.lt;unfold EF;refine Aa (DY (T:="set") S.type ?_);have h1:AI.List.listSameRef (.ref L) (.ref a)=false:=by simp [AI.List.listSameRef,ne]
 have h2:(Dd "set" == Dd "list")=false:=by decide
 have h3:(Dd "set" == Dd "tuple")=false:=by decide
 simp only [h1,h2,h3,Bool.or_false,Dk,if_false];refine Aa (aBr (A:=A.in1) hh S λI fp St ord h0 d' W st keep hfp hI hs pm=>?_);have hLf:L∉fp:=λz=>by
  rcases hfp L z with z|z
  ·exact absurd lL (Nat.not_lt.mpr z)
  ·exact ne z
 have on:ord.length<=Au:=by
  have:=pm.length_eq;rw [Af] at this;exact EW (by omega)
 have hT0:({ s with heap:=h0,drawn:=d' }:Shared).TypeIs (.ref a) "set":=(S.at (h':=h0) λo e=>keep _ o e).type (s:={ s with heap:=h0,drawn:=d' });have key:∀ (h:Heap) (c1 tk:Nat),St 0 h->(∀ b o,b≠L->s.heap.get? b=some o->h.get? b=some o)->h.get? L=some { cls:=.type "list",data:=.seq #[] c1 } ->
   Ew (model P w) A (.builtin "list.extend.loop" ⟨[.ref L,.ref I,res],[]⟩) R { s with heap:=h,drawn:=d',toks:=tk }:=by
  intro h c1 tk hst hk hL1;refine codeAny_extend_loopS W.toS on L hLf res ord.length 0 _ #[] c1 rfl (Bi _) hst hL1 (ItemsOf.nil _) λs' acc c' hm hL' hacc=>?_;rw [Moved.eq_with hm];have ea:acc.toList=ord:=Ci λi=>by
   rw [AW];cases q:acc[i]? with
   |none=>
    have:acc.size<=i:=Array.getElem?_eq_none_iff.mp q;rw [Ax (by rw [<- hacc.1];exact this)]
   |some v=>exact (hacc.2 i v q).symm
  refine hR s'.heap d' s'.toks acc c' _ (λb o hb e=>hm.heap b o (λz=>?_) (hk b o hb e)) hL' (by rw [ea];exact hs) pm
  rcases AA.mp z with z|z
  ·exact hb z
  ·exact absurd (Aq e) (by rw [AE.mp z];exact Nat.not_lt.mpr hI)
 have hL1:=keep _ _ hL;refine Aa (Bz (aBs hT0 ?_));refine wpAny_ite_split (λ_=>?_) (λ_=>Ag ⟨EI PySem.F.plain_extend_loop _,key _ c s.toks st (λb o _ e=>keep b o e) hL1⟩);refine Aa (Dz ?_);refine Aa ?_;show wpAny _ _ (updateSeq L (·.push .none) >>= λ_=>updateSeq L (·.pop)) _ _ _;refine Aa (wpAny_updateSeq hL1 rfl ?_);have hL2:=BR (DV (·.push BV)) hL1 rfl;refine wpAny_updateSeq (hz:=by seq_fits) hL2 rfl ?_;have hL3:=BR (DV (·.pop)) hL2 rfl;refine Ag ⟨EI PySem.F.plain_extend_loop _,key _ _ s.toks ?_ (λb o hb e=>?_) hL3⟩
 ·refine W.frame 0 _ _ st λb hb o e=>?_
  have hbL:b≠L:=λh=>hLf (h▸hb);exact (AY _ _ (Bg hbL)).trans ((AY _ _ (Bg hbL)).trans e)
 ·exact (AY _ _ (Bg hb)).trans ((AY _ _ (Bg hb)).trans (keep b o e))
def qF (hh:A.handled=none)(S:SetS P w s.heap a ks)(h:∀ h' d' tk acc ks',(∀ b o,s.heap.get? b=some o->h'.get? b=some o)->EK acc ks'->ks'.Perm ks->R acc { s with heap:=h',drawn:=d',toks:=tk }):wpAny (model P w) A (collect (.ref a)) R E s:=by
 obtain ⟨⟨es,ep,t,ho,_⟩,_,_⟩:=id S;have la:=Aq ho;unfold collect;refine Aa (wpAny_runValue (CK entry_proto_collect' ?_));rw [CJ PySem.F.plain_proto_collect _];show wpAny _ A.in1 (newList [] >>= λl=>again (.builtin "list.__iadd__" ⟨[l,.ref a],[]⟩)) _ _ s;refine Aa (Ba ?_);refine Ag ⟨EI PySem.F.plain_list_iadd _,CK entry_list_iadd' ?_⟩;rw [CJ PySem.F.plain_list_iadd _];have hL:(s.heap.push { cls:=.type "list",data:=.seq ([]:List Value).toArray }).get? s.heap.objs.size=some { cls:=.type "list",data:=.seq #[] }:=Ai _ rfl;show wpAny _ A.in1 (EF (.ref s.heap.objs.size) (.ref a) (.ref s.heap.objs.size)) _ _ _;have key:=uI (P:=P) (w:=w) (A:=A) (s:={ s with heap:=s.heap.push { cls:=.type "list",data:=.seq ([]:List Value).toArray } }) (ks:=ks)
  (R:=λ(q:Result) (s':Shared)=>∃ h' d' tk acc c' ks',q=.ok (.ret (.ref s.heap.objs.size))/\s'={ s with heap:=h',drawn:=d',toks:=tk }/\(∀ b o,s.heap.get? b=some o->h'.get? b=some o)/\h'.get? s.heap.objs.size=some { cls:=.type "list",dict:=none,data:=.seq acc c',slots:=#[] }/\EK acc.toList ks'/\ks'.Perm ks)
  hh (S.at λo e=>Ad _ e) (Dw la) (.ref s.heap.objs.size) hL λh' d' tk acc c' ks' k k2 k3 k4=>⟨h',d',tk,acc,c',ks',rfl,rfl,λb o e=>k b o (As (Aq e)) (Ad _ e),k2,k3,k4⟩
 refine BX key (λfin s' x=>?_) λe s' x=>?_
 ·cases fin with
  |done f=>
   obtain ⟨h',d',tk,acc,c',ks',e,rfl,k,k2,k3,k4⟩:=x;cases e;show wpAny _ A (load s.heap.objs.size >>= _) _ _ _;exact Aa (wpAny_load k2 (Ag (h h' d' tk acc.toList ks' k k3 k4)))
  |again c1=>
   refine ⟨x.1,Cn x.2 λq s2 y=>?_⟩;obtain ⟨h',d',tk,acc,c',ks',rfl,rfl,k,k2,k3,k4⟩:=y;show wpAny _ A (load s.heap.objs.size >>= _) _ _ _;exact Aa (wpAny_load k2 (Ag (h h' d' tk acc.toList ks' k k3 k4)))
 ·obtain ⟨_,_,_,_,_,_,e',_⟩:=x
  cases e'
def sorted_set (hh:A.handled=none)(S:SetS P w s.heap a ks)(h:∀ (h':Heap) d' (tk:Nat) (acc:List Value) (ks':List Str),(∀ b o,s.heap.get? b=some o->h'.get? b=some o)->EK acc ks'->ks'.Perm ks ->
   wpAny (model P w) A.in1 (call (.builtin "list.sort") [.ref h'.objs.size]) (λ_ s'=>Q (.ref h'.objs.size) s') E { s with heap:=h'.push (seqObj "list" acc.toArray 0),drawn:=d',toks:=tk }) :
  wpAny (model P w) A (call (.builtin "sorted") [.ref a]) Q E s:=by
 have lt:=S.lt;refine Fm kind_sorted plain_sorted entry_sorted (args_sorted1 _) ?_;unfold AI.«sorted»;refine Aa (m:=checkCount "sorted" 1 1 _) (Ag ?_);refine Aa (qF (A:=A.in1) hh S λh' d' tk acc ks' keep hs pm=>?_);have hl:acc.length<=Au:=by
  rw [EK.length hs,pm.length_eq];exact EW lt
 refine Aa (wpAny_newList ?_ hl);refine Aa (Bz (BX (h h' d' tk acc ks' keep hs pm) (λ_ s' x=>?_) λ_ _ e=>e));exact Ag ⟨_,rfl,x⟩
end
end SX
namespace L2
open PySem PySem.Spec PyProof.Rows
abbrev SetT (X:Cx)(a:Addr)(ks:List Str):HO:=.ext λh=>SX.SetS X.prog X.w h a ks
section
variable {X:Cx}
def Inv.drawn {σ:St}(I:Inv X pins σ H s)(d':Drawn):Inv X pins σ H { s with drawn:=d' }:=
 ⟨I.ok,I.os,I.bare,I.base,I.loc,I.cell,I.free,I.freeC,I.pin,I.hok,I.len⟩
def aIx (X:Cx):List V->Hp->VK->Prop:=λxs H Q=>∃ a,∃ ss:List Str,xs=[.ref a]/\SqL X.K H a (ss.map V.str)/\ss.length<1000/\∀ p,H p=none->Q (.ref p) (upd H p (SetT X p (SX.ddl ss)))
def zN (hc:X.calm=true):fG X (.type "set") (aIx X):=by
 intro pins s σ H xs us Q I r h;obtain ⟨a,ss,rfl,hq,h1,q⟩:=h;obtain ⟨u,rfl,rx⟩:=vals1 r;cases rx;obtain ⟨its,r',pl,hz⟩:=I.list hq;have hl:=r'.length;rw [Af] at hl;refine SX.call_set_strs (I.ok.hd hc) pl.isList (by simpa using gY r') (by rw [Ak];unfold EH;omega) λh' tk S k=>?_;obtain ⟨⟨es,ep,t,ho,_⟩,_,_⟩:=id S;exact ⟨.ref s.heap.objs.size,_,I.laid (a:=s.heap.objs.size) (o:=SetT X s.heap.objs.size (SX.ddl ss)) (t':=tk) k (Aj _) ⟨S,⟨_,ho⟩,λh1 h2 p k=>p.at k⟩,rfl,q _ (I.hok.fresh (Aj _))⟩
def aAx (X:Cx):List V->Hp->VK->Prop:=λxs H Q=>∃ a,∃ ks:List Str,xs=[.ref a]/\H a=some (SetT X a ks)/\ks.length<64/\∀ (p:Addr) (ss':List Str),ss'.Perm ks->sortedS ss'=true->H p=none->Q (.ref p) (upd H p (.lst (ss'.map V.str)))
def iE (hc:X.calm=true):fG X (.builtin "sorted") (aAx X):=by
 intro pins s σ H xs us Q I r h;obtain ⟨a,ks,rfl,hH,h64,q⟩:=h;obtain ⟨u,rfl,rx⟩:=vals1 r;cases rx;obtain ⟨S,_,_⟩:=I.hok a _ hH;refine SX.sorted_set (I.ok.hd hc) S λh' d' tk acc ks' keep hS pm=>?_;have hlen:=pm.length_eq;have hal:=EK.length hS;have hoL:(h'.push (seqObj "list" acc.toArray 0)).get? h'.objs.size=some (seqObj "list" acc.toArray 0):=Ai _ rfl;refine Bs slot_list_sort ⟨_,hoL,rfl⟩ entry_list_sort (list_sort_treeK strKind_oneLt hoL hS.keysOf (λv₁ v₂ rest e=>keyKind_strs (by rw [<- e];exact hS)) (by omega) λst' hp hs=>⟨_,rfl,?_⟩) (args_list_sort _);obtain ⟨ss',a1,a2,a3⟩:=sorted_out_str hS hp hs;obtain ⟨e,he⟩:∃ e,(sortedHeap (h'.push (seqObj "list" acc.toArray 0)) h'.objs.size acc ((arrOf st').map (·.2))).get? h'.objs.size=some (seqObj "list" ((arrOf st').map (·.2)) e):=sortedHeap_at hoL;have I1:=(I.drawn d').kept (t':=tk) keep;refine ⟨.ref h'.objs.size,_,I1.laid (a:=h'.objs.size) (o:=.lst (ss'.map V.str)) (t':=tk) (λb o hb'=>?_) (Aj _) (rR (its:=((arrOf st').map (·.2)).toList) (e:=e) (eO a1) ?_ (by rw [ET];exact he)),rfl,q _ ss' (a2.trans pm) a3 (I1.hok.fresh (Aj _))⟩
 ·have lt:=Aq hb'
  rw [sortedHeap_old (As lt) (by rw [BL];exact Ck lt)];exact Ad _ hb'
 ·rw [Af,a2.length_eq]
  exact bV (by omega)
end
end L2
namespace SX
open PySem PySem.Spec PyProof.Rows
section
variable {P:Av}{w:World}{A:Around}{E:Value->Shared->Prop}{s:Shared}
def call_set_tup {l:Addr}(hh:A.handled=none)(hl:s.heap.IsTuple l its)(hi:EK its.toList ss)(hb:its.size+1<EH)(h:∀ (h':Heap) (tk:Nat),SetS P w h' s.heap.objs.size (ddl ss)->(∀ b o,s.heap.get? b=some o->h'.get? b=some o)->Q (.ref s.heap.objs.size) { s with heap:=h',toks:=tk }) :
  wpAny (model P w) A (call (.type "set") [.ref l]) Q E s:=by
 obtain ⟨c,tl,hmro⟩:=Cd.mro;have hmade:=Cd.made;have hsub:=Cd.sub;refine Ez (Ft ?_);show wpAny _ _ (callAny (.type "set") _) _ _ _;refine Ag ⟨Es _ (by decide +kernel),CK F.entry_type_call ?_⟩;rw [Around.under_plain (weight_type_call_type "set" [.ref l] []) rfl];have h1:=Cd.notType;have h2:=Cd.canCreate;have hct:=F.typeCall_set_1 (.ref l)
 repeat (any_goals (first|assumption|wp_step))
 refine Cn (xX (.ref l) (E:=E) (Q1:=λobj s1=>obj=.ref s.heap.objs.size/\s1={ s with heap:=s.heap.push (eU w) }) ⟨rfl,rfl⟩) λr s1 hr=>?_;cases r with
 |error e=>exact hr
 |ok fl=>
  cases fl with
  |ret obj=>
   obtain ⟨rfl,rfl⟩:=hr;have hS:(s.heap.push (eU w)).get? s.heap.objs.size=some (eU w):=Ai _ rfl;have hT:Shared.TypeIs { s with heap:=s.heap.push (eU w) } (.ref s.heap.objs.size) "set":=⟨_,hS,rfl⟩;have hli:=Cd.init.lookup;have hbi:=Cd.init.bind (.ref s.heap.objs.size)
   repeat (any_goals (first|assumption|wp_step))
   refine Cn (Eh (R:=wants (λr s2=>r=.none/\∃ h' tk,s2={ s with heap:=h',toks:=tk }/\SetS P w h' s.heap.objs.size (ddl ss)/\(∀ b o,s.heap.get? b=some o->h'.get? b=some o)) E) Cd.init.plain F.entry_set_init (check_set_init_1 hT ?_)) λr2 s2 hr2=>?_
   ·obtain ⟨ol,hol,hcl,nl,hdl⟩:=hl
    obtain ⟨ocls,odict,odata,oslots⟩:=ol;simp only at hcl hdl;subst hcl;subst hdl;have hol':(s.heap.push (eU w)).get? l=some { cls:=.type "tuple",dict:=odict,data:=.seq its nl,slots:=oslots }:=Ad _ hol;have hsls:=F.sub_tuple_set;have hslf:=F.sub_tuple_frozenset;have hne:(Dd "tuple" == Dd "dict")=false:=by decide
    have hl1:(s.heap.push (eU w)).IsTuple l its:=⟨_,hol',rfl,nl,rfl⟩;unfold AI.«set.__init__» noKeywords AI.Frozenset.updateFrom;generalize hPI:pyIter=PI
    wp_walk
    subst hPI;refine EG hl1 ?_;refine Aa (wpAny_runValue ?_);have hlS:l<s.heap.objs.size:=Aq hol;have hh3:A.in1.in1.in1.handled=none:=by simp [hh]
    have hz:(s.heap.push (eU w)).objs.size=s.heap.objs.size+1:=BL ..;have hneI:l≠(s.heap.push (eU w)).objs.size:=by
     rw [hz];exact As (Ck hlS)
    have haf:s.heap.objs.size∉[(s.heap.push (eU w)).objs.size,l]:=by
     simp only [AA,Ef,or_false,not_or];rw [hz];exact ⟨As (Cg _),Dw hlS⟩
    have hlen:ss.length=its.size:=by rw [<- Bv];exact (EK.length hi).symm
    refine qQ ((Walks.tuple hh3 _ l hneI its).toS) s.heap.objs.size haf ss hlen (λi v hv=>oQ hi i v (by rw [AW];exact hv)) hb (its.size-0) 0 _ (by omega) (Bi _) ⟨⟨_,Ai _ rfl,rfl,rfl⟩,(hl1.push _)⟩ ((rM s.heap).at λo e=>Ad _ e) λs' hm S'=>?_;obtain ⟨h',g',d',tk',os'⟩:=s';have eg:g'=s.gens:=hm.gens;have ed:d'=s.drawn:=hm.drawn;have eo:os'=s.os:=hm.os;subst eg;subst ed;subst eo;show wpAny _ _ _ _ _ _;refine Ag ?_;show wpAny _ _ (ret BV) _ _ _;refine Ag ⟨rfl,h',tk',rfl,S',λb o e=>?_⟩;have hb0:=Aq e;refine hm.heap b o ?_ (Ad _ (Ad _ e));simp only [AA,Ef,or_false,not_or];rw [hz];exact ⟨As hb0,As (Ck hb0)⟩
   ·cases r2 with
    |error e=>exact hr2
    |ok f2=>
     cases f2 with
     |ret r=>
      obtain ⟨rfl,h',tk,rfl,S',hk'⟩:=hr2
      repeat (any_goals (first|assumption|wp_step))
      exact h _ _ S' hk'
     |_=>exact hr2.elim
  |_=>exact hr.elim
end
end SX
namespace L2
open PySem PySem.Spec PyProof.Rows
section
variable {X:Cx}
def aIw (X:Cx):List V->Hp->VK->Prop:=λxs H Q=>∃ a,∃ ss:List Str,xs=[.ref a]/\SqT X.K H a (ss.map V.str)/\ss.length<1000/\∀ p,H p=none->Q (.ref p) (upd H p (SetT X p (SX.ddl ss)))
def zM (hc:X.calm=true):fG X (.type "set") (aIw X):=by
 intro pins s σ H xs us Q I r h;obtain ⟨a,ss,rfl,hq,h1,q⟩:=h;obtain ⟨u,rfl,rx⟩:=vals1 r;cases rx;obtain ⟨its,r',pl,hz⟩:=I.tuple hq;have hl:=r'.length;rw [Af] at hl;refine SX.call_set_tup (I.ok.hd hc) pl (by simpa using gY r') (by rw [Ak];unfold EH;omega) λh' tk S k=>?_;obtain ⟨⟨es,ep,t,ho,_⟩,_,_⟩:=id S;exact ⟨.ref s.heap.objs.size,_,I.laid (a:=s.heap.objs.size) (o:=SetT X s.heap.objs.size (SX.ddl ss)) (t':=tk) k (Aj _) ⟨S,⟨_,ho⟩,λh1 h2 p k=>p.at k⟩,rfl,q _ (I.hok.fresh (Aj _))⟩
end
end L2
namespace K52
open PySem PySem.Spec PyProof.Rows L2 GM TM
def aGy {X:Cx}{ss:List Stmt}:PSs X ss (λ_ _ _=>False):=λ_ _ _ _ _ _ h=>h.elim
def jS {n j:Nat}(h:j<n):ixN n (j:Int)=some j:=by
 unfold ixN;rw [if_pos (by omega),if_pos (by omega),Cm]
inductive spWith (vs:List V)(H:Hp)(Q:VK)(Ex:XK):Prop
 |mk (ph:Addr) (i:Nat) (h n:V) (us:List V) (e0:vs=[.ref ph,.int (i:Nat),h,n]) (e1:H ph=some (.lst us)) (e2:i<us.length) (e3:us.length<=20) (e4:∀ l z H',Same H H'->H l=none->H' z=some (.tup [h,n])->H' l=some (.lst (us.set i (.ref z)))->Q (.ref l) H'):spWith  vs H Q Ex
def RwO (CD CF CP CE CR:Addr)(dx q:Addr):Rw->HO
 |.draw i x _ _=>.ins CD dx (fs3 "phial" "ware" "amount" (.int ((i:Nat):Int)) (.str x) (.ref q))
 |.fill i x _ _=>.ins CF dx (fs3 "phial" "ware" "level" (.int ((i:Nat):Int)) (.str x) (.ref q))
 |.pour i j _ _=>.ins CP dx (fs3 "one" "other" "part" (.int ((i:Nat):Int)) (.int ((j:Nat):Int)) (.ref q))
 |.empty i=>.ins CE dx (fs1 "phial" (.int ((i:Nat):Int)))
 |.rinse i=>.ins CR dx (fs1 "phial" (.int ((i:Nat):Int)))
inductive spDeedAt (CD CF CP CE CR:Addr)(vs:List V)(H:Hp)(Q:VK)(Ex:XK):Prop
 |mk (b a:Addr) (nb:Nat) (ws:List Str) (r:Rw) (n:Nat) (e0:vs=[.ref b,.ref a,.int (n:Nat)]) (e1:RIn H b a nb ws r) (e2:∀ q p dx H',RwQ H q r->Same H H'->H p=none->H' p=some (RwO CD CF CP CE CR dx q r)->Q (.ref p) H'):spDeedAt CD CF CP CE CR vs H Q Ex
structure MkD (P:Av)(w:World)(K:Ab)(mg:Str->Option Value)(base:Heap)(C:Addr)(nm:Str)(ps:List Str)(sp:Sp):Prop where
 ex:∃ f fd,Mk K C f/\FnOk P w K mg base CX0 4 f fd ps sp/\Binds K fd ps []/\mg nm=some (.ref C)
def sm0 {H H1:Hp}{p:Addr}(h:Same H H1)(n:H1 p=none):H p=none:=by
 cases e:H p with
 |none=>rfl
 |some o=>rw [h _ _ e] at n;cases n
def xZ {H H':Hp}{p dx C:Addr}(np:H p=none)(nd:H dx=none)(kp:∀ b o,b≠p->upd (upd H dx (.own p)) p (.ins C dx []) b=some o->H' b=some o):Same H H':=λb o e=>
 kp b o (aZ e np) (by rw [aI (aZ e np),aI (aZ e nd)];exact e)
section
variable {P:Av}{w:World}{K:Ab}{mg:Str->Option Value}{base:Heap}{CD CF CP CE CR f:Addr}{fd:Az}
def aAu:FnScope ["bench","row","place"] ["bench","row","place"] (aG pI):=fnScOk (by decide +kernel)
def xT (F:Fun K "deed_at" "deed_at" pI f fd)(cR:Cal P w K mg base CX0 5 "is_row" ["bench","row"] spIsRow)
  (D1:MkD P w K mg base CD "Draw" ["self","phial","ware","amount"] (kA CD "phial" "ware" "amount")) (D2:MkD P w K mg base CF "Fill" ["self","phial","ware","level"] (kA CF "phial" "ware" "level")) (D3:MkD P w K mg base CP "Pour" ["self","one","other","part"] (kA CP "one" "other" "part")) (D4:MkD P w K mg base CE "Empty" ["self","phial"] (oR CE "phial")) (D5:MkD P w K mg base CR "Rinse" ["self","phial"] (oR CR "phial")):FnOk P w K mg base CX0 6 f fd ["bench","row","place"] (spDeedAt CD CF CP CE CR):=by
 refine F.ok aAu (λvs H Q E h=>?_) (λcdv A outer s H vs Q E hr h=>?_)
 ·obtain ⟨_,_,_,_,_,_,rfl,_⟩:=h
  rfl
 ·obtain ⟨b,a,nb,ws,rw',n,rfl,ri,k⟩:=h
  obtain ⟨f1,g1,M1,F1,b1,m1⟩:=D1.ex;obtain ⟨f2,g2,M2,F2,b2,m2⟩:=D2.ex;obtain ⟨f3,g3,M3,F3,b3,m3⟩:=D3.ex;obtain ⟨f4,g4,M4,F4,b4,m4⟩:=D4.ex;obtain ⟨f5,g5,M5,F5,b5,m5⟩:=D5.ex;refine ⟨_,(aD (bF (eB (dA (aJ cR hr rfl aR (aA (pv 0) (aA (pv 1) aC)))))
    aGy
    aQ)
   (aD (bF (aM dD (pit 1 0) aT (aV _))
    (aE (aK (jH M1 F1 hr rfl m1 b1 .nil aR (aA (pit 1 1) (aA (pit 1 2) (aA (pit 1 3) aC))))))
    aQ)
   (aD (bF (aM dD (pit 1 0) aT (aV _))
    (aE (aK (jH M2 F2 hr rfl m2 b2 .nil aR (aA (pit 1 1) (aA (pit 1 2) (aA (pit 1 3) aC))))))
    aQ)
   (aD (bF (aM dD (pit 1 0) aT (aV _))
    (aE (aK (jH M3 F3 hr rfl m3 b3 .nil aR (aA (pit 1 1) (aA (pit 1 2) (aA (pit 1 3) aC))))))
    aQ)
   (aE (aK (aA1 (aM dD (pit 1 0) aT (aV _)) (jH M4 F4 hr rfl m4 b4 .nil aR (aA (pit 1 1) aC)) (jH M5 F5 hr rfl m5 b5 .nil aR (aA (pit 1 1) aC))))))))),?_⟩
  refine cut5 ?_
  intros
  refine ⟨_,rfl,_,rfl,b,a,nb,ws,rw',rfl,ri,λH1 s1=>⟨_,rfl,iteF ?_⟩⟩;have md:∀ {x dx C q fs H'},RwQ H q rw'->H1 x=none->H1 dx=none->(∀ b o,b≠x->upd (upd H1 dx (.own x)) x (.ins C dx []) b=some o->H' b=some o)->H' x=some fs->fs=RwO CD CF CP CE CR dx q rw'->Q (.ref x) H':=λhq nx nd kp hx e=>k _ _ _ _ hq (s1.trans (xZ nx nd kp)) (sm0 s1 nx) (e▸hx);obtain ⟨q,ha,hq⟩:=ri.rv.w;have sq:=SqT.of (K:=K) (s1 _ _ ha);cases rw' with
  |draw i x t b'=>exact ⟨a,_,_,rfl,sq,rfl,rfl,_,rfl,iteT ⟨a,_,_,rfl,sq,rfl,a,_,_,rfl,sq,rfl,a,_,_,rfl,sq,rfl,λx dx nx nd _=>⟨x,dx,_,_,_,rfl,aB,λH' kp hx=>⟨rfl,md hq nx nd kp hx rfl⟩⟩⟩⟩
  |fill i x t b'=>exact ⟨a,_,_,rfl,sq,rfl,rfl,_,rfl,iteF ⟨a,_,_,rfl,sq,rfl,rfl,_,rfl,iteT ⟨a,_,_,rfl,sq,rfl,a,_,_,rfl,sq,rfl,a,_,_,rfl,sq,rfl,λx dx nx nd _=>⟨x,dx,_,_,_,rfl,aB,λH' kp hx=>⟨rfl,md hq nx nd kp hx rfl⟩⟩⟩⟩⟩
  |pour i j t b'=>exact ⟨a,_,_,rfl,sq,rfl,rfl,_,rfl,iteF ⟨a,_,_,rfl,sq,rfl,rfl,_,rfl,iteF ⟨a,_,_,rfl,sq,rfl,rfl,_,rfl,iteT ⟨a,_,_,rfl,sq,rfl,a,_,_,rfl,sq,rfl,a,_,_,rfl,sq,rfl,λx dx nx nd _=>⟨x,dx,_,_,_,rfl,aB,λH' kp hx=>⟨rfl,md hq nx nd kp hx rfl⟩⟩⟩⟩⟩⟩
  |empty i=>exact ⟨a,_,_,rfl,sq,rfl,rfl,_,rfl,iteF ⟨a,_,_,rfl,sq,rfl,rfl,_,rfl,iteF ⟨a,_,_,rfl,sq,rfl,rfl,_,rfl,iteF ⟨a,_,_,rfl,sq,rfl,rfl,_,rfl,iteT ⟨a,_,_,rfl,sq,rfl,λx dx nx nd _=>⟨x,dx,_,rfl,aB,λH' kp hx=>⟨rfl,md hq nx nd kp hx rfl⟩⟩⟩⟩⟩⟩⟩
  |rinse i=>exact ⟨a,_,_,rfl,sq,rfl,rfl,_,rfl,iteF ⟨a,_,_,rfl,sq,rfl,rfl,_,rfl,iteF ⟨a,_,_,rfl,sq,rfl,rfl,_,rfl,iteF ⟨a,_,_,rfl,sq,rfl,rfl,_,rfl,iteF ⟨a,_,_,rfl,sq,rfl,λx dx nx nd _=>⟨x,dx,_,rfl,aB,λH' kp hx=>⟨rfl,md hq nx nd kp hx rfl⟩⟩⟩⟩⟩⟩⟩
def aCj:FnScope ["phials","phial","holds","names","behind"] ["phials","phial","holds","names"] (aG oW):=fnScOk (by decide +kernel)
def aEw {f:Addr}{fd:Az}(F:Fun K "with_phial" "with_phial" oW f fd)(T:Txt mg):FnOk P w K mg base CX0 1 f fd ["phials","phial","holds","names"] spWith:=by
 refine F.ok aCj (λvs H Q E h=>?_) (λcdv A outer s H vs Q E hr h=>?_)
 ·obtain ⟨_,_,_,_,_,rfl,_⟩:=h
  rfl
 ·obtain ⟨ph,i,h,n,us,rfl,hp,il,u20,k⟩:=h
  refine ⟨_,(aD (aL (i:=4) aCj.nd rfl (Or.inl rfl) (aX bJ rfl T.list' dS (aA (pv 0) aC)))
   (aD (gI (aW (aA (pv 2) (aA (pv 3) aC))) (mX (pv 4) (pv 1) set_list))
   (aE (aK (pv 4))))),?_⟩
  refine cut3 ?_
  intros
  refine ⟨_,rfl,ph,_,rfl,.inl (SqL.of hp),λl nl=>?_⟩;have sl:=Same.upd (o:=.lst us) nl;refine ⟨_,rfl,_,rfl,zLn2,λz nz=>?_⟩;have sz:=Same.upd (o:=.tup [h,n]) nz;have lz:l≠z:=λe=>by rw [<- e,aB] at nz;cases nz
  refine ⟨_,rfl,_,rfl,l,us,(i:Int),i,rfl,rfl,sz _ _ aB,jS il,?_⟩;refine ⟨_,rfl,k l z _ (λb o e=>?_) nl ?_ aB⟩
  ·rw [aI (aZ e nl)]
   exact (sl.trans sz) _ _ e
  ·rw [aI lz.symm]
   exact aB
end
end K52
namespace HT
open PySem PySem.Spec PyProof.Rows
section
variable {prog:Av}{w:World}{A:Around}{E:Value->Shared->Prop}{s:Shared}
end
end HT
namespace L2
open PySem PySem.Spec PyProof.Rows
section
variable {X:Cx}
def rRepTA (K:Ab):R2:=λx y H Q=>∃ a k xs,x=.ref a/\y=.int k/\SqT K H a xs/\xs≠[]/\1<=k/\k<=1000/\xs.length<=1000/\(k=1->Q (.ref a) H)/\(2<=k->∀ p,H p=none->Q (.ref p) (upd H p (.tup (Co k.toNat xs).flatten)))
def rCatTB (K:Ab):R2:=λx y H Q=>∃ a b xs ys,x=.ref a/\y=.ref b/\SqT K H a xs/\H b=some (.tup ys)/\ys≠[]/\xs.length+ys.length<=Au/\∀ p H',Same H H'->H' p=some (.tup (xs++ys))->Q (.ref p) H'
end
end L2
namespace K52
open PySem PySem.Spec PyProof.Rows L2 GM TM
abbrev PF:Type:=(Str->Int)×List Str
def PhA (H:Hp)(M:Int)(v:V)(d:PF):Prop:=∃ (a m n:Addr) (us:List V) (ys:List (Str×Int×Int)),v=.ref a/\H a=some (.tup [.ref m,.ref n])/\H m=some (.tup us)/\PrL H us ys/\IsMx M d.1 ys/\H n=some (.tup (d.2.map V.str))
def PhA.keep {H H':Hp}{M:Int}{v:V}{d:PF}(s:Same H H')(h:PhA H M v d):PhA H' M v d:=by
 obtain ⟨a,m,n,us,ys,e,h1,h2,h3,h4,h5⟩:=h;exact ⟨a,m,n,us,ys,e,s _ _ h1,s _ _ h2,h3.keep s.tk,h4,s _ _ h5⟩
structure StV (H:Hp)(l:Addr)(M:Int)(S:List PF):Prop where
 ex:∃ vs,H l=some (.lst vs)/\vs.length=S.length/\∀ (i:Nat) v d,vs[i]?=some v->S[i]?=some d->PhA H M v d
def StV.keep {H H':Hp}{l:Addr}{M:Int}{S:List PF}(s:Same H H')(h:StV H l M S):StV H' l M S:=by
 obtain ⟨vs,h1,h2,h3⟩:=h;exact ⟨vs,s _ _ h1,h2,λi v d hv hd=>(h3 i v d hv hd).keep s⟩
theorem StV.get {H:Hp}{l:Addr}{M:Int}{S:List PF}{i:Nat}{d:PF}(h:StV H l M S)(hd:S[i]?=some d):∃ vs v,H l=some (.lst vs)/\vs.length=S.length/\vs[i]?=some v/\PhA H M v d:=by
 obtain ⟨vs,h1,h2,h3⟩:=h;obtain ⟨v,hv⟩:∃ v,vs[i]?=some v:=⟨_,Ac (by rw [h2];exact (Ae.mp hd).1)⟩;exact ⟨vs,v,h1,h2,hv,h3 i v d hv hd⟩
def StV.put {H H':Hp}{l l' z:Addr}{M:Int}{S:List PF}{vs:List V}{i:Nat}{d:PF}(h:StV H l M S)(hl:H l=some (.lst vs))(s:Same H H')(hl':H' l'=some (.lst (vs.set i (.ref z))))(hz:PhA H' M (.ref z) d):StV H' l' M (S.set i d):=by
 obtain ⟨vs',h1,h2,h3⟩:=h;rw [hl] at h1;cases h1;refine ⟨_,hl',by rw [CB,CB];exact h2,λj v e hv he=>?_⟩
 by_cases ij:i=j
 ·subst ij
  have lt:i<vs.length:=by
   have:=(Ae.mp hv).1;rw [CB] at this;exact this
  rw [CY lt] at hv;rw [CY (by omega)] at he;cases hv;cases he;exact hz
 ·rw [Cq ij] at hv he
  exact (h3 j v e hv he).keep s
def tot (ws:List Str)(f:Str->Int):Int:=(ws.map f).sum
structure Wss (ws:List Str):Prop where
 nd:ws.Nodup
 l:ws.length<=6
 w:∀ x∈ws,Wr x
structure Okf (ws:List Str)(d:PF):Prop where
 nn:∀ y,0<=d.1 y
 nin:∀ y∈d.2,y∈ws
 srt:d.2.Pairwise ltS
 inw:∀ y,d.1 y≠0->y∈ws
structure NmU (a b c:List Str):Prop where
 srt:c.Pairwise ltS
 mem:∀ y,y∈c↔y∈a\/y∈b
def eQ {c:List Str}(h:c.Pairwise ltS):c.Nodup:=h.imp λ{a b} h=>aFa h
def aE8 {c c':List Str}(h:c.Pairwise ltS)(h':c'.Pairwise ltS)(m:∀ y,y∈c↔y∈c'):c=c':=by
 have p:c.Perm c':=(List.perm_ext_iff_of_nodup (eQ h) (eQ h')).mpr m;exact p.eq_of_pairwise (le:=leS) (λx y _ _ h1 h2=>TM.ext (ER h1 h2)) (h.imp λh=>List.le_of_lt h) (h'.imp λh=>List.le_of_lt h)
def NmU.uniq {a b c c':List Str}(h:NmU a b c)(h':NmU a b c'):c=c':=aE8 h.srt h'.srt λy=>(h.mem y).trans (h'.mem y).symm
def aCw {a b ss:List Str}(p:ss.Perm (SX.ddl (a++b)))(so:sortedS ss=true):NmU a b ss:=by
 have nd:ss.Nodup:=p.nodup_iff.mpr (SX.ddl_nodup _);refine ⟨?_,λy=>by rw [p.mem_iff,SX.ddl_mem,Bh]⟩;refine (List.pairwise_and_iff.mpr ⟨iT so,nd⟩).imp λ{x y} h=>?_;exact Be λz=>h.2 (TM.ext (ER h.1 (List.not_lt.mp z)))
def gW {ws:List Str}{M:Int}{f:Str->Int}{ys:List (Str×Int×Int)}(nd:ws.Nodup)(mx:IsMx M f ys)(h:∀ y,f y≠0->y∈ws):sumN M ys=tot ws f:=by
 rw [<- kY nd λx hx=>h x.1 ((mx.mem x.1).mp (BQ hx))];unfold tot;exact congrArg List.sum (Eg λy _=>mx.nw y)
def xY {ws:List Str}{M:Int}{f:Str->Int}{ys:List (Str×Int×Int)}(mx:IsMx M f ys)(h:∀ y,f y≠0->y∈ws):ys.length<=ws.length:=by
 have:=mx.nd.length_le_of_subset (l₂:=ws) λy hy=>h y ((mx.mem y).mp hy);rwa [Af] at this
def BadO (c:Addr)(n i:Nat)(M N:Int)(rb:Int×Int)(H:Hp)(E:XK):Prop:=∀ a t b dx H',Same H H'->H' a=some (.tup [.int t,.int b])->Fr (M*rb.2) t b (N*rb.2-rb.1*M)->H' dx=some (xdE dx [("over",.ref a),("phial",.int (i:Nat)),("place",.int (n:Nat))])->E (.ref c) (some dx) H'
def BadO.mono {c:Addr}{n i:Nat}{M N:Int}{rb:Int×Int}{H H1:Hp}{E:XK}(s:Same H H1)(h:BadO c n i M N rb H E):BadO c n i M N rb H1 E:=λa t b dx H' s'=>h a t b dx H' (s.trans s')
structure MoreIn (K:Ab)(H:Hp)(b r q l cm nm:Addr)(rs us:List V)(ps:List (Str×Str))(rbs:List (Int×Int))(ws:List Str)(M:Int)(S:List PF)(i:Nat)(d:PF)(rb:Int×Int)(cus:List V)(cs:List (Str×Int×Int))(xs:List Str):Prop where
 bn:Bn H b r q rs us ps
 rm:RmL H rs rbs
 ww:Wss ws
 st:StV H l M S
 sl:S.length=rs.length
 ok:∀ d∈S,Okf ws d
 di:S[i]?=some d
 rbi:rbs[i]?=some rb
 hc:H cm=some (.tup cus)
 pc:PrL H cus cs
 oc:Over M cs
 cw:∀ x∈cs,x.1∈ws
 cl:cs.length<=6
 hn:H nm=some (.tup (xs.map V.str))
 xw:∀ x∈xs,x∈ws
 xl:xs.length<=20
 m0:0<M
 bm:Bt 2900 M
 bs:Bt 2900 (tot ws (λy=>d.1 y+NW M cs y))
inductive spMore (K:Ab)(c3 c4:Addr)(vs:List V)(H:Hp)(Q:VK)(E:XK):Prop
 |mk (b r q l cm nm rs us ps rbs ws M S i d rb cus cs xs n:_) (e0:vs=[.ref b,.ref l,.int (i:Nat),.ref cm,.ref nm,.int (n:Nat)]) (e1:n<1000) (e2:MoreIn K H b r q l cm nm rs us ps rbs ws M S i d rb cus cs xs) (e3:(rb.1*M<tot ws (λy=>d.1 y+NW M cs y)*rb.2->BadO c3 n i M (tot ws (λy=>d.1 y+NW M cs y)) rb H E)) (e4:(¬ rb.1*M<tot ws (λy=>d.1 y+NW M cs y)*rb.2->∀ nm',NmU d.2 xs nm'->(∀ pa,pairOf us ps nm'=.ref pa->BadE c4 [("pair",.ref pa),("phial",.int (i:Nat)),("place",.int (n:Nat))] H E) /\
  (pairOf us ps nm'=.non->∀ l' H',Same H H'->H l'=none->StV H' l' M (S.set i (λy=>d.1 y+NW M cs y,nm'))->Q (.ref l') H'))):spMore K c3 c4 vs H Q E
theorem jL {H:Hp}:∀ {us:List V} {ps:List (Str×Str)} {xs:List Str},PsT H us ps->pairOf us ps xs=.non\/∃ pa p,pairOf us ps xs=.ref pa/\p∈ps/\H pa=some (.tup [.str p.1,.str p.2])
 |[],ps,xs,_=>.inl hW
 |u::us,[],xs,h=>.inl rfl
 |u::us,p::ps,xs,h=>by
  unfold pairOf;split
  ·obtain ⟨q,e,hq⟩:=h.2 0 u p rfl rfl
   exact .inr ⟨q,p,e,Ar ..,hq⟩
  ·rcases jL (us:=us) (ps:=ps) (xs:=xs) ⟨by have:=h.1;simpa using this,λi u p hu hp=>h.2 (i+1) u p (by simpa using hu) (by simpa using hp)⟩ with e|⟨pa,p',e1,e2,e3⟩
   ·exact .inl e
   ·exact .inr ⟨pa,p',e1,Ah _ e2,e3⟩
def aDa:Ce "set" = some (.type "set"):=by decide +kernel
def catT {K:Ab}{H:Hp}{a b:Addr}{xs ys:List Str}{Q:VK}(ha:H a=some (.tup (xs.map V.str)))(hb:H b=some (.tup (ys.map V.str)))(hz:xs.length+ys.length<=100)(h:∀ p H',Same H H'->SqT K H' p ((xs++ys).map V.str)->Q (.ref p) H'):aCp K (.ref a) (.ref b) H Q:=by
 by_cases e:xs=[]
 ·subst e
  exact .inl ⟨a,b,_,rfl,rfl,SqT.of ha,SqT.of hb,h b H (Same.refl _) (SqT.of hb)⟩
 ·refine .inr ⟨a,b,_,_,rfl,rfl,SqT.of ha,SqT.of hb,(λz=>e (List.map_eq_nil_iff.mp z)),by rw [Af,Af];exact bV (by omega),λz=>?_,λz p np=>?_⟩
  ·have:ys=[]:=List.map_eq_nil_iff.mp z
   subst this;exact h a H (Same.refl _) (by rw [Cc];exact SqT.of ha)
  ·exact h p _ (Same.upd np) (by rw [Bp];exact SqT.of aB)
def yR {t b:Int}(h:Rm t b):Fr b t b t:=⟨⟨by have:=h.1;omega,h.2,h.3⟩,by rw [BJ]⟩
def Tw.flip {K:Ab}{H:Hp}{p q:Addr}{t1 b1 t2 b2:Int}(h:Tw K H p q t1 b1 t2 b2):Tw K H q p t2 b2 t1 b1:=⟨h.sq,h.sp,h.a2,h.a1,h.st2,h.sb2,h.st1,h.sb1⟩
theorem gX (g h:Str->Int):∀ ws:List Str,tot ws (λy=>g y+h y)=tot ws g+tot ws h
 |[]=>rfl
 |y::r=>by
  have ih:=gX g h r;unfold tot at ih ⊢;rw [An,An,An,AK,AK,AK,ih];omega
section
variable {P:Av}{w:World}{K:Ab}{mg:Str->Option Value}{base:Heap}{cP c0 c1 c2 c3 c4 f0 f1 f2 f3 f4:Addr}
abbrev aJm:List Str:=["bench","phials","phial","comes","names","place","holds","much","room","names_behind","pair"]
def kH:FnScope aJm ["bench","phials","phial","comes","names","place"] (aG iX):=fnScOk (by decide +kernel)
def aEz {f:Addr}{fd g3 g4:Az}(F:Fun K "with_more" "with_more" iX f fd)(T:Txt mg)(R:ErB K mg cP c0 c1 c2 c3 c4 f0 f1 f2 f3 f4)
  (F3:FnOk P w K mg base CX0 1 f3 g3 ["self","place","phial","over"] (spI3 c3)) (b3:Binds K g3 ["self","place","phial","over"] []) (F4:FnOk P w K mg base CX0 1 f4 g4 ["self","place","phial","pair"] (aDp K c4)) (b4:Binds K g4 ["self","place","phial","pair"] [])
  (cT:Cal P w K mg base CX0 5 "together" ["one","other"] (aGf K)) (cW:Cal P w K mg base CX0 5 "whole" ["one"] (lC K)) (cL:Cal P w K mg base CX0 5 "less" ["one","other"] (spLess K)) (cM:Cal P w K mg base CX0 5 "minus" ["one","other"] (spMinus K)) (cP':Cal P w K mg base CX0 5 "pair_in" ["bench","names"] (qX K)) (cH:Cal P w K mg base CX0 5 "with_phial" ["phials","phial","holds","names"] spWith) :
  FnOk P w K mg base (CXg P w) 6 f fd ["bench","phials","phial","comes","names","place"] (spMore K c3 c4):=by
 refine F.okF kH (λvs H Q E h=>?_) (λcdv A outer s H vs Q E hr h=>?_)
 ·obtain ⟨_,_,_,_,_,_,_,_,_,_,_,_,_,_,_,_,_,_,_,_,rfl,_⟩:=h
  rfl
 ·obtain ⟨b,r,q,l,cm,nm,rs,us,ps,rbs,ws,M,S,i,d,rb,cus,cs,xs,n,rfl,hn,m,kS,kG⟩:=h
  refine ⟨_,(aD (aL (i:=6) kH.nd rfl (Or.inl rfl) (aJ cT hr rfl aR (aA (bC cV (bC bB (pv 1) (pv 2) (λ_ _=>rfl)) aH (λ_ _=>rfl)) (aA (pv 3) aC))))
   (aD (aL (i:=7) kH.nd rfl (Or.inl rfl) (aJ cW hr rfl aR (aA (pv 6) aC)))
   (aD (aL (i:=8) kH.nd rfl (Or.inl rfl) (bC cV (pit 0 0) (pv 2) (λ_ _=>rfl)))
   (aD (bF (dA (aJ cL hr rfl aR (aA (pv 8) (aA (pv 7) aC))))
    (aE (fK (k:=1) rfl xe_f rfl (hr.mono (by decide)) rfl R.m3 (R.r3.e "place" (by simp)).i F3 b3 (aA (pv 5) (aA (pv 2) (aA (aJ cM hr rfl aR (aA (pv 7) (aA (pv 8) aC))) aC)))))
    aQ)
   (aD (aL (i:=9) kH.nd rfl (Or.inl rfl) (aX bH rfl T.tup' cY (aA (aU (iE rfl) rfl T.sorted' boot_sorted (aA (aX (zM rfl) rfl T.set' aDa (aA (aP aA3 (bC cV (bC bB (pv 1) (pv 2) (λ_ _=>rfl)) aH (λ_ _=>rfl)) (pv 4)) aC)) aC)) aC)))
   (aD (aL (i:=10) kH.nd rfl (Or.inl rfl) (aJ cP' hr rfl aR (aA (pv 0) (aA (pv 9) aC))))
   (aD (bF (aM wO (pv 10) dO (aV _))
    (aE (fK (k:=1) rfl xe_f rfl (hr.mono (by decide)) rfl R.m4 (R.r4.e "place" (by simp)).i F4 b4 (aA (pv 5) (aA (pv 2) (aA (pv 10) aC)))))
    aQ)
   (aE (aK (aJ cH hr rfl aR (aA (pv 1) (aA (pv 2) (aA (pv 6) (aA (pv 9) aC)))))))))))))),?_⟩
  obtain ⟨vs,v,hl,vl,hv,a,mm,nn,ms,ys,rfl,ha,hm,pr,mx,hnn⟩:=m.st.get m.di;have okd:=m.ok d (Al m.di);have M0:=m.m0;have oy:Over M ys:=mx.over;have tS:sumN M ys=tot ws d.1:=gW m.ww.nd mx okd.inw;have cS:sumN M cs=tot ws (NW M cs):=(kY m.ww.nd m.cw).symm;have tA:tot ws (λy=>d.1 y+NW M cs y)=sumN M ys+sumN M cs:=by rw [gX,tS,cS]
  have nY:=bW M0 oy;have nC:=bW M0 m.oc;have yl:=xY mx okd.inw;have wl:=m.ww.l;have bT:=m.bs;rw [tA] at bT;refine ⟨_,rfl,_,rfl,l,_,(i:Int),.ref a,rfl,rfl,SqL.of hl,bA hv,a,_,0,.ref mm,rfl,rfl,SqT.of ha,rfl,_,rfl,mm,cm,ms,cus,ys,cs,M,rfl,SqT.of hm,pr,SqT.of m.hc,m.pc,by have:=m.cl;omega,oy,m.oc,M0,m.bm.mono (by decide),by rw [oP];exact bT.mono (by decide),λhd zs zy H1 s1 hhd pz mz=>?_⟩;have mz':IsMx M (λy=>d.1 y+NW M cs y) zy:=mz.congr λy=>by rw [mx.nw]
  have okz:∀ y,d.1 y+NW M cs y≠0->y∈ws:=λy hy=>by
   by_cases e:d.1 y=0
   ·have:NW M cs y≠0:=by omega
    by_cases z:y∈cs.map (·.1)
    ·obtain ⟨x,hx,rfl⟩:=AH.mp z
     exact m.cw x hx
    ·exact absurd (eN z) this
   ·exact okd.inw y e
  have zS:sumN M zy=tot ws (λy=>d.1 y+NW M cs y):=gW m.ww.nd mz' okz;have oz:Over M zy:=mz'.over;have nZ:=bW M0 oz;have bZ:=m.bs;rw [<- zS] at bZ kS kG;refine ⟨_,rfl,hd,zs,zy,M,rfl,SqT.of hhd,pz,oz,M0,m.bm.mono (by decide),λj=>(bZ.le (bW M0 (oz.take j)) (fH M0 j oz)).mono (by decide),λmu t b' H2 s2 hmu fr=>?_⟩;have s02:=s1.trans s2;obtain ⟨t_le,b_le⟩:=dE M0 fr;have bb:=fr.am.b1;have bt:Bt 4000 t:=(bZ.le fr.am.t0 t_le).mono (by decide);have bb':Bt 4000 b':=(m.bm.le (by omega) b_le).mono (by decide);obtain ⟨rv,hrv⟩:∃ rv,rs[i]?=some rv:=⟨_,Ac (by rw [<- m.sl];exact (Ae.mp m.di).1)⟩;obtain ⟨rb',hrb',ra,rfl,hra,rmm⟩:=m.rm.get hrv;rw [m.rbi] at hrb';cases hrb';have bn2:=m.bn.keep s02;have i16:i<16:=by
   have h1:=(Ae.mp hrv).1;have h2:=m.bn.l16;omega
  have tw:Tw K H2 ra mu rb.1 rb.2 t b':=⟨SqT.of (s02 _ _ hra),hmu,⟨by have:=rmm.t1;omega,rmm.b1,rmm.g⟩,fr.am,rmm.st.mono (by decide),rmm.sb.mono (by decide),bt,bb'⟩;have frr:Fr rb.2 rb.1 rb.2 rb.1:=yR rmm;refine ⟨b,_,_,rfl,SqT.of bn2.hp,rfl,_,rfl,r,_,(i:Int),.ref ra,rfl,rfl,SqT.of bn2.hr,bA hrv,?_⟩;refine ⟨_,rfl,_,rfl,ra,mu,rb.1,rb.2,t,b',rfl,tw,_,rfl,?_⟩;rw [yT M0 fr];refine ite2 (λc=>?_) (λc=>?_)
  ·have c':rb.1*M<sumN M zy*rb.2:=of_decide_eq_true c
   obtain ⟨le,fo⟩:=fV (M1:=M) (M2:=rb.2) M0 (by have:=rmm.b1;omega) fr frr (by omega);refine ⟨_,rfl,_,rfl,_,rfl,_,rfl,mu,ra,t,b',rb.1,rb.2,rfl,tw.flip,le,λpo H3 s3 hpo=>?_⟩;exact aGu hn (by omega) λdx H' s' hd=>kS c' po _ _ dx H' ((s02.trans s3).trans s') (s' _ _ hpo) fo hd
  ·have c':¬ rb.1*M<sumN M zy*rb.2:=of_decide_eq_false (by simpa using c)
   refine ⟨_,rfl,_,rfl,l,_,(i:Int),.ref a,rfl,rfl,SqL.of (s02 _ _ hl),bA hv,a,_,1,.ref nn,rfl,rfl,SqT.of (s02 _ _ ha),rfl,_,rfl,?_⟩;have nl:d.2.length<=6:=AU ((eQ okd.srt).length_le_of_subset okd.nin) wl;refine catT (s02 _ _ hnn) (s02 _ _ m.hn) (by have:=m.xl;omega) λpc H3 s3 hpc=>?_;have ll:(d.2++xs).length<=30:=by rw [Ay];have:=m.xl;omega
   refine ⟨pc,_,rfl,hpc,by omega,λp2 np2=>⟨p2,_,rfl,aB,Dl (SX.ddl_len _) (by omega),λp3 nm' pm so np3=>⟨p3,_,rfl,.inl ⟨SqL.of aB,λp4 np4=>?_⟩⟩⟩⟩;have u:=aCw pm so;have s4:=Same.upd (o:=.tup (nm'.map V.str)) np4;have s3':=((Same.upd np2).trans (Same.upd (o:=.lst (nm'.map V.str)) np3)).trans s4;have s04:=(s02.trans s3).trans s3';have bn4:=m.bn.keep s04;refine ⟨_,rfl,_,rfl,b,r,q,rs,us,ps,p4,nm',rfl,bn4,SqT.of aB,?_⟩;obtain ⟨kT,kO⟩:=kG c' nm' u
   rcases jL (xs:=nm') m.bn.pt with e|⟨pa,p,e,pmem,hpa⟩
   ·rw [e]
    refine ⟨_,rfl,rfl,_,rfl,iteF ?_⟩;have s14:=(s2.trans s3).trans s3';have il:=(Ae.mp hv).1;have l16:=m.bn.l16;have sl:=m.sl;refine ⟨_,rfl,_,rfl,_,rfl,_,rfl,l,i,.ref hd,.ref p4,vs,rfl,s04 _ _ hl,il,by omega,λl' z H5 s5 nl' hz hl'=>?_⟩;exact kO e l' H5 (s04.trans s5) (sm0 s04 nl') (m.st.put hl (s04.trans s5) hl' ⟨z,hd,p4,zs,zy,rfl,hz,(s14.trans s5) _ _ hhd,pz.keep (s14.trans s5).tk,mz',s5 _ _ aB⟩)
   ·rw [e]
    refine ⟨_,rfl,rfl,_,rfl,iteT ?_⟩;have g:=m.bn.g.ok p pmem;exact ⟨_,rfl,_,rfl,_,rfl,aEd hn (by omega) (s04 _ _ hpa) g.1 g.2.1 ((kT pa e).mono s04)⟩
end
structure BS (H:Hp)(b r q:Addr)(rs us:List V)(ps:List (Str×Str))(rbs:List (Int×Int))(ws:List Str):Prop where
 bn:Bn H b r q rs us ps
 rm:RmL H rs rbs
 ww:Wss ws
def BS.keep {H H':Hp}{b r q:Addr}{rs us:List V}{ps:List (Str×Str)}{rbs:List (Int×Int)}{ws:List Str}(s:Same H H')(h:BS H b r q rs us ps rbs ws):BS H' b r q rs us ps rbs ws:=⟨h.bn.keep s,h.rm.keep s.tk,h.ww⟩
structure Sok (ws:List Str)(rbs:List (Int×Int))(M:Int)(S:List PF)(β:Nat):Prop where
 m0:0<M
 bm:Bt β M
 sl:S.length=rbs.length
 ok:∀ d∈S,Okf ws d
 fit:∀ (i:Nat) d rb,S[i]?=some d->rbs[i]?=some rb->tot ws d.1*rb.2<=rb.1*M
def scl (b:Int)(S:List PF):List PF:=S.map λd=>(λy=>d.1 y*b,d.2)
def fI {b:Int}{S:List PF}{i:Nat}{d:PF}(h:S[i]?=some d):(scl b S)[i]?=some (λy=>d.1 y*b,d.2):=by
 unfold scl;rw [Ao,h];rfl
theorem eY (f:Str->Int)(b:Int):∀ ws:List Str,tot ws (λy=>f y*b)=tot ws f*b
 |[]=>by simp [tot]
 |y::r=>by
  have ih:=eY f b r;unfold tot at ih ⊢;rw [An,An,AK,AK,ih,Int.add_mul]
def iN {M1 M2 t b n1 n2:Int}(h:Fr M1 t b n1)(h1:0<M1)(e:n1*M2=n2*M1):Fr M2 t b n2:=by
 refine ⟨h.am,Bm (show M1≠0 by omega) ?_⟩;have:=h.e
 calc t*M2*M1=t*M1*M2:=by rw [AS]
  _=n1*b*M2:=by rw [this]
  _=n1*M2*b:=by rw [AS]
  _=n2*M1*b:=by rw [e]
  _=n2*b*M1:=by rw [AS]
def IsMx.scale {M1 M2:Int}{f1 f2:Str->Int}{ys:List (Str×Int×Int)}(h:IsMx M1 f1 ys)(h1:0<M1)(h2:0<M2)(e:∀ y,f1 y*M2=f2 y*M1):IsMx M2 f2 ys:=by
 refine ⟨h.pw,h.nd,λy=>?_,λp hp=>iN (h.fr p hp) h1 (e _)⟩;rw [h.mem];have q:=e y;constructor
 ·intro n z
  rw [z,Br] at q
  rcases DQ.mp q with w|w
  ·exact n w
  ·omega
 ·intro n z
  rw [z,Br] at q
  rcases DQ.mp q.symm with w|w
  ·exact n w
  ·omega
def StV.scale {H:Hp}{l:Addr}{M b:Int}{S:List PF}(h:StV H l M S)(M0:0<M)(b0:0<b):StV H l (M*b) (scl b S):=by
 obtain ⟨vs,h1,h2,h3⟩:=h;refine ⟨vs,h1,by unfold scl;rw [Af];exact h2,λi v d hv hd=>?_⟩;unfold scl at hd;rw [Ao] at hd;obtain ⟨e,he,rfl⟩:=AO.mp hd;obtain ⟨a,m,n,us,ys,e1,e2,e3,e4,e5,e6⟩:=h3 i v e hv he;exact ⟨a,m,n,us,ys,e1,e2,e3,e4,e5.scale M0 (Cr M0 b0) λy=>by rw [BJ M b,<- BM],e6⟩
def Okf.scale {ws:List Str}{d:PF}{b:Int}(h:Okf ws d)(b0:0<b):Okf ws (λy=>d.1 y*b,d.2):=
 ⟨λy=>BB (h.nn y) (Int.le_of_lt b0),h.nin,h.srt,λy hy=>h.inw y λe=>hy (by show d.1 y*b=0;rw [e,Br])⟩
def Sok.scale {ws:List Str}{rbs:List (Int×Int)}{M b:Int}{S:List PF}{β γ:Nat}(h:Sok ws rbs M S β)(b0:0<b)(bb:Bt γ b):Sok ws rbs (M*b) (scl b S) (β+γ):=by
 refine ⟨Cr h.m0 b0,h.bm.mul bb,by unfold scl;rw [Af];exact h.sl,λd hd=>?_,λi d rb hd hr=>?_⟩
 ·unfold scl at hd
  obtain ⟨e,he,rfl⟩:=AH.mp hd;exact (h.ok e he).scale b0
 ·unfold scl at hd
  rw [Ao] at hd;obtain ⟨e,he,rfl⟩:=AO.mp hd;have f:=EN (h.fit i e rb he hr) (Int.le_of_lt b0);show tot ws (λy=>e.1 y*b)*rb.2<=rb.1*(M*b);rw [eY,AS,<- BM];exact f
def oneW (x:Str)(n:Int):Str->Int:=λy=>if x=y then n else 0
def IntoR (c3 c4:Addr)(us:List V)(ps:List (Str×Str))(ws:List Str)(M:Int)(S:List PF)(i:Nat)(d:PF)(rb:Int×Int)(add:Str->Int)(xs:List Str)(n:Nat)(H:Hp)(Q:VK)(E:XK):Prop:=
 (rb.1*M<tot ws (λy=>d.1 y+add y)*rb.2->BadO c3 n i M (tot ws (λy=>d.1 y+add y)) rb H E) /\
 (¬ rb.1*M<tot ws (λy=>d.1 y+add y)*rb.2->∀ nm',NmU d.2 xs nm'->(∀ pa,pairOf us ps nm'=.ref pa->BadE c4 [("pair",.ref pa),("phial",.int (i:Nat)),("place",.int (n:Nat))] H E) /\
  (pairOf us ps nm'=.non->∀ l' H',Same H H'->H l'=none->StV H' l' M (S.set i (λy=>d.1 y+add y,nm'))->Q (.ref l') H'))
def IntoR.mono {c3 c4:Addr}{us:List V}{ps:List (Str×Str)}{ws:List Str}{M:Int}{S:List PF}{i:Nat}{d:PF}{rb:Int×Int}{add:Str->Int}{xs:List Str}{n:Nat}{H H1:Hp}{Q:VK}{E:XK}(s:Same H H1)(h:IntoR c3 c4 us ps ws M S i d rb add xs n H Q E):IntoR c3 c4 us ps ws M S i d rb add xs n H1 Q E:=
 ⟨λc=>(h.1 c).mono s,λc nm' u=>⟨λpa e=>((h.2 c nm' u).1 pa e).mono s,λe l' H' s' nl=>(h.2 c nm' u).2 e l' H' (s.trans s') (sm0 s nl)⟩⟩
theorem aDd {M t b:Int}{x:Str}(b0:0<b)(y:Str):NW (M*b) [(x,t,b)] y=oneW x (t*M) y:=by
 rw [jY];unfold oneW;have:NW (M*b) [] y=0:=eN (by simp);rw [this,Int.add_zero];have e:nOf (M*b) (x,t,b)=t*M:=by
  show t*(M*b/b)=t*M;rw [Int.mul_ediv_cancel _ (by omega)]
 rw [e]
theorem oO {x:Str}{n:Int}:∀ {ws:List Str},ws.Nodup->x∈ws->tot ws (oneW x n)=n
 |[],_,h=>by cases h
 |y::r,nd,h=>by
  have nd':=Bo.mp nd;have z:∀ {r:List Str},x∉r->tot r (oneW x n)=0:=λ{r}=>by
   induction r with
   |nil=>intro _;rfl
   |cons u q ih=>
    intro h;have ih':=ih λm=>h (Ah _ m);unfold tot at ih' ⊢;rw [An,AK,ih'];unfold oneW;rw [if_neg λe=>h (by rw [e];exact Ar ..)];rfl
  by_cases e:x=y
  ·subst e
   have zr:=z nd'.1;unfold tot at zr ⊢;rw [An,AK,zr];unfold oneW;rw [if_pos rfl,Int.add_zero]
  ·have ih:=oO (n:=n) nd'.2 ((AA.mp h).resolve_left e)
   unfold tot at ih ⊢;rw [An,AK,ih];unfold oneW;rw [if_neg e,Int.zero_add]
def Sok.small {ws:List Str}{rbs:List (Int×Int)}{M:Int}{S:List PF}{β:Nat}{i:Nat}{d:PF}{rb:Int×Int}(h:Sok ws rbs M S β)(hd:S[i]?=some d)(hr:rbs[i]?=some rb)(rm:Rm rb.1 rb.2):0<=tot ws d.1/\Bt (100+β) (tot ws d.1):=by
 have n0:∀ r:List Str,0<=tot r d.1:=λr=>by
  induction r with
  |nil=>exact DC _
  |cons y r ih=>
   have:=(h.ok d (Al hd)).nn y;unfold tot at ih ⊢;rw [An,AK];omega
 have f:=h.fit i d rb hd hr;have b1:=rm.b1;have m:=CM b1 (n0 ws);rw [Int.mul_one] at m;exact ⟨n0 ws,(rm.st.mul h.bm).le (n0 ws) (by omega)⟩
structure OnIn (H:Hp)(b r q l:Addr)(rs us:List V)(ps:List (Str×Str))(rbs:List (Int×Int))(ws:List Str)(M:Int)(S:List PF)(β:Nat):Prop where
 bs:BS H b r q rs us ps rbs ws
 st:StV H l M S
 so:Sok ws rbs M S β
 b24:β<=2400
def OnIn.keep {H H':Hp}{b r q l:Addr}{rs us:List V}{ps:List (Str×Str)}{rbs:List (Int×Int)}{ws:List Str}{M:Int}{S:List PF}{β:Nat}(s:Same H H')(h:OnIn H b r q l rs us ps rbs ws M S β):OnIn H' b r q l rs us ps rbs ws M S β:=⟨h.bs.keep s,h.st.keep s,h.so,h.b24⟩
theorem RmL.at {H:Hp}{rs:List V}{rbs:List (Int×Int)}(h:RmL H rs rbs){i:Nat}{rb:Int×Int}(hr:rbs[i]?=some rb):Rm rb.1 rb.2:=by
 obtain ⟨v,hv⟩:∃ v,rs[i]?=some v:=⟨_,Ac (by rw [h.1];exact (Ae.mp hr).1)⟩;obtain ⟨_,_,_,rm⟩:=h.2 i v rb hv hr;exact rm
def aHo {K:Ab}{H:Hp}{b r q l cm nm pr qa:Addr}{rs us:List V}{ps:List (Str×Str)}{rbs:List (Int×Int)}{ws:List Str}{M:Int}{S:List PF}{β i:Nat}{d:PF}{rb:Int×Int}{x:Str}{t t' b':Int}
  (o:OnIn H b r q l rs us ps rbs ws M S β) (hd:S[i]?=some d) (hr:rbs[i]?=some rb) (xw:x∈ws) (hM:b'∣M*t') (am:Amt t b') (t0:0<t') (bt:Bt 2600 (NW (M*t') [(x,t,b')] x)) (bt':Bt 200 t')
  (hc:H cm=some (.tup [.ref pr])) (hp:H pr=some (.tup [.str x,.ref qa])) (hq:H qa=some (.tup [.int t,.int b'])) (hn:H nm=some (.tup [.str x])) :
  MoreIn K H b r q l cm nm rs us ps rbs ws (M*t') (scl t' S) i (λy=>d.1 y*t',d.2) rb [.ref pr] [(x,t,b')] [x]:=by
 have rm:=o.bs.rm.at hr;obtain ⟨n0,sm⟩:=o.so.small hd hr rm;have b24:=o.b24;have ss:=o.so.scale t0 bt';refine ⟨o.bs.bn,o.bs.rm,o.bs.ww,o.st.scale o.so.m0 t0,by unfold scl;rw [Af,o.so.sl];exact o.bs.rm.1.symm,ss.ok,fI hd,hr,hc,.cons ⟨pr,qa,rfl,hp,hq⟩ .nil,λz hz=>?_,λz hz=>?_,(by show 1<=6;decide),hn,λz hz=>?_,(by show 1<=20;decide),Cr o.so.m0 t0,(o.so.bm.mul bt').mono (by omega),?_⟩
 ·rw [AE.mp hz]
  exact ⟨am,hM⟩
 ·rw [AE.mp hz]
  exact xw
 ·rw [AE.mp hz]
  exact xw
 ·have e:tot ws (λy=>d.1 y*t'+NW (M*t') [(x,t,b')] y)=tot ws d.1*t'+NW (M*t') [(x,t,b')] x:=by
   rw [gX (λy=>d.1 y*t') (NW (M*t') [(x,t,b')]) ws,eY];have:NW (M*t') [(x,t,b')]=oneW x (NW (M*t') [(x,t,b')] x):=funext λy=>by
    unfold oneW;split
    ·rename_i h;rw [h]
    ·rename_i h;exact eN (by simpa using λe=>h e.symm)
   conv=>lhs;rw [this]
   rw [oO o.bs.ww.nd xw]
  show Bt 2900 (tot ws (λy=>d.1 y*t'+NW (M*t') [(x,t,b')] y));rw [e];have h1:Bt 2800 (tot ws d.1*t'):=(sm.mul bt').mono (by omega);exact (h1.add (bt.mono (by decide))).mono (by decide)
inductive spODraw (C c3 c4:Addr)(vs:List V)(H:Hp)(Q:VK)(E:XK):Prop
 |mk (p dx b r q l qa rs us ps rbs ws M S β i d rb x t b' n:_) (e0:vs=[.ref p,.ref b,.ref l,.int (n:Nat)]) (e1:n<1000) (e2:H p=some (.ins C dx (fs3 "phial" "ware" "amount" (.int (i:Nat)) (.str x) (.ref qa)))) (e3:H qa=some (.tup [.int t,.int b'])) (e4:RwA t b') (e5:x∈ws) (e6:OnIn H b r q l rs us ps rbs ws M S β) (e7:S[i]?=some d) (e8:rbs[i]?=some rb) (e9:IntoR c3 c4 us ps ws (M*b') (scl b' S) i (λy=>d.1 y*b',d.2) rb (oneW x (t*M)) [x] n H Q E):spODraw C c3 c4 vs H Q E
inductive spOEmpty (C:Addr)(vs:List V)(H:Hp)(Q:VK)(E:XK):Prop
 |mk (p dx bv l M S i d nv:_) (e0:vs=[.ref p,bv,.ref l,nv]) (e1:H p=some (.ins C dx (fs1 "phial" (.int ((i:Nat):Int))))) (e2:StV H l M S) (e3:S.length<=16) (e4:S[i]?=some d) (e5:∀ l' H',Same H H'->H l'=none->StV H' l' M (S.set i (λ_=>0,d.2))->Q (.ref l') H'):spOEmpty C vs H Q E
inductive spORinse (C c2:Addr)(vs:List V)(H:Hp)(Q:VK)(E:XK):Prop
 |mk (p dx bv l M S i d n:_) (e0:vs=[.ref p,bv,.ref l,.int ((n:Nat):Int)]) (e1:n<1000) (e2:H p=some (.ins C dx (fs1 "phial" (.int ((i:Nat):Int))))) (e3:StV H l M S) (e4:S.length<=16) (e5:S[i]?=some d) (e6:(¬ (∀ y,d.1 y=0)->BadE c2 [("phial",.int (i:Nat)),("place",.int (n:Nat))] H E)) (e7:((∀ y,d.1 y=0)->∀ l' H',Same H H'->H l'=none->StV H' l' M (S.set i (λ_=>0,[]))->Q (.ref l') H')):spORinse C c2 vs H Q E
def kM {M:Int}:IsMx M (λ_=>0) []:=⟨.nil,.nil,λy=>by simp,λp h=>nomatch h⟩
def fQ {M:Int}{f:Str->Int}{ys:List (Str×Int×Int)}(mx:IsMx M f ys):ys=[]↔∀ y,f y=0:=by
 constructor
 ·rintro rfl y
  exact Be λh=>nomatch (mx.mem y).mpr h
 ·intro h
  cases ys with
  |nil=>rfl
  |cons x r=>exact absurd (h x.1) ((mx.mem x.1).mp (by simp))
section
variable {P:Av}{w:World}{K:Ab}{mg:Str->Option Value}{base:Heap}{cP c0 c1 c2 c3 c4 f0 f1 f2 f3 f4 C:Addr}
abbrev Non:List Str:=["self","bench","phials","place"]
def aDy:FnScope Non Non (aG vP):=fnScOk (by decide +kernel)
def aBc {f:Addr}{fd:Az}(F:Fun K "onto_at" "Draw.onto_at" vP f fd)(D:DCl K C ["phial","ware","amount"])(cM:Cal P w K mg base (CXg P w) 6 "with_more" ["bench","phials","phial","comes","names","place"] (spMore K c3 c4)):FnOk P w K mg base (CXg P w) 7 f fd Non (spODraw C c3 c4):=by
 refine F.okF aDy (λvs H Q E h=>?_) (λcdv A outer s H vs Q E hr h=>?_)
 ·obtain ⟨_,_,_,_,_,_,_,_,_,_,_,_,_,_,_,_,_,_,_,_,_,_,rfl,_⟩:=h
  rfl
 ·obtain ⟨p,dx,b,r,q,l,qa,rs,us,ps,rbs,ws,M,S,β,i,d,rb,x,t,b',n,rfl,hn,hp,hqa,ra,xw,o,hd,hrb,kI⟩:=h
  refine ⟨_,aE (aK (aJ cM hr rfl mZ (aA (pv 1) (aA (pv 2) (aA (cZ (pv 0) rfl) (aA (aW (aA (aW (aA (cZ (pv 0) rfl) (aA (cZ (pv 0) rfl) aC))) aC)) (aA (aW (aA (cZ (pv 0) rfl) aC)) (aA (pv 3) aC)))))))),?_⟩;have F1:=aFk (f1:="phial") (f2:="ware") (f3:="amount") (u1:=.int (i:Nat)) (u2:=.str x) (u3:=.ref qa) (by decide +kernel) (by decide +kernel);have F2:=aFj (f1:="phial") (f2:="ware") (f3:="amount") (u1:=.int (i:Nat)) (u2:=.str x) (u3:=.ref qa) (by decide +kernel);have F3:=aFi (f1:="phial") (f2:="ware") (f3:="amount") (u1:=.int (i:Nat)) (u2:=.str x) (u3:=.ref qa);refine ⟨_,rfl,_,rfl,_,rfl,p,C,dx,_,_,rfl,hp,D.cl,D.na _ (by simp),F1,_,rfl,p,C,dx,_,_,rfl,hp,D.cl,D.na _ (by simp),F2,_,rfl,p,C,dx,_,_,rfl,hp,D.cl,D.na _ (by simp),F3,zLn2,λpr npr=>⟨zLn1,λcm ncm=>?_⟩⟩;have s1:=Same.upd (o:=.tup [.str x,.ref qa]) npr;have s2:=Same.upd (o:=.tup [.ref pr]) ncm;refine ⟨_,rfl,p,C,dx,_,_,rfl,(s1.trans s2) _ _ hp,D.cl,D.na _ (by simp),F2,zLn1,λnm nnm=>⟨_,rfl,?_⟩⟩;have s3:=Same.upd (o:=.tup [.str x]) nnm;have s03:=(s1.trans s2).trans s3;have b0:0<b':=by have:=ra.am.b1;omega
  have e:NW (M*b') [(x,t,b')]=oneW x (t*M):=funext (aDd b0);have kI':=(kI.mono s03);rw [<- e] at kI';refine ⟨b,r,q,l,cm,nm,rs,us,ps,rbs,ws,M*b',scl b' S,i,_,rb,[.ref pr],[(x,t,b')],[x],n,rfl,hn,aHo (o.keep s03) hd hrb xw (Int.dvd_mul_left ..) ra.am b0 ?_ ra.bb (s3 _ _ aB) ((s2.trans s3) _ _ aB) (s03 _ _ hqa) aB,kI'.1,kI'.2⟩;rw [aDd b0];unfold oneW;rw [if_pos rfl];have b24:=o.b24;exact (ra.bt.mul o.so.bm).mono (by omega)
def aAp:FnScope Non Non (aG pD):=fnScOk (by decide +kernel)
def xK {f:Addr}{fd:Az}(F:Fun K "onto_at" "Empty.onto_at" pD f fd)(D:DCl K C ["phial"])(cH:Cal P w K mg base CX0 6 "with_phial" ["phials","phial","holds","names"] spWith):FnOk P w K mg base (CXg P w) 7 f fd Non (spOEmpty C):=by
 refine F.okF aAp (λvs H Q E h=>?_) (λcdv A outer s H vs Q E hr h=>?_)
 ·obtain ⟨_,_,_,_,_,_,_,_,_,rfl,_⟩:=h
  rfl
 ·obtain ⟨p,dx,bv,l,M,S,i,d,nv,rfl,hp,st,s16,hd,k⟩:=h
  refine ⟨_,aE (aK (aJ cH hr rfl aR (aA (pv 2) (aA (cZ (pv 0) rfl) (aA (aW aC) (aA (bC cV (bC bB (pv 2) (cZ (pv 0) rfl) (λ_ _=>rfl)) aH (λ_ _=>rfl)) aC)))))),?_⟩;obtain ⟨vs,v,hl,vl,hv,a,mm,nn,ms,ys,rfl,ha,hm,pr,mx,hnn⟩:=st.get hd;have il:=(Ae.mp hv).1;refine ⟨_,rfl,_,rfl,p,C,dx,_,_,rfl,hp,D.cl,D.na _ (by simp),yQ,zLn0,λz0 nz0=>?_⟩;have s1:=Same.upd (o:=.tup []) nz0;refine ⟨_,rfl,_,rfl,p,C,dx,_,_,rfl,s1 _ _ hp,D.cl,D.na _ (by simp),yQ,l,_,(i:Int),.ref a,rfl,rfl,SqL.of (s1 _ _ hl),bA hv,a,_,1,.ref nn,rfl,rfl,SqT.of (s1 _ _ ha),rfl,?_⟩;refine ⟨l,i,.ref z0,.ref nn,vs,rfl,s1 _ _ hl,il,by omega,λl' z H5 s5 nl' hz hl'=>?_⟩;exact k l' H5 (s1.trans s5) (sm0 s1 nl') (st.put hl (s1.trans s5) hl' ⟨z,z0,nn,[],[],rfl,hz,s5 _ _ aB,.nil,kM,(s1.trans s5) _ _ hnn⟩)
def aAo:FnScope Non Non (aG pC):=fnScOk (by decide +kernel)
def xI {f:Addr}{fd g2:Az}(F:Fun K "onto_at" "Rinse.onto_at" pC f fd)(D:DCl K C ["phial"])(R:ErB K mg cP c0 c1 c2 c3 c4 f0 f1 f2 f3 f4)(F2:FnOk P w K mg base CX0 1 f2 g2 ["self","place","phial"] (spI2 c2))(b2:Binds K g2 ["self","place","phial"] [])(cH:Cal P w K mg base CX0 6 "with_phial" ["phials","phial","holds","names"] spWith):FnOk P w K mg base (CXg P w) 7 f fd Non (spORinse C c2):=by
 refine F.okF aAo (λvs H Q E h=>?_) (λcdv A outer s H vs Q E hr h=>?_)
 ·obtain ⟨_,_,_,_,_,_,_,_,_,rfl,_⟩:=h
  rfl
 ·obtain ⟨p,dx,bv,l,M,S,i,d,n,rfl,hn,hp,st,s16,hd,kB,kG⟩:=h
  refine ⟨_,(aD (bF (aM (wR hr.units) (bC cV (bC bB (pv 2) (cZ (pv 0) rfl) (λ_ _=>rfl)) aH (λ_ _=>rfl)) (aW aC) (aV _))
    (aE (fK (k:=1) rfl xe_f rfl (hr.mono (by decide)) rfl R.m2 (R.r2.e "place" (by simp)).i F2 b2 (aA (pv 3) (aA (cZ (pv 0) rfl) aC))))
    aQ)
   (aE (aK (aJ cH hr rfl aR (aA (pv 2) (aA (cZ (pv 0) rfl) (aA (aW aC) (aA (aW aC) aC)))))))),?_⟩
  obtain ⟨vs,v,hl,vl,hv,a,mm,nn,ms,ys,rfl,ha,hm,pr,mx,hnn⟩:=st.get hd;have il:=(Ae.mp hv).1;refine ⟨_,rfl,_,rfl,p,C,dx,_,_,rfl,hp,D.cl,D.na _ (by simp),yQ,l,_,(i:Int),.ref a,rfl,rfl,SqL.of hl,bA hv,a,_,0,.ref mm,rfl,rfl,SqT.of ha,rfl,zLn0,λz0 nz0=>?_⟩;have s1:=Same.upd (o:=.tup []) nz0;have hz0:upd H z0 (.tup []) z0=some (.tup []):=aB;generalize upd H z0 (.tup [])=H1 at s1 hz0 ⊢;refine ⟨mm,z0,_,rfl,rfl,SqT.of (s1 _ _ hm),SqT.of hz0,_,rfl,?_⟩;have pl:=pr.length;refine ite2 (λc=>?_) (λc=>?_)
  ·have ne:¬ (∀ y,d.1 y=0):=λz=>by
    have:=(fQ mx).mpr z;subst this;have:ms=[]:=Bq.mp pl;subst this;exact absurd c (by decide)
   exact ⟨_,rfl,_,rfl,p,C,dx,_,_,rfl,s1 _ _ hp,D.cl,D.na _ (by simp),yQ,wA hn (by omega) ((kB ne).mono s1)⟩
  ·have em:ms=[]:=by
    cases ms with
    |nil=>rfl
    |cons u r=>exact absurd rfl c
   have z:∀ y,d.1 y=0:=(fQ mx).mp (Bq.mp (by rw [<- pl,em];rfl));refine ⟨_,rfl,_,rfl,p,C,dx,_,_,rfl,s1 _ _ hp,D.cl,D.na _ (by simp),yQ,zLn0,λz1 nz1=>⟨zLn0,λz2 nz2=>?_⟩⟩;have s2:=Same.upd (o:=.tup []) nz1;have s3:=Same.upd (o:=.tup []) nz2;have h1:upd (upd H1 z1 (.tup [])) z2 (.tup []) z1=some (.tup []):=s3 _ _ aB;have s03:=(s1.trans s2).trans s3;refine ⟨l,i,.ref z1,.ref z2,vs,rfl,s03 _ _ hl,il,by omega,λl' z' H5 s5 nl' hz hl'=>?_⟩;exact kG z l' H5 (s03.trans s5) (sm0 s03 nl') (st.put hl (s03.trans s5) hl' ⟨z',z1,z2,[],[],rfl,hz,s5 _ _ h1,.nil,kM,s5 _ _ aB⟩)
end
end K52
namespace L2
open PySem PySem.Spec PyProof.Rows
def aF6 (m:Str)(Cs:List (Addr×Sp))(E:XK)(ta:TE)(t:TA):TE:=λσ H Q=>ta σ H λx H1=>∃ C sp a dx fs,(C,sp)∈Cs/\x=.ref a/\H1 a=some (.ins C dx fs)/\fs.lookup m=none/\t σ H1 λys H2=>sp (x::ys) H2 Q E
def aG2 {k:Nat}(hC:∀ c∈Cs,Cls X.K c.1/\MCal X.prog X.w X.K X.mg X.base CX k c.1 m ps c.2)(hr:Room k X.A)(hx:gU CX X E)(he:PE X o ta)(ha:PA X (e::es) t)(hst:AQ (e::es) X.env=(false,eval e X.env)::AQ es X.env:=by rfl)(hpl:(backTo pos (AQ es X.env)).any (·.1)=false:=by rfl)(ht:eval (.Call (.Attribute o m apos) (e::es) [] pos) X.env=(do
   let ov <- eval o X.env
   standAt apos.atName
   let (f,first) <- holding [ov] (getMethod ov m pl)
   callWith pos f first (backTo pos (AQ (e::es) X.env)) (backToKw pos (keywordEach [] X.env))):=by rfl) :
  PE X (.Call (.Attribute o m apos) (e::es) [] pos) (aF6 m Cs E ta t):=by
 intro pins s σ H Q I h;refine PySem.W.methodCall_KW (pl:=pl) (thn (he pins s σ H _ I h) λu s1 ⟨x,H1,I1,rx,C,sp,a,dx,fs,hm,ex,ea,l,q⟩=>?_) ht;subst ex;obtain rfl:u=AC a:=rx;obtain ⟨c,M⟩:=hC _ hm;obtain ⟨f,fd,hm',b,F⟩:=M;refine uG I1 ea c hm' l ?_;refine Ei (first:=[.ref a]) (h₀:=X.base) I.ok.mod.kin hm'.kp (thn (ha pos pins s1 σ H1 _ I1 q) λus s2 ⟨vs,H2,I2,r,q2⟩=>⟨I2.kIn,?_⟩) hst hpl;exact aCn (us:=.ref a::us) (vs:=.ref a::vs) (dvs:=[]) F hr b .nil hx I2 (.cons rfl r) (by rw [Cc];exact q2)
end L2
namespace K52
end K52
namespace K52
open PySem PySem.Spec PyProof.Rows L2 GM TM
def aIg {H H2:Hp}{d:Addr}{ob:Obj}{kvs:List (Key×V)}(hd:H d=some (.dK kvs))(s:Same (upd H d (.frz ob (.dK kvs))) H2):Same H (upd H2 d (.dK kvs)):=λb o e=>by
 by_cases n:b=d
 ·subst n
  rw [hd] at e;rw [aB];exact e
 ·rw [aI n]
  exact s b o (by rw [aI n];exact e)
def aCx {ks:List Str}{kvs:List (Key×V)}{i:Nat}{kv:Key×V}(h:kvs.map (·.1)=ks.map AR)(hk:kvs[i]?=some kv):∃ y,ks[i]?=some y/\kv.1=AR y:=by
 have e:=congrArg (λl=>l[i]?) h;simp only [Ao,hk,CT] at e;cases q:ks[i]? with
 |none=>rw [q] at e;cases e
 |some y=>rw [q] at e;exact ⟨y,rfl,AG e⟩
inductive spSum (K:Ab)(vs:List V)(H:Hp)(Q:VK)(Ex:XK):Prop
 |mk (d kvs ks M xs:_) (e0:vs=[.ref d]) (e1:H d=some (.dK kvs)) (e2:DA H M xs kvs ks) (e3:0<M) (e4:Bt 2900 M) (e5:Over M xs) (e6:Bt 2900 (sumN M xs)) (e7:∀ f t b H',Same H H'->H' f=some (.tup [.int t,.int b])->Fr M t b (sumN M xs)->Q (.ref f) H'):spSum K vs H Q Ex
theorem lA (f:Str->Int)(nn:∀ y,0<=f y):∀ (ks:List Str) (i:Nat),((ks.take i).map f).sum<=(ks.map f).sum/\0<=((ks.take i).map f).sum
 |[],i=>by simp
 |y::r,0=>by
  have h:=lA f nn r r.length;rw [BF] at h;have:=nn y;simp only [List.take_zero,List.map_nil,List.sum_nil,An,AK];exact ⟨by omega,DC _⟩
 |y::r,i+1=>by
  have h:=lA f nn r i;have:=nn y;rw [List.take_succ_cons,An,An,AK,AK];exact ⟨by omega,by omega⟩
def aFv {M:Int}(hM:0<M){xs:List (Str×Int×Int)}(h:Over M xs)(y:Str):0<=NW M xs y:=by
 have:=(qJ hM h xs.length y).1;rwa [BF] at this
section
variable {P:Av}{w:World}{K:Ab}{mg:Str->Option Value}{base:Heap}
def aAm:FnScope ["_law_held","_law_found","_law_ware"] ["_law_held"] (aG sSum):=fnScOk (by decide +kernel)
def aHa {f:Addr}{fd:Az}(F:Fun K "_law_sum" "_law_sum" sSum f fd)(cA:Cal P w K mg base CX0 2 "_law_add" ["_law_one","_law_other"] (spAdd K)):FnOk P w K mg base CX0 3 f fd ["_law_held"] (spSum K):=by
 refine F.ok aAm (λvs H Q E h=>?_) (λcdv A outer s H vs Q E hr h=>?_)
 ·obtain ⟨_,_,_,_,_,rfl,_⟩:=h
  rfl
 ·obtain ⟨d,kvs,ks,M,xs,rfl,hd,da,M0,bM,ov,bS,k⟩:=h
  refine ⟨_,(aD (aL (i:=1) aAm.nd rfl (Or.inl rfl) (aW (aA aH (aA aH aC))))
   (aD (wB (cJ AJ rfl (wH (pv 0)) (aS (i:=2) aAm.nd rfl (Or.inl rfl))
    (aE (aL (i:=1) aAm.nd rfl (Or.inl rfl) (aJ cA hr rfl aR (aA (pv 1) (aA (jJ (kC hr) (pv 0) (pv 2) (λ_ _=>rfl)) aC)))))))
   (aE (aK (pv 1))))),?_⟩
  refine ⟨zLn2,λz nz=>?_⟩;have s1:=Same.upd (o:=.tup [.int 0,.int 1]) nz;have hz:upd H z (.tup [.int 0,.int 1]) z=some (.tup [.int 0,.int 1]):=aB;generalize upd H z (.tup [.int 0,.int 1])=H1 at s1 hz ⊢;have hd1:=s1 _ _ hd;have da1:=da.keep s1.tk;have tkd:Tk H1 (upd H1 d (.frz (default:Obj) (.dK kvs))):=Tk.dk hd1;refine ⟨_,rfl,d,kvs,rfl,hd1,λob=>?_⟩;have tk:Tk H1 (upd H1 d (.frz ob (.dK kvs))):=Tk.dk hd1;have kl:ks.length=kvs.length:=by have:=congrArg List.length da.1.keys;simpa using this.symm
  have nw:=λy=>aFv M0 ov y;have tot':(ks.map (NW M xs)).sum=sumN M xs:=kY da.1.nd λx hx=>(da.2.1 x.1).mpr (BQ hx);refine nN (λi σ H'=>∃ (v2:Option V) (p:Addr) (t b:Int),σ=[some (.ref d),some (.ref p),v2]/\Same (upd H1 d (.frz ob (.dK kvs))) H'/\H' p=some (.tup [.int t,.int b])/\Fr M t b ((ks.take i).map (NW M xs)).sum) ⟨none,z,0,1,rfl,Same.refl _,tk _ _ hz,Fr.zero⟩ ?_ ?_ ?_
  ·rintro i σ H' _ ⟨_,_,_,_,rfl,sm,_⟩
   exact sm _ _ aB
  ·rintro i kv σ H2 D' hN hkv ⟨v2,p,t,b,rfl,s2,hp,fr⟩
   obtain ⟨y,hy,ek⟩:=aCx da.1.keys hkv;rw [ek];obtain ⟨q,t2,b2,e1,e2,e3⟩:=da1.2.2 y (Al hy);have dg:DGet H2 d (.str y) (some (.ref q)):=.inl ⟨kvs,.inr y,.inr ⟨ob,s2 _ _ aB⟩,rfl,e1.symm⟩;have st:=lA (NW M xs) nw ks i;have sy:0<=NW M xs y/\NW M xs y<=sumN M xs:=by
    have:=qJ M0 ov xs.length y;rwa [BF] at this
   have f1:=dE M0 fr;have f2:=dE M0 e3;have tw:Tw K H2 p q t b t2 b2:=⟨SqT.of hp,SqT.of (s2 _ _ (tk _ _ e2)),fr.am,e3.am,(bS.le fr.am.t0 (by omega)).mono (by decide),(bM.le (by have:=fr.am.b1;omega) f1.2).mono (by decide),(bS.le e3.am.t0 (by omega)).mono (by decide),(bM.le (by have:=e3.am.b1;omega) f2.2).mono (by decide)⟩;refine ⟨_,rfl,_,rfl,_,rfl,d,_,rfl,dg,p,q,t,b,t2,b2,rfl,tw,λr H3 s3 h3=>?_⟩;refine hN _ _ ⟨_,r,_,_,rfl,s2.trans s3,h3,?_⟩;have e:((ks.take (i+1)).map (NW M xs)).sum=((ks.take i).map (NW M xs)).sum+NW M xs y:=by
    rw [CU,hy,Bp,Fe];simp
   rw [e];exact fr.plus e3
  ·rintro σ H2 ⟨v2,p,t,b,rfl,s2,hp,fr⟩
   refine ⟨d,ob,kvs,s2 _ _ aB,(λo u z=>by have z':H d=some (.frz o u):=z;rw [hd] at z';cases z'),?_⟩;have pd:p≠d:=λe=>by rw [e,s2 _ _ aB] at hp;cases hp
   rw [<- kl,BF,tot'] at fr;exact ⟨_,rfl,k p t b _ (s1.trans (aIg hd1 s2)) (by rw [aI pd];exact hp) fr⟩
end
def zT:Ce "dict" = some (.type "dict"):=by decide +kernel
def oM {kvs:List (Key×V)}(nd:(kvs.map (·.1)).Nodup){kv:Key×V}(h:kv∈kvs):valV kvs kv.1=some kv.2:=by
 induction kvs with
 |nil=>cases h
 |cons x r ih=>
  rw [An] at nd;have nd':=Bo.mp nd;unfold valV
  rcases AA.mp h with e|hm
  ·subst e
   simp
  ·have ne:¬ x.1=kv.1:=λe=>nd'.1 (e▸BQ hm)
   have:=ih nd'.2 hm;unfold valV at this;rw [DO,decide_eq_false ne];exact this
def aCr {H:Hp}{us:List V}{ys:List (Str×Int×Int)}(h:PrL H us ys):∃ kvs:List (Key×V),us.length=kvs.length/\kvs.map (·.1)=(ys.map (·.1)).map AR/\(∀ (i:Nat) u kv,us[i]?=some u->kvs[i]?=some kv->∃ z,u=.ref z/\H z=some (.tup [kV kv.1,kv.2])) /\
  ∀ y∈ys,∃ q,(AR y.1,V.ref q)∈kvs/\H q=some (.tup [.int y.2.1,.int y.2.2]):=by
 induction h with
 |nil=>exact ⟨[],rfl,rfl,λi u kv h=>by simp at h,λy h=>nomatch h⟩
 |@cons v x vs xs p _ ih=>
  obtain ⟨kvs,h1,h2,h3,h4⟩:=ih;obtain ⟨a,q,rfl,ha,hq⟩:=p;refine ⟨(AR x.1,.ref q)::kvs,by rw [AZ,AZ,h1],by rw [An,An,An,h2],λi u kv hu hk=>?_,λy hy=>?_⟩
  ·cases i with
   |zero=>cases hu;cases hk;exact ⟨a,rfl,ha⟩
   |succ i=>exact h3 i u kv (by simpa using hu) (by simpa using hk)
  ·rcases AA.mp hy with rfl|hy
   ·exact ⟨q,Ar ..,hq⟩
   ·obtain ⟨q',m,e⟩:=h4 y hy
    exact ⟨q',Ah _ m,e⟩
theorem rP {M t b N:Int}{x:Str}(hM:0<M)(h:Fr M t b N):nOf M (x,t,b)=N:=by
 have b0:b≠0:=by have:=h.am.b1;omega
 show t*(M/b)=N;obtain ⟨k,hk⟩:=h.dvd;have e:=h.e;rw [hk,Int.mul_ediv_cancel_left _ b0];rw [hk] at e;refine Bm b0 ?_;rw [<- e,BJ b k,BM]
theorem sS {H:Hp}{M:Int}{cs:List (Str×Int×Int)}{kvs:List (Key×V)}:∀ {ks:List Str},(∀ y∈ks,∃ (p:Addr) (t b:Int),valV kvs (AR y)=some (.ref p)/\H p=some (.tup [.int t,.int b])/\Fr M t b (NW M cs y)) ->
  ∃ es:List (Str×Int×Int),es.map (·.1)=ks/\∀ e∈es,∃ q,valV kvs (AR e.1)=some (.ref q)/\H q=some (.tup [.int e.2.1,.int e.2.2])/\Fr M e.2.1 e.2.2 (NW M cs e.1)
 |[],_=>⟨[],rfl,λe h=>nomatch h⟩
 |y::r,h=>by
  obtain ⟨es,h1,h2⟩:=sS (ks:=r) λz hz=>h z (Ah _ hz);obtain ⟨p,t,b,e1,e2,e3⟩:=h y (Ar ..);refine ⟨(y,t,b)::es,by rw [An,h1],λe he=>?_⟩
  rcases AA.mp he with rfl|he
  ·exact ⟨p,e1,e2,e3⟩
  ·exact h2 e he
theorem gM {M:Int}(hM:0<M){f:Str->Int}:∀ {es:List (Str×Int×Int)},(es.map (·.1)).Nodup->(∀ e∈es,Fr M e.2.1 e.2.2 (f e.1))->∀ y,NW M es y=if y∈es.map (·.1) then f y else 0
 |[],_,_,y=>by rw [if_neg (by simp)];exact eN (by simp)
 |e::r,nd,h,y=>by
  rw [An] at nd;have nd':=Bo.mp nd;have ih:=gM hM nd'.2 (λz hz=>h z (Ah _ hz)) y;rw [jY,ih];have n:=rP (x:=e.1) hM (h e (Ar ..));have n':nOf M e=f e.1:=n
  by_cases c:e.1=y
  ·subst c
   rw [if_pos rfl,if_neg nd'.1,if_pos (by simp),n',Int.add_zero]
  ·rw [if_neg c,Int.zero_add]
   by_cases c2:y∈r.map (·.1)
   ·rw [if_pos c2,if_pos (by rw [An];exact Ah _ c2)]
   ·rw [if_neg c2,if_neg (by rw [An];exact λz=>(AA.mp z).elim (λz=>c z.symm) c2)]
theorem aF3:∀ {kvs:List (Key×V)} {ks:List Str},kvs.map (·.1)=ks.map AR->∃ zs:List (Str×V),kvs=txK zs/\zs.map (·.1)=ks
 |[],[],_=>⟨[],rfl,rfl⟩
 |[],_::_,h=>by simp at h
 |_::_,[],h=>by simp at h
 |kv::r,k::ks,h=>by
  rw [An,An] at h;injection h with h1 h2;obtain ⟨zs,e1,e2⟩:=aF3 h2;refine ⟨(k,kv.2)::zs,?_,by rw [An,e2]⟩;rw [e1];show kv::txK zs=(AR k,kv.2)::txK zs;rw [<- h1]
theorem rX {H:Hp}{M:Int}{X:List (Str×Int×Int)}:∀ {as:List Addr} {zs:List (Str×V)},as.length=zs.length->(∀ a z,(a,z)∈as.zip zs->H a=some (.tup [.str z.1,z.2]))->(∀ z∈zs,∃ q t b,z.2=.ref q/\H q=some (.tup [.int t,.int b])/\Fr M t b (NW M X z.1)) ->
  ∃ ys:List (Str×Int×Int),PrL H (as.map V.ref) ys/\ys.map (·.1)=zs.map (·.1)/\∀ y∈ys,Fr M y.2.1 y.2.2 (NW M X y.1)
 |[],[],_,_,_=>⟨[],.nil,rfl,λy h=>nomatch h⟩
 |[],_::_,h,_,_=>by simp at h
 |_::_,[],h,_,_=>by simp at h
 |a::as,z::zs,h,h1,h2=>by
  obtain ⟨ys,e1,e2,e3⟩:=rX (as:=as) (zs:=zs) (by simpa using h) (λa' z' m=>h1 a' z' (by rw [BZ];exact Ah _ m)) λz' m=>h2 z' (Ah _ m);obtain ⟨q,t,b,f1,f2,f3⟩:=h2 z (Ar ..);have f4:=h1 a z (by rw [BZ];exact Ar ..);rw [f1] at f4;refine ⟨(z.1,t,b)::ys,.cons ⟨a,q,rfl,f4,f2⟩ e1,by rw [An,An,e2],λy hy=>?_⟩
  rcases AA.mp hy with rfl|hy
  ·exact f3
  ·exact e3 y hy
structure LawIn (K:Ab)(H:Hp)(b r q l dm nm:Addr)(rs us:List V)(ps:List (Str×Str))(rbs:List (Int×Int))(ws:List Str)(M:Int)(S:List PF)(i:Nat)(d:PF)(rb:Int×Int)(kvm:List (Key×V))(ksm:List Str)(cs:List (Str×Int×Int))(xs:List Str):Prop where
 bs:BS H b r q rs us ps rbs ws
 st:StV H l M S
 sl:S.length=rs.length
 ok:∀ d∈S,Okf ws d
 di:S[i]?=some d
 rbi:rbs[i]?=some rb
 hm:H dm=some (.dK kvm)
 da:DA H M cs kvm ksm
 oc:Over M cs
 cw:∀ x∈cs,x.1∈ws
 cp:∀ y∈ksm,0<NW M cs y
 hn:SqL K H nm (xs.map V.str)\/SqT K H nm (xs.map V.str)
 xw:∀ x∈xs,x∈ws
 xl:xs.length<=20
 m0:0<M
 bm:Bt 2900 M
 bS:Bt 2900 (tot ws (λy=>d.1 y+NW M cs y))
def IntoL (us:List V)(ps:List (Str×Str))(ws:List Str)(M:Int)(S:List PF)(i:Nat)(d:PF)(rb:Int×Int)(add:Str->Int)(xs:List Str)(H:Hp)(Q:VK):Prop:=
 (rb.1*M<tot ws (λy=>d.1 y+add y)*rb.2->∀ z t3 a t b H',Same H H'->H' z=some (.tup [.ref t3,.non])->H' t3=some (.tup [.str "spilt",.int ((i:Nat):Int),.ref a])->H' a=some (.tup [.int t,.int b])->Fr (M*rb.2) t b (tot ws (λy=>d.1 y+add y)*rb.2-rb.1*M)->Q (.ref z) H') /\
 (¬ rb.1*M<tot ws (λy=>d.1 y+add y)*rb.2->∀ nm',NmU d.2 xs nm'->(∀ pa,pairOf us ps nm'=.ref pa->∀ z t3 H',Same H H'->H' z=some (.tup [.ref t3,.non])->H' t3=some (.tup [.str "touch",.int ((i:Nat):Int),.ref pa])->Q (.ref z) H') /\
  (pairOf us ps nm'=.non->∀ z l' H',Same H H'->H l'=none->H' z=some (.tup [.non,.ref l'])->StV H' l' M (S.set i (λy=>d.1 y+add y,nm'))->Q (.ref z) H'))
inductive spInto (K:Ab)(vs:List V)(H:Hp)(Q:VK)(Ex:XK):Prop
 |mk (b r q l dm nm rs us ps rbs ws M S i d rb kvm ksm cs xs:_) (e0:vs=[.ref b,.ref l,.int ((i:Nat):Int),.ref dm,.ref nm]) (e1:LawIn K H b r q l dm nm rs us ps rbs ws M S i d rb kvm ksm cs xs) (e2:IntoL us ps ws M S i d rb (NW M cs) xs H Q):spInto K vs H Q Ex
section
variable {P:Av}{w:World}{K:Ab}{mg:Str->Option Value}{base:Heap}
abbrev aJn:List Str:=["_law_bench","_law_state","_law_phial","_law_more","_law_names_here","_law_held","_law_ware","_law_lies","_law_named","_law_pair","_law_found"]
def iV:FnScope aJn ["_law_bench","_law_state","_law_phial","_law_more","_law_names_here"] (aG aD8):=fnScOk (by decide +kernel)
def aE3 {f:Addr}{fd:Az}(F:Fun K "_law_into" "_law_into" aD8 f fd)(T:Txt mg)(cA:Cal P w K mg base CX0 3 "_law_add" ["_law_one","_law_other"] (spAdd K))(cS:Cal P w K mg base CX0 3 "_law_sum" ["_law_held"] (spSum K))(cU:Cal P w K mg base CX0 3 "_law_under" ["_law_one","_law_other"] (spLess K))(cT:Cal P w K mg base CX0 3 "_law_take" ["_law_one","_law_other"] (spTake K)):FnOk P w K mg base CX0 4 f fd ["_law_bench","_law_state","_law_phial","_law_more","_law_names_here"] (spInto K):=by
 refine F.ok iV (λvs H Q E h=>?_) (λcdv A outer s H vs Q E hr h=>?_)
 ·obtain ⟨_,_,_,_,_,_,_,_,_,_,_,_,_,_,_,_,_,_,_,_,rfl,_⟩:=h
  rfl
 ·obtain ⟨b,r,q,l,dm,nm,rs,us,ps,rbs,ws,M,S,i,d,rb,kvm,ksm,cs,xs,rfl,m,kS,kG⟩:=h
  refine ⟨_,(aD (aL (i:=5) iV.nd rfl (Or.inl rfl) (aX (kX rfl) rfl T.dict' zT (aA (bC cV (bC bB (pv 1) (pv 2) (λ_ _=>rfl)) aH (λ_ _=>rfl)) aC)))
   (aD (wB (cJ AJ rfl (wH (pv 3)) (aS (i:=6) iV.nd rfl (Or.inl rfl))
    (aE (pJ (kC hr) (pv 5) (pv 6) (aJ cA hr rfl aR (aA (rG (kC hr) (pv 5) (pv 6) (aW (aA aH (aA aH aC))) ⟨rfl,rfl,rfl,rfl⟩) (aA (jJ (kC hr) (pv 3) (pv 6) (λ_ _=>rfl)) aC))) rfl))))
   (aD (aL (i:=7) iV.nd rfl (Or.inl rfl) (aJ cS hr rfl aR (aA (pv 5) aC)))
   (aD (bF (dA (aJ cU hr rfl aR (aA (bC cV (pit 0 0) (pv 2) (λ_ _=>rfl)) (aA (pv 7) aC))))
    (aE (aK (aW (aA (aW (aA aT (aA (pv 2) (aA (aJ cT hr rfl aR (aA (pv 7) (aA (bC cV (pit 0 0) (pv 2) (λ_ _=>rfl)) aC))) aC)))) (aA dO aC)))))
    aQ)
   (aD (aL (i:=8) iV.nd rfl (Or.inl rfl) (aX bH rfl T.tup' cY (aA (aU (iE rfl) rfl T.sorted' boot_sorted (aA (aX (zN rfl) rfl T.set' aDa (aA (aP xA (aX bJ rfl T.list' dS (aA (bC cV (bC bB (pv 1) (pv 2) (λ_ _=>rfl)) aH (λ_ _=>rfl)) aC)) (aX bJ rfl T.list' dS (aA (pv 4) aC))) aC)) aC)) aC)))
   (aD (cJ AJ rfl (fY (pit 0 1)) (aS (i:=9) iV.nd rfl (Or.inl rfl))
    (aE (bF (PW.pt (kJ (aM eT (pit 9 0) (pv 8) rfl) (hV (aM eT (pit 9 1) (pv 8) rfl))))
     (aE (aK (aW (aA (aW (aA aT (aA (pv 2) (aA (pv 9) aC)))) (aA dO aC)))))
     aQ)))
   (aD (aL (i:=10) iV.nd rfl (Or.inl rfl) (aX bJ rfl T.list' dS (aA (pv 1) aC)))
   (aD (gI (aW (aA (aX bH rfl T.tup' cY (aA (mY rfl rfl T.sorted' (pv 5)) aC)) (aA (pv 8) aC))) (mX (pv 10) (pv 2) set_list))
   (aE (aK (aW (aA dO (aA (pv 10) aC))))))))))))),?_⟩
  obtain ⟨vs,v,hl,vl,hv,a,mm,nn,ms,ys,rfl,ha,hmm,pr,mx,hnn⟩:=m.st.get m.di;have okd:=m.ok d (Al m.di);have M0:=m.m0;have bn:=m.bs.bn;obtain ⟨kv0,k1,k2,k3,k4⟩:=aCr pr;have nd0:(kv0.map (·.1)).Nodup:=by
   rw [k2];exact Cw.mpr (mx.nd.imp λh e=>h (AR.inj e))
  refine ⟨_,rfl,_,rfl,l,_,(i:Int),.ref a,rfl,rfl,SqL.of hl,bA hv,a,_,0,.ref mm,rfl,rfl,SqT.of ha,rfl,mm,ms,kv0,rfl,hmm,k1,nd0,k3,λp np=>?_⟩;have s1:=Same.upd (o:=.dK kv0) np;have hp1:upd H p (.dK kv0) p=some (.dK kv0):=aB;have pm:p≠dm:=λe=>by rw [e,m.hm] at np;cases np
  generalize upd H p (.dK kv0)=H1 at s1 hp1 ⊢;have da1:DA H1 M ys kv0 (ys.map (·.1)):=⟨⟨k2,mx.nd⟩,λy=>Iff.rfl,λy hy=>by
   obtain ⟨x,hx,rfl⟩:=AH.mp hy;obtain ⟨q',mq,hq'⟩:=k4 x hx;refine ⟨q',_,_,oM nd0 mq,s1 _ _ hq',?_⟩;rw [mx.nw];exact mx.fr x hx⟩
  obtain ⟨es,ee,ef⟩:=sS m.da.2.2;have oe:Over M es:=λe he=>by
   obtain ⟨_,_,_,fr⟩:=ef e he;exact ⟨fr.am,fr.dvd⟩
  have oy:Over M ys:=mx.over;have oye:Over M (ys++es):=λe he=>(Bh.mp he).elim (oy e) (oe e);have nwe:∀ y,NW M es y=NW M cs y:=λy=>by
   rw [gM M0 (f:=NW M cs) (by rw [ee];exact m.da.1.nd) (λe he=>by obtain ⟨_,_,_,fr⟩:=ef e he;exact fr),ee]
   by_cases c:y∈ksm
   ·rw [if_pos c]
   ·rw [if_neg c,eN λz=>c ((m.da.2.1 y).mpr z)]
  have nwT:∀ y,NW M (ys++es) y=d.1 y+NW M cs y:=λy=>by rw [jZ,mx.nw,nwe]
  have ew:∀ e∈es,e.1∈ws:=λe he=>by
   have:e.1∈ksm:=by rw [<- ee];exact BQ he
   obtain ⟨x,hx,e'⟩:=AH.mp ((m.da.2.1 e.1).mp this);rw [<- e'];exact m.cw x hx
  have yw:∀ e∈ys,e.1∈ws:=λe he=>okd.inw e.1 ((mx.mem e.1).mp (BQ he));have sT:sumN M (ys++es)=tot ws (λy=>d.1 y+NW M cs y):=by
   rw [<- kY m.bs.ww.nd (xs:=ys++es) (λx hx=>(Bh.mp hx).elim (yw x) (ew x))];unfold tot;exact congrArg List.sum (Eg λy _=>nwT y)
  have bT:=m.bS;rw [<- sT] at bT kS kG;have el:es.length=ksm.length:=by rw [<- ee,Af]
  have kl:kvm.length=ksm.length:=m.da.1.len;have hm1:=s1 _ _ m.hm;have l6:∀ zs:List (Str×Int×Int),(zs.map (·.1)).Nodup->(∀ z∈zs,z.1∈ws)->zs.length<=6:=λzs n w=>by
   have:=n.length_le_of_subset (l₂:=ws) λy hy=>by
    obtain ⟨x,hx,rfl⟩:=AH.mp hy;exact w x hx
   rw [Af] at this;exact AU this m.bs.ww.l
  have yl:=l6 ys mx.nd yw;have esl:=l6 es (by rw [ee];exact m.da.1.nd) ew;refine ⟨_,rfl,dm,kvm,rfl,hm1,λob=>?_⟩;have tk:Tk H1 (upd H1 dm (.frz ob (.dK kvm))):=Tk.dk hm1;refine nN (λj σ H'=>∃ (v6:Option V) (kvs:List (Key×V)) (ks:List Str),σ=[some (.ref b),some (.ref l),some (.int ((i:Nat):Int)),some (.ref dm),some (.ref nm),some (.ref p),v6,none,none,none,none]/\(∀ c o,c≠p->upd H1 dm (.frz ob (.dK kvm)) c=some o->H' c=some o)/\H' p=some (.dK kvs)/\DA H' M ((ys++es).take (ys.length+j)) kvs ks/\ks.length<=ys.length+j) ⟨none,kv0,_,rfl,λc o _ h=>h,by rw [aI pm];exact hp1,by rw [Nat.add_zero,List.take_left];exact da1.keep tk,by rw [Af];exact Aj _⟩ ?_ ?_ ?_
  ·rintro j σ H' _ ⟨_,_,_,rfl,sm,_⟩
   exact sm _ _ (Bg pm) aB
  ·rintro j kv σ H2 D' hN hkv ⟨v6,kvs,ks,rfl,s2,hp2,da,kl2⟩
   obtain ⟨y,hy,ek⟩:=aCx m.da.1.keys hkv;rw [ek];have jl:=(Ae.mp hkv).1;obtain ⟨e,he⟩:∃ e,es[j]?=some e:=⟨_,Ac (by have:=(Ae.mp hy).1;omega)⟩;have ey:e.1=y:=by
    have h1:(es.map (·.1))[j]?=some e.1:=by rw [Ao,he];rfl
    rw [ee,hy] at h1;exact (AG h1).symm
   have hx:(ys++es)[ys.length+j]?=some e:=by rw [BH (by omega),Nat.add_sub_cancel_left];exact he
   obtain ⟨q',e1,e2,e3⟩:=ef e (Al he);rw [ey] at e1;refine ⟨_,rfl,p,rfl,.inl ⟨kvs,.inl hp2⟩,_,rfl,zLn2,λz1 nz1=>⟨_,DGet.k (k:=AR y) ((Same.upd nz1) _ _ hp2),?_⟩⟩;have w1:=Same.upd (o:=.tup [.int 0,.int 1]) nz1;have hz1:upd H2 z1 (.tup [.int 0,.int 1]) z1=some (.tup [.int 0,.int 1]):=aB;have hp3:=w1 _ _ hp2;have da3:=da.keep w1.tk;have dm3:upd H2 z1 (.tup [.int 0,.int 1]) dm=some (.frz ob (.dK kvm)):=w1 _ _ (s2 _ _ (Bg pm) aB);have q3:upd H2 z1 (.tup [.int 0,.int 1]) q'=some (.tup [.int e.2.1,.int e.2.2]):=by
    have qp:q'≠p:=λz=>by rw [z,np] at e2;cases e2
    exact w1 _ _ (s2 _ _ qp (tk _ _ (s1 _ _ e2)))
   generalize upd H2 z1 (.tup [.int 0,.int 1])=H3 at w1 hz1 hp3 da3 dm3 q3 ⊢;obtain ⟨g,t,b',eg,hg,fr⟩:∃ (g:Addr) (t b':Int),(valV kvs (AR y)).getD (.ref z1)=.ref g/\SqT K H3 g [.int t,.int b']/\Fr M t b' (NW M ((ys++es).take (ys.length+j)) y):=by
    by_cases hyk:y∈ks
    ·obtain ⟨p',t,b',f1,f2,f3⟩:=da3.2.2 _ hyk
     exact ⟨p',t,b',by rw [f1];rfl,SqT.of f2,f3⟩
    ·have:valV kvs (AR y)=none:=by
      cases e:valV kvs (AR y) with
      |none=>rfl
      |some v=>exact absurd ((da.1.get y).mp (by rw [e];rfl)) hyk
     refine ⟨z1,0,1,by rw [this];rfl,SqT.of hz1,?_⟩;rw [eN (λz=>hyk ((da.2.1 _).mpr z))];exact Fr.zero
   rw [eg];have nwl:=qJ M0 oye (ys.length+j) y;have fs:=dE M0 fr;have fse:=dE M0 e3;have nwe':NW M cs e.1<=sumN M (ys++es):=by
    have h1:=qJ M0 oye (ys++es).length e.1;rw [BF,jZ,nwe] at h1;have h2:=aFv M0 oy e.1;omega
   have tw:Tw K H3 g q' t b' e.2.1 e.2.2:=⟨hg,SqT.of q3,fr.am,e3.am,(bT.le fr.am.t0 (by omega)).mono (by decide),(m.bm.le (by have:=fr.am.b1;omega) fs.2).mono (by decide),(bT.le e3.am.t0 (by omega)).mono (by decide),(m.bm.le (by have:=e3.am.b1;omega) fse.2).mono (by decide)⟩;have dg:DGet H3 dm (.str y) (some (.ref q')):=.inl ⟨kvm,.inr y,.inr ⟨ob,dm3⟩,rfl,e1.symm⟩;refine ⟨_,rfl,_,rfl,dm,_,rfl,dg,g,q',t,b',e.2.1,e.2.2,rfl,tw,λr' H4 s4 h4=>?_⟩;have hp4:=s4 _ _ hp3;have frn:Fr M ((t*e.2.2+e.2.1*b')/G (t*e.2.2+e.2.1*b') (b'*e.2.2)) (b'*e.2.2/G (t*e.2.2+e.2.1*b') (b'*e.2.2)) (NW M ((ys++es).take (ys.length+j)) e.1+nOf M e):=by
    have n':nOf M e=NW M cs e.1:=rP (x:=e.1) M0 e3;rw [n',ey];have e3':=e3;rw [ey] at e3';exact fr.plus e3'
   obtain ⟨ks',da',kl'⟩:=(da3.keep s4.tk).step hx h4 frn;rw [ey] at da';refine ⟨_,rfl,_,rfl,p,_,rfl,DPut.k (k:=AR y) hp4 (bU (by rw [da.1.len];omega)),?_⟩;refine hN _ _ ⟨_,_,ks',rfl,λc o nc hc=>?_,aB,da'.keep (Tk.dk hp4),by omega⟩;rw [aI nc];exact s4 _ _ (w1 _ _ (s2 c o nc hc))
  ·rintro σ H2 ⟨v6,kvs,ks,rfl,s2,hp2,da,kl2⟩
   have dm2:=s2 _ _ (Bg pm) aB;refine ⟨dm,ob,kvm,dm2,(λo u z=>by have z':H dm=some (.frz o u):=z;rw [m.hm] at z';cases z'),?_⟩;have s3:Same H (upd H2 dm (.dK kvm)):=λc o hc=>by
    by_cases n:c=dm
    ·subst n
     rw [m.hm] at hc;rw [aB];exact hc
    ·have ncp:c≠p:=λz=>by rw [z,np] at hc;cases hc
     rw [aI n];exact s2 c o ncp (by rw [aI n];exact s1 _ _ hc)
   have hp3:upd H2 dm (.dK kvm) p=some (.dK kvs):=by rw [aI pm];exact hp2
   have da3:DA (upd H2 dm (.dK kvm)) M (ys++es) kvs ks:=by
    rw [kl,<- el,<- Ay,BF] at da;exact da.keep λc zs hc=>by
     have n:c≠dm:=λz=>by rw [z,dm2] at hc;cases hc
     rw [aI n];exact hc
   generalize upd H2 dm (.dK kvm)=H3 at s3 hp3 da3 ⊢;refine ⟨_,rfl,p,kvs,ks,M,ys++es,rfl,hp3,da3,M0,m.bm,oye,bT,λli t b' H4 s4 hli fr=>?_⟩;have s04:=s3.trans s4;have bn4:=bn.keep s04;obtain ⟨t_le,b_le⟩:=dE M0 fr;have bb:=fr.am.b1;have bt:Bt 4000 t:=(bT.le fr.am.t0 t_le).mono (by decide);have bb':Bt 4000 b':=(m.bm.le (by omega) b_le).mono (by decide);obtain ⟨rv,hrv⟩:∃ rv,rs[i]?=some rv:=⟨_,Ac (by rw [<- m.sl];exact (Ae.mp m.di).1)⟩;obtain ⟨rb',hrb',ra,rfl,hra,rmm⟩:=m.bs.rm.get hrv;rw [m.rbi] at hrb';cases hrb';have tw:Tw K H4 ra li rb.1 rb.2 t b':=⟨SqT.of (s04 _ _ hra),SqT.of hli,⟨by have:=rmm.t1;omega,rmm.b1,rmm.g⟩,fr.am,rmm.st.mono (by decide),rmm.sb.mono (by decide),bt,bb'⟩;have frr:Fr rb.2 rb.1 rb.2 rb.1:=yR rmm;refine ⟨b,_,_,rfl,SqT.of bn4.hp,rfl,_,rfl,r,_,(i:Int),.ref ra,rfl,rfl,SqT.of bn4.hr,bA hrv,_,rfl,ra,li,rb.1,rb.2,t,b',rfl,tw,_,rfl,?_⟩;rw [yT M0 fr];refine ite2 (λc=>?_) (λc=>?_)
   ·have c':rb.1*M<sumN M (ys++es)*rb.2:=of_decide_eq_true c
    obtain ⟨le,fo⟩:=fV (M1:=M) (M2:=rb.2) M0 (by have:=rmm.b1;omega) fr frr (by omega);refine ⟨_,rfl,_,rfl,b,_,_,rfl,SqT.of bn4.hp,rfl,_,rfl,r,_,(i:Int),.ref ra,rfl,rfl,SqT.of bn4.hr,bA hrv,li,ra,t,b',rb.1,rb.2,rfl,tw.flip,le,λpo H5 s5 h5=>⟨zLn3,λt3 nt3=>⟨zLn2,λz nz=>?_⟩⟩⟩;have s6:=Same.upd (o:=.tup [.str "spilt",.int ((i:Nat):Int),.ref po]) nt3;have s7:=Same.upd (o:=.tup [.ref t3,.non]) nz;exact kS c' z t3 po _ _ _ (((s04.trans s5).trans s6).trans s7) aB (s7 _ _ aB) ((s6.trans s7) _ _ h5) fo
   ·have c':¬ rb.1*M<sumN M (ys++es)*rb.2:=of_decide_eq_false (by simpa using c)
    refine ⟨_,rfl,_,rfl,l,_,(i:Int),.ref a,rfl,rfl,SqL.of (s04 _ _ hl),bA hv,a,_,1,.ref nn,rfl,rfl,SqT.of (s04 _ _ ha),rfl,nn,_,rfl,.inr (SqT.of (s04 _ _ hnn)),λc1 nc1=>?_⟩;have w1:=Same.upd (o:=.lst (d.2.map V.str)) nc1;refine ⟨_,rfl,nm,_,rfl,m.hn.imp (λh=>(s04.trans w1).seq h) (λh=>(s04.trans w1).tup h),λc2 nc2=>?_⟩;have w2:=Same.upd (o:=.lst (xs.map V.str)) nc2;have nl:d.2.length<=6:=AU ((eQ okd.srt).length_le_of_subset okd.nin) m.bs.ww.l;have xl:=m.xl;refine ⟨c1,c2,_,_,rfl,rfl,w2 _ _ aB,aB,bV (by rw [Af,Af];omega),λc3 nc3=>?_⟩;have ll:(d.2++xs).length<=30:=by rw [Ay];omega
    refine ⟨c3,d.2++xs,rfl,SqL.of (by rw [Bp];exact aB),by omega,λp2 np2=>⟨p2,_,rfl,aB,Dl (SX.ddl_len _) (by omega),λp3 nm' pm' so np3=>⟨p3,_,rfl,.inl ⟨SqL.of aB,λp4 np4=>?_⟩⟩⟩⟩;have u:=aCw pm' so;have w4:=Same.upd (o:=.tup (nm'.map V.str)) np4;have w:=((((w1.trans w2).trans (Same.upd nc3)).trans (Same.upd np2)).trans (Same.upd (o:=.lst (nm'.map V.str)) np3)).trans w4;have bn5:=bn4.keep w;obtain ⟨kT,kO⟩:=kG c' nm' u;refine ⟨b,_,_,rfl,SqT.of bn5.hp,rfl,q,rfl,⟨_,SqT.of bn5.hq⟩,?_⟩;refine lS (xs:=us) (λj σ H'=>∃ v9:Option V,σ=[some (.ref b),some (.ref l),some (.int ((i:Nat):Int)),some (.ref dm),some (.ref nm),some (.ref p),v6,some (.ref li),some (.ref p4),v9,none]/\pairOf us ps nm'=pairOf (us.drop j) (ps.drop j) nm'/\Same H4 H'/\H' p4=some (.tup (nm'.map V.str))) ⟨none,rfl,rfl,w,aB⟩ ?_ ?_ ?_
    ·rintro j σ H' hj ⟨_,rfl,_,s',_⟩
     exact SqT.of (s' _ _ bn4.hq)
    ·rintro j v' σ H5 hv' ⟨v9,rfl,e,s5,h5⟩
     obtain ⟨y,hy⟩:∃ y,ps[j]?=some y:=⟨_,Ac (by rw [<- bn4.pt.1];exact (Ae.mp hv').1)⟩;obtain ⟨z,rfl,hz⟩:=bn4.pt.2 j v' y hv' hy;have hz':SqT K H5 z [.str y.1,.str y.2]:=SqT.of (s5 _ _ hz);have hn5:SqT K H5 p4 (nm'.map V.str):=SqT.of h5;rw [jK hv' hy] at e;refine ⟨z,_,_,rfl,hz',rfl,_,rfl,p4,_,rfl,.inr hn5,rfl,eK nm',_,rfl,ite2 (λh1=>?_) (λh1=>?_)⟩
     ·have m1:=dY.mp h1
      refine ⟨z,_,_,rfl,hz',rfl,_,rfl,p4,_,rfl,.inr hn5,rfl,eK nm',_,rfl,ite2 (λh2=>?_) (λh2=>?_)⟩
      ·rw [if_pos ⟨m1,dY.mp h2⟩] at e
       refine ⟨_,rfl,_,rfl,zLn3,λt3 nt3=>⟨zLn2,λzz nzz=>?_⟩⟩;have s6:=Same.upd (o:=.tup [.str "touch",.int ((i:Nat):Int),.ref z]) nt3;have s7:=Same.upd (o:=.tup [.ref t3,.non]) nzz;exact kT z e zz t3 _ (((s04.trans s5).trans s6).trans s7) aB (s7 _ _ aB)
      ·rw [if_neg λz=>h2 (dY.mpr z.2)] at e
       exact ⟨_,rfl,e,s5,h5⟩
     ·rw [if_neg λz=>h1 (dY.mpr z.1)] at e
      exact ⟨_,rfl,e,s5,h5⟩
    ·rintro σ H5 ⟨v9,rfl,e,s5,h5⟩
     rw [List.drop_length,hW] at e;have kO':=kO e;have s05:=s04.trans s5;refine ⟨_,rfl,l,_,rfl,.inl (SqL.of (s05 _ _ hl)),λl' nl'=>?_⟩;have w6:=Same.upd (o:=.lst vs) nl';have hl6:upd H5 l' (.lst vs) l'=some (.lst vs):=aB;generalize upd H5 l' (.lst vs)=H6 at w6 hl6 ⊢;obtain ⟨zs,ez,ek⟩:=aF3 da3.1.keys;have hp6:H6 p=some (.dK (txK zs)):=by rw [<- ez];exact w6 _ _ (s5 _ _ (s4 _ _ hp3))
     have zl:zs.length=ks.length:=by rw [<- ek,Af]
     have da6:=((da3.keep s4.tk).keep s5.tk).keep w6.tk;refine ⟨_,rfl,p,zs,rfl,hp6,by rw [ek];exact da3.1.nd,by omega,λq1 as zs' H7 s7 pz srt al ht hq1=>?_⟩;have zv:∀ z∈zs',∃ q t b,z.2=.ref q/\H7 q=some (.tup [.int t,.int b])/\Fr M t b (NW M (ys++es) z.1):=λz hz=>by
      have mz:=pz.mem_iff.mp hz;have mk:((AR z.1:Key),z.2)∈kvs:=by rw [ez];exact AH.mpr ⟨z,mz,rfl⟩
      have nk:(kvs.map (·.1)).Nodup:=by rw [da3.1.keys];exact Cw.mpr (da3.1.nd.imp λh e=>h (AR.inj e))
      have vz:=oM nk mk;obtain ⟨q',t',b2,f1,f2,f3⟩:=da6.2.2 z.1 (by rw [<- ek];exact BQ mz);have vz':valV kvs (AR z.1)=some z.2:=vz;rw [f1] at vz';exact ⟨q',t',b2,(AG vz').symm,s7 _ _ f2,f3⟩
     obtain ⟨yn,py,ny,fy⟩:=rX al ht zv;refine ⟨q1,_,rfl,.inl ⟨SqL.of hq1,λtz ntz=>⟨_,rfl,zLn2,λzt nzt=>?_⟩⟩⟩;have w8:=Same.upd (o:=.tup (as.map V.ref)) ntz;have w9:=Same.upd (o:=.tup [.ref tz,.ref p4]) nzt;have w79:=(s7.trans w8).trans w9;have il:=(Ae.mp hv).1;have lz:l'≠zt:=λe=>by rw [<- e,(s7.trans w8) _ _ hl6] at nzt;cases nzt
     refine ⟨_,rfl,_,rfl,l',vs,(i:Int),i,rfl,rfl,w79 _ _ hl6,jS il,?_⟩;refine ⟨_,rfl,zLn2,λzz nzz=>?_⟩;have nl0:H l'=none:=sm0 s05 nl';have sF:Same H (upd (upd (upd (upd H7 tz (.tup (as.map V.ref))) zt (.tup [.ref tz,.ref p4])) l' (.lst (vs.set i (.ref zt)))) zz (.tup [.non,.ref l'])):=λc o hc=>by
      have h1:=((s05.trans w6).trans w79) _ _ hc;have ncl:c≠l':=λz=>by rw [z,nl0] at hc;cases hc
      exact (Same.upd nzz) _ _ (by rw [aI ncl];exact h1)
     have sG:∀ c o,c≠l'->upd (upd H7 tz (.tup (as.map V.ref))) zt (.tup [.ref tz,.ref p4]) c=some o->upd (upd (upd (upd H7 tz (.tup (as.map V.ref))) zt (.tup [.ref tz,.ref p4])) l' (.lst (vs.set i (.ref zt)))) zz (.tup [.non,.ref l']) c=some o:=λc o n hc=>(Same.upd nzz) _ _ (by rw [aI n];exact hc);have tkG:Tk (upd (upd H7 tz (.tup (as.map V.ref))) zt (.tup [.ref tz,.ref p4])) (upd (upd (upd (upd H7 tz (.tup (as.map V.ref))) zt (.tup [.ref tz,.ref p4])) l' (.lst (vs.set i (.ref zt)))) zz (.tup [.non,.ref l'])):=λc ts hc=>sG c _ (λz=>by rw [z,w79 _ _ hl6] at hc;cases hc) hc;refine kO' zz l' _ sF nl0 aB (m.st.put hl sF ((Same.upd nzz) _ _ aB) ⟨zt,tz,p4,as.map V.ref,yn,rfl,tkG _ _ aB,tkG _ _ (w9 _ _ aB),py.keep (λc ts hc=>tkG _ _ ((w8.trans w9) _ _ hc)),?_,tkG _ _ ((w6.trans w79) _ _ h5)⟩);have memk:∀ y,y∈yn.map (·.1)↔y∈(ys++es).map (·.1):=λy=>by
      rw [ny,(pz.map (·.1)).mem_iff,ek,da3.2.1]
     refine ⟨?_,?_,λy=>?_,λz hz=>?_⟩
     ·rw [ny,Cw]
      exact srt.imp λh=>List.le_of_lt h
     ·rw [ny,(pz.map (·.1)).nodup_iff,ek]
      exact da3.1.nd
     ·rw [memk]
      show _↔d.1 y+NW M cs y≠0;rw [<- nwT];constructor
      ·intro hy
       rw [nwT];have h1:=okd.nn y;have h2:=aFv M0 m.oc y;rw [Bp,Bh] at hy
       rcases hy with hy|hy
       ·have:=(mx.mem y).mp hy
        omega
       ·have:=m.cp y (by rw [<- ee];exact hy)
        omega
      ·intro h
       exact Be λz=>h (eN z)
     ·have:=fy z hz
      rw [nwT] at this;exact this
end
end K52
namespace L2
open PySem PySem.Spec PyProof.Rows PySem.W
section
variable {X:Cx}
def wY (hu:X.A.units+64<cLine):OpR X (Bl .Eq) (λx y H Q=>∃ a b xs,x=.ref a/\y=.ref b/\SqT X.K H a xs/\SqT X.K H b []/\Q (.bl xs.isEmpty) H):=by
 intro pins s σ H x y v u Q I rx ry h;obtain ⟨a,b,xs,rfl,rfl,ha,hb,q⟩:=h;cases rx;cases ry;obtain ⟨its,r,p,_⟩:=I.tuple ha;obtain ⟨its',r',p',_⟩:=I.tuple hb;cases r';obtain ⟨o,o1,o2,n,o3⟩:=p;obtain ⟨o',o1',o2',n',o3'⟩:=p';have key:=SeqAt.RcAt.tuples (A:=X.A) (s:=s) (l:=a) (b:=b) (items:=its.toArray) (items2:=#[]) (e:=λ_=>true) ⟨o,o1,o2,n,o3⟩ ⟨o',o1',o2',n',o3'⟩ (by omega) (λj h1 h2=>absurd h2 (by simp));cases r with
 |nil=>exact key X.prog X.w X.xe _ ⟨.bl _,H,I,rfl,q⟩
 |cons r t=>exact key X.prog X.w X.xe _ ⟨.bl _,H,I,rfl,q⟩
end
end L2
namespace K52
open PySem PySem.Spec PyProof.Rows L2 GM TM
def rZ {M N t1 b1 t2 b2:Int}(M0:0<M)(h:Fr M t1 b1 N)(h2:Amt t2 b2):Fr (M*b2) (t1*t2/G (t1*t2) (b1*b2)) (b1*b2/G (t1*t2) (b1*b2)) (N*t2):=by
 have a1:=h.am.b1;have a2:=h2.b1;have n1:=BB h.am.t0 h2.t0;have hb:1<=b1*b2:=mul1 a1 a2;refine ⟨jO n1 hb,?_⟩;have crs:=gO (t1*t2) (b1*b2);generalize t1*t2/G (t1*t2) (b1*b2)=x at *
 generalize b1*b2/G (t1*t2) (b1*b2)=y at *
 refine Bm (show b1*b2≠0 by omega) ?_
 calc x*(M*b2)*(b1*b2)=(x*(b1*b2))*(M*b2):=by rw [AS]
  _=((t1*t2)*y)*(M*b2):=by rw [crs]
  _=(t1*M)*(t2*y*b2):=by grind
  _=(N*b1)*(t2*y*b2):=by rw [h.e]
  _=N*t2*y*(b1*b2):=by grind
def IntoL.mono {us:List V}{ps:List (Str×Str)}{ws:List Str}{M:Int}{S:List PF}{i:Nat}{d:PF}{rb:Int×Int}{add:Str->Int}{xs:List Str}{H H1:Hp}{Q:VK}(s:Same H H1)(h:IntoL us ps ws M S i d rb add xs H Q):IntoL us ps ws M S i d rb add xs H1 Q:=
 ⟨λc z t3 a t b H' s'=>h.1 c z t3 a t b H' (s.trans s'),λc nm' u=>⟨λpa e z t3 H' s'=>(h.2 c nm' u).1 pa e z t3 H' (s.trans s'),λe z l' H' s' nl=>(h.2 c nm' u).2 e z l' H' (s.trans s') (sm0 s nl)⟩⟩
theorem aB5 {t:Int}(h:Amt t t):t=1:=by
 have g:=h.g;unfold G at g;rw [Int.gcd_self] at g;have:=h.t0;omega
def zf (t b:Int)(y:Str×Int×Int):Str×Int×Int:=(y.1,y.2.1*t/G (y.2.1*t) (y.2.2*b),y.2.2*b/G (y.2.1*t) (y.2.2*b))
def rf (t b:Int)(y:Str×Int×Int):Str×Int×Int:=(y.1,(y.2.1*(zf t b y).2.2-(zf t b y).2.1*y.2.2)/G (y.2.1*(zf t b y).2.2-(zf t b y).2.1*y.2.2) (y.2.2*(zf t b y).2.2),y.2.2*(zf t b y).2.2/G (y.2.1*(zf t b y).2.2-(zf t b y).2.1*y.2.2) (y.2.2*(zf t b y).2.2))
def aAc {M N t b:Int}{y:Str×Int×Int}(M0:0<M)(h:Fr M y.2.1 y.2.2 N)(a:Amt t b):Fr (M*b) (zf t b y).2.1 (zf t b y).2.2 (N*t):=rZ M0 h a
def aGs {M N t b:Int}{y:Str×Int×Int}(M0:0<M)(h:Fr M y.2.1 y.2.2 N)(a:Amt t b)(tb:t<=b):(zf t b y).2.1*y.2.2<=y.2.1*(zf t b y).2.2/\Fr (M*b) (rf t b y).2.1 (rf t b y).2.2 (N*b-N*t):=by
 have b0:0<b:=by have:=a.b1;omega
 have Mb:0<M*b:=Cr M0 b0;have f1:Fr (M*b) y.2.1 y.2.2 (N*b):=iN h M0 (by rw [BJ M b,<- BM]);have f2:=aAc M0 h a;have n0:=h.nonneg M0;have le:N*t*(M*b)<=N*b*(M*b):=EN (CM tb n0) (Int.le_of_lt Mb);obtain ⟨l,fo⟩:=fV Mb Mb f1 f2 le;exact ⟨l,iN fo (Cr Mb Mb) (by grind)⟩
def RefL (wd:Str)(i:Nat)(H:Hp)(Q:VK):Prop:=∀ z t3 H',Same H H'->H' z=some (.tup [.ref t3,.non])->H' t3=some (.tup [.str wd,.int ((i:Nat):Int),.non])->Q (.ref z) H'
inductive spPoured (K:Ab)(vs:List V)(H:Hp)(Q:VK)(Ex:XK):Prop
 |mk (b r q l a rs us ps rbs ws M S β i j t b' di dj rbj:_) (e0:vs=[.ref b,.ref l,.ref a]) (e1:OnIn H b r q l rs us ps rbs ws M S β) (e2:RwV H a (.pour i j t b')) (e3:GoodR rs.length ws (.pour i j t b')) (e4:S[i]?=some di) (e5:S[j]?=some dj) (e6:rbs[j]?=some rbj) (e7:((∀ y,di.1 y=0)->RefL "dry" i H Q)) (e8:(¬ (∀ y,di.1 y=0)->IntoL us ps ws (M*b') ((scl b' S).set i (λy=>di.1 y*b'-di.1 y*t,di.2)) j (λy=>dj.1 y*b',dj.2) rbj (λy=>di.1 y*t) di.2 H Q)):spPoured K vs H Q Ex
section
variable {P:Av}{w:World}{K:Ab}{mg:Str->Option Value}{base:Heap}
abbrev Npou:List Str:=["_law_bench","_law_state","_law_row_here","_law_held","_law_names_here","_law_out","_law_rest","_law_ware","_law_much","_law_found"]
def mQ:FnScope Npou ["_law_bench","_law_state","_law_row_here"] (aG oZ):=fnScOk (by decide +kernel)
def xG {f:Addr}{fd:Az}(F:Fun K "_law_poured" "_law_poured" oZ f fd)(T:Txt mg)(cB:Cal P w K mg base CX0 4 "_law_by" ["_law_one","_law_other"] (spBy K))(cT:Cal P w K mg base CX0 4 "_law_take" ["_law_one","_law_other"] (spTake K))(cI:Cal P w K mg base CX0 4 "_law_into" ["_law_bench","_law_state","_law_phial","_law_more","_law_names_here"] (spInto K)):FnOk P w K mg base CX0 5 f fd ["_law_bench","_law_state","_law_row_here"] (spPoured K):=by
 refine F.ok mQ (λvs H Q E h=>?_) (λcdv A outer s H vs Q E hr h=>?_)
 ·obtain ⟨_,_,_,_,_,_,_,_,_,_,_,_,_,_,_,_,_,_,_,_,rfl,_⟩:=h
  rfl
 ·obtain ⟨b,r,q,l,a,rs,us,ps,rbs,ws,M,S,β,i,j,t,b',di,dj,rbj,rfl,o,⟨qa,hra,hqa⟩,⟨g1,g2,g3,g4,g5,g6⟩,hdi,hdj,hrj,kD,kI⟩:=h
  refine ⟨_,(aD (gI (bC bB (pv 1) (pit 2 1) (λ_ _=>rfl)) (fO rfl (bE (aS (i:=3) mQ.nd rfl (Or.inl rfl)) (bE (aS (i:=4) mQ.nd rfl (Or.inl rfl)) eF))))
   (aD (bF (aM (wY hr.units) (pv 3) (aW aC) (aV _))
    (aE (aK (aW (aA (aW (aA aT (aA (pit 2 1) (aA dO aC)))) (aA dO aC)))))
    aQ)
   (aD (aL (i:=5) mQ.nd rfl (Or.inl rfl) rF)
   (aD (aL (i:=6) mQ.nd rfl (Or.inl rfl) (dP aC))
   (aD (cJ AJ rfl (fY (pv 3)) (fO rfl (bE (aS (i:=7) mQ.nd rfl (Or.inl rfl)) (bE (aS (i:=8) mQ.nd rfl (Or.inl rfl)) eF)))
    (aD (pJ (kC hr) (pv 5) (pv 7) (aJ cB hr rfl aR (aA (pv 8) (aA (pit 2 3) aC))) rfl)
    (aE (bF (aM (nG hr.units) (pit 2 3) (aW (aA aH (aA aH aC))) (aV _))
     (aE (dJ (lQ BG BD BC cQ (pv 6) (aA (aW (aA (pv 7) (aA (aJ cT hr rfl aR (aA (pv 8) (aA (jJ (kC hr) (pv 5) (pv 7) (λ_ _=>rfl)) aC))) aC))) aC))))
     aQ))))
   (aD (aL (i:=9) mQ.nd rfl (Or.inl rfl) (aX bJ rfl T.list' dS (aA (pv 1) aC)))
   (aD (gI (aW (aA (aX bH rfl T.tup' cY (aA (pv 6) aC)) (aA (pv 4) aC))) (mX (pv 9) (pit 2 1) set_list))
   (aE (aK (aJ cI hr rfl aR (aA (pv 0) (aA (pv 9) (aA (pit 2 2) (aA (pv 5) (aA (pv 4) aC))))))))))))))),?_⟩
  obtain ⟨vs,v,hl,vl,hv,a1,mm,nn,ms,ys,rfl,ha1,hmm,pr,mx,hnn⟩:=o.st.get hdi;have okd:=o.so.ok di (Al hdi);have M0:=o.so.m0;have b0:0<b':=by have:=g4.am.b1;omega
  have sqr:=SqT.of (K:=K) hra;have pl:=pr.length;refine ⟨_,rfl,a,_,_,rfl,sqr,rfl,l,_,(i:Int),.ref a1,rfl,rfl,SqL.of hl,bA hv,?_⟩;refine ⟨a1,_,rfl,SqT.of ha1,rfl,_,_,rfl,_,_,rfl,rfl,?_⟩;refine ⟨_,rfl,zLn0,λz0 nz0=>⟨mm,z0,_,rfl,rfl,SqT.of ((Same.upd nz0) _ _ hmm),SqT.of aB,_,rfl,ite2 (λc=>?_) (λc=>?_)⟩⟩
  ·have em:ms=[]:=by
    cases ms with
    |nil=>rfl
    |cons u r=>exact absurd c (by show ¬ (false=true);decide)
   have z:∀ y,di.1 y=0:=(fQ mx).mp (Bq.mp (by rw [<- pl,em];rfl));have s1:=Same.upd (o:=.tup []) nz0;refine ⟨a,_,_,rfl,SqT.of (s1 _ _ hra),rfl,zLn3,λt3 nt3=>⟨zLn2,λzz nzz=>?_⟩⟩;have s2:=Same.upd (o:=.tup [.str "dry",.int ((i:Nat):Int),.non]) nt3;have s3:=Same.upd (o:=.tup [.ref t3,.non]) nzz;exact kD z zz t3 _ ((s1.trans s2).trans s3) aB (s3 _ _ aB)
  ·have ne:¬ (∀ y,di.1 y=0):=λz=>by
    have:=(fQ mx).mpr z;subst this;have:ms=[]:=Bq.mp pl;subst this;exact absurd rfl c
   have kI':=kI ne;have s1:=Same.upd (o:=.tup []) nz0;generalize upd H z0 (.tup [])=H1 at s1 ⊢;intro od nod;have s2:=Same.upd (o:=.dK []) nod;refine ⟨zLn0,λrl nrl=>?_⟩;have s3:=Same.upd (o:=.lst []) nrl;have ho3:upd (upd H1 od (.dK [])) rl (.lst []) od=some (.dK []):=s3 _ _ aB;have hr3:upd (upd H1 od (.dK [])) rl (.lst []) rl=some (.lst []):=aB;have or':od≠rl:=λe=>by rw [<- e,aB] at nrl;cases nrl
   have s03:=(s1.trans s2).trans s3;have od0:H od=none:=sm0 s1 nod;have rl0:H rl=none:=sm0 (s1.trans s2) nrl;generalize upd (upd H1 od (.dK [])) rl (.lst [])=H3 at s03 ho3 hr3 ⊢;refine ⟨_,rfl,mm,rfl,⟨_,SqT.of (s03 _ _ hmm)⟩,?_⟩;have am:=g4.am;have fy:∀ y∈ys,Fr M y.2.1 y.2.2 (di.1 y.1):=mx.fr;have Mb:0<M*b':=Cr M0 b0;have zm:(ys.map (zf t b')).map (·.1)=ys.map (·.1):=by rw [Ca];rfl
   have rmm:(ys.map (rf t b')).map (·.1)=ys.map (·.1):=by rw [Ca];rfl
   have fz:∀ z∈ys.map (zf t b'),Fr (M*b') z.2.1 z.2.2 (di.1 z.1*t):=λz hz=>by
    obtain ⟨y,hy,rfl⟩:=AH.mp hz;exact aAc M0 (fy y hy) am
   have frr:∀ z∈ys.map (rf t b'),Fr (M*b') z.2.1 z.2.2 (di.1 z.1*b'-di.1 z.1*t):=λz hz=>by
    obtain ⟨y,hy,rfl⟩:=AH.mp hz;exact (aGs M0 (fy y hy) am g6).2
   have nwz:∀ y,NW (M*b') (ys.map (zf t b')) y=di.1 y*t:=λy=>by
    rw [gM Mb (f:=λy=>di.1 y*t) (by rw [zm];exact mx.nd) fz,zm]
    by_cases c:y∈ys.map (·.1)
    ·rw [if_pos c]
    ·rw [if_neg c]
     have:di.1 y=0:=Be λh=>c ((mx.mem y).mpr h);rw [this,Br]
   have yl:ys.length<=6:=AU (xY mx okd.inw) o.bs.ww.l;refine lS (xs:=ms) (λk σ H'=>∃ (v7 v8:Option V) (kvs:List (Key×V)) (ks:List Str) (rvs:List V),σ=[some (.ref b),some (.ref l),some (.ref a),some (.ref mm),some (.ref nn),some (.ref od),some (.ref rl),v7,v8,none]/\(∀ c o,c≠od->c≠rl->H3 c=some o->H' c=some o)/\H' od=some (.dK kvs)/\DA H' (M*b') ((ys.map (zf t b')).take k) kvs ks/\ks.length<=k/\H' rl=some (.lst rvs)/\PrL H' rvs (if ([t,b']:List Int)=[1,1] then [] else (ys.map (rf t b')).take k)/\rvs.length<=k)
    ⟨none,none,[],[],[],rfl,λ_ _ _ _ h=>h,ho3,⟨.nil,λy=>by simp,λy hy=>by simp at hy⟩,Aj _,hr3,by rw [List.take_zero];split<;>exact .nil,Aj _⟩ ?_ ?_ ?_
   ·rintro k σ H' hk ⟨_,_,_,_,_,rfl,sm,_⟩
    exact SqT.of (sm _ _ (λe=>by rw [e,od0] at hmm;cases hmm) (λe=>by rw [e,rl0] at hmm;cases hmm) (s03 _ _ hmm))
   ·rintro k v' σ H4 hv' ⟨v7,v8,kvs,ks,rvs,rfl,s4,ho4,da,kl,hr4,pr4,rvl⟩
    obtain ⟨y,hy,pp,qq,rfl,h1,h2⟩:=pr.get hv';have kp:∀ c o,H c=some o->H4 c=some o:=λc o hc=>s4 c o (λe=>by rw [e,od0] at hc;cases hc) (λe=>by rw [e,rl0] at hc;cases hc) (s03 _ _ hc);have ym:=Al hy;have kl6:k<6:=by have:=(Ae.mp hy).1;omega
    have fyy:=fy y ym;have hz:(ys.map (zf t b'))[k]?=some (zf t b' y):=by rw [Ao,hy];rfl
    have hrf:(ys.map (rf t b'))[k]?=some (rf t b' y):=by rw [Ao,hy];rfl
    obtain ⟨lef,frf⟩:=aGs M0 fyy am g6;have fzz:=aAc M0 fyy am;obtain ⟨vi,hvi⟩:∃ vi,rs[i]?=some vi:=⟨_,Ac g1⟩;obtain ⟨rbi,hri,_,_,_,rmi⟩:=o.bs.rm.get hvi;obtain ⟨tn,tb⟩:=o.so.small hdi hri rmi;have b24:=o.b24;have yS:di.1 y.1<=tot ws di.1:=by
     have e1:=(gW o.bs.ww.nd mx okd.inw);have e2:=(qJ M0 mx.over ys.length y.1).2;rw [BF,mx.nw] at e2;omega
    have ynn:=okd.nn y.1;have by1:Bt 2600 (di.1 y.1):=(tb.le ynn yS).mono (by omega);have fsm:=dE M0 fyy;have bM:=o.so.bm;have b1:Bt 4000 y.2.1:=(by1.le fyy.am.t0 fsm.1).mono (by decide);have b2:Bt 4000 y.2.2:=(bM.le (by have:=fyy.am.b1;omega) fsm.2).mono (by omega);have zsm:=dE Mb fzz;have b3:Bt 4000 (zf t b' y).2.1:=((by1.mul g4.bt).le fzz.am.t0 zsm.1).mono (by decide);have b4:Bt 4000 (zf t b' y).2.2:=((bM.mul g4.bb).le (by have:=fzz.am.b1;omega) zsm.2).mono (by omega);refine ⟨pp,_,rfl,SqT.of (kp _ _ h1),rfl,_,_,rfl,_,_,rfl,rfl,?_⟩;have tw1:Tw K H4 qq qa y.2.1 y.2.2 t b':=⟨SqT.of (kp _ _ h2),SqT.of (kp _ _ hqa),fyy.am,am,b1,b2,g4.bt.mono (by decide),g4.bb.mono (by decide)⟩;refine ⟨_,rfl,a,_,_,rfl,SqT.of (kp _ _ hra),rfl,qq,qa,y.2.1,y.2.2,t,b',rfl,tw1,λr' H5 s5 h5=>?_⟩;have ho5:=s5 _ _ ho4;have yk:y.1∉((ys.map (zf t b')).take k).map (·.1):=λhm=>by
     rw [List.map_take,zm] at hm;obtain ⟨n,hn⟩:=Dr hm;rw [List.getElem?_take] at hn;split at hn
     ·rename_i lt
      rw [Ao] at hn;obtain ⟨y',hy',e⟩:=AO.mp hn;have:=(List.getElem?_inj (l:=ys.map (·.1)) (i:=n) (j:=k) (by rw [Af];have:=(Ae.mp hy').1;omega) mx.nd).mp (by rw [Ao,Ao,hy',hy];exact congrArg some e);omega
     ·cases hn
    have frn:Fr (M*b') (zf t b' y).2.1 (zf t b' y).2.2 (NW (M*b') ((ys.map (zf t b')).take k) (zf t b' y).1+nOf (M*b') (zf t b' y)):=by
     rw [eN (y:=(zf t b' y).1) yk,Int.zero_add,rP (x:=(zf t b' y).1) Mb fzz];exact fzz
    obtain ⟨ks',da',kl'⟩:=(da.keep s5.tk).step hz h5 frn;refine ⟨_,rfl,_,rfl,od,_,rfl,DPut.k (k:=AR y.1) ho5 (bU (by rw [da.1.len];omega)),?_⟩;have tk6:Tk H5 (upd H5 od (.dK (putK kvs (AR y.1) (.ref r')))):=Tk.dk ho5;have da6:=da'.keep tk6;have ho6:upd H5 od (.dK (putK kvs (AR y.1) (.ref r'))) od=some (.dK (putK kvs (AR y.1) (.ref r'))):=aB;have hr6:upd H5 od (.dK (putK kvs (AR y.1) (.ref r'))) rl=some (.lst rvs):=by rw [aI (Bg or')];exact s5 _ _ hr4
    have k6:∀ c o,c≠od->c≠rl->H4 c=some o->upd H5 od (.dK (putK kvs (AR y.1) (.ref r'))) c=some o:=λc o n1 n2 hc=>by rw [aI n1];exact s5 _ _ hc
    have kp6:∀ c o,H c=some o->upd H5 od (.dK (putK kvs (AR y.1) (.ref r'))) c=some o:=λc o hc=>k6 c o (λe=>by rw [e,od0] at hc;cases hc) (λe=>by rw [e,rl0] at hc;cases hc) (kp c o hc);have pr6:PrL (upd H5 od (.dK (putK kvs (AR y.1) (.ref r')))) rvs (if ([t,b']:List Int)=[1,1] then [] else (ys.map (rf t b')).take k):=(pr4.keep s5.tk).keep tk6;have h6:upd H5 od (.dK (putK kvs (AR y.1) (.ref r'))) r'=some (.tup [.int (zf t b' y).2.1,.int (zf t b' y).2.2]):=tk6 _ _ h5;have vk:valV (putK kvs (AR y.1) (.ref r')) (AR y.1)=some (.ref r'):=by rw [qN,if_pos rfl]
    generalize upd H5 od (.dK (putK kvs (AR y.1) (.ref r')))=H6 at da6 ho6 hr6 k6 kp6 pr6 h6 ⊢;refine ⟨a,_,_,rfl,SqT.of (kp6 _ _ hra),rfl,zLn2,λz1 nz1=>⟨qa,z1,[t,b'],[1,1],rfl,rfl,SqT.of ((Same.upd nz1) _ _ (kp6 _ _ hqa)),SqT.of aB,_,rfl,?_⟩⟩;have w1:=Same.upd (o:=.tup [.int 1,.int 1]) nz1;generalize upd H6 z1 (.tup [.int 1,.int 1])=H7 at w1 ⊢;refine ite2 (λc2=>?_) (λc2=>?_)
    ·have n11:¬ ([t,b']:List Int)=[1,1]:=λe=>by rw [decide_eq_true e] at c2;cases c2
     have dg:DGet H7 od (.str y.1) (some (.ref r')):=.inl ⟨_,.inr y.1,.inl (w1 _ _ ho6),rfl,vk.symm⟩;have tw2:Tw K H7 qq r' y.2.1 y.2.2 (zf t b' y).2.1 (zf t b' y).2.2:=⟨SqT.of (w1 _ _ (kp6 _ _ h2)),SqT.of (w1 _ _ h6),fyy.am,fzz.am,b1,b2,b3,b4⟩;refine ⟨_,rfl,.inl ⟨rfl,_,SqL.of (w1 _ _ hr6)⟩,_,rfl,_,rfl,_,rfl,_,rfl,od,_,rfl,dg,qq,r',y.2.1,y.2.2,(zf t b' y).2.1,(zf t b' y).2.2,rfl,tw2,lef,λr2 H8 s8 h8=>⟨zLn2,λpz npz=>?_⟩⟩;have w9:=Same.upd (o:=.tup [.str y.1,.ref r2]) npz;have w79:=(w1.trans s8).trans w9;have hr9:=w79 _ _ hr6;refine ⟨rl,rvs,_,rfl,rfl,hr9,bU (by omega),?_⟩;have tkr:Tk (upd H8 pz (.tup [.str y.1,.ref r2])) (upd (upd H8 pz (.tup [.str y.1,.ref r2])) rl (.lst (rvs++[.ref pz]))):=λc ts hc=>by
      rw [aI λe=>by rw [e,hr9] at hc;cases hc];exact hc
     refine ⟨_,_,_,ks',rvs++[.ref pz],rfl,λc o n1 n2 hc=>?_,?_,(da6.keep w79.tk).keep tkr,by omega,aB,?_,by rw [Ay,DM];omega⟩
     ·rw [aI n2]
      exact w79 _ _ (k6 c o n1 n2 (s4 c o n1 n2 hc))
     ·rw [aI or']
      exact w79 _ _ ho6
     ·rw [if_neg n11] at pr6 ⊢
      rw [CU,hrf];exact ((pr6.keep w79.tk).keep tkr).snoc ⟨pz,r2,rfl,tkr _ _ aB,tkr _ _ (w9 _ _ h8)⟩
    ·have e11:([t,b']:List Int)=[1,1]:=Be λe=>c2 (by rw [decide_eq_false e];rfl)
     refine ⟨_,_,_,ks',rvs,rfl,λc o n1 n2 hc=>w1 _ _ (k6 c o n1 n2 (s4 c o n1 n2 hc)),w1 _ _ ho6,da6.keep w1.tk,by omega,w1 _ _ hr6,?_,by omega⟩;rw [if_pos e11] at pr6 ⊢;exact pr6.keep w1.tk
   ·rintro σ H4 ⟨v7,v8,kvs,ks,rvs,rfl,s4,ho4,da,kl,hr4,pr4,rvl⟩
    have kp:∀ c o,H c=some o->H4 c=some o:=λc o hc=>s4 c o (λe=>by rw [e,od0] at hc;cases hc) (λe=>by rw [e,rl0] at hc;cases hc) (s03 _ _ hc);have zl:(ys.map (zf t b')).take ms.length=ys.map (zf t b'):=by rw [pl,<- Af (f:=zf t b'),BF]
    have rl':(ys.map (rf t b')).take ms.length=ys.map (rf t b'):=by rw [pl,<- Af (f:=rf t b'),BF]
    rw [zl] at da;rw [rl'] at pr4;have sH:Same H H4:=λc o hc=>kp c o hc;have il:=(Ae.mp hv).1;refine ⟨_,rfl,l,_,rfl,.inl (SqL.of (kp _ _ hl)),λfl nfl=>?_⟩;have w5:=Same.upd (o:=.lst vs) nfl;refine ⟨_,rfl,rl,_,rfl,.inl ⟨SqL.of (w5 _ _ hr4),λtz ntz=>⟨_,rfl,zLn2,λzt nzt=>?_⟩⟩⟩;have w6:=Same.upd (o:=.tup rvs) ntz;have w7:=Same.upd (o:=.tup [.ref tz,.ref nn]) nzt;have w57:=(w5.trans w6).trans w7;have hfl:upd (upd (upd H4 fl (.lst vs)) tz (.tup rvs)) zt (.tup [.ref tz,.ref nn]) fl=some (.lst vs):=(w6.trans w7) _ _ aB;have htz:upd (upd (upd H4 fl (.lst vs)) tz (.tup rvs)) zt (.tup [.ref tz,.ref nn]) tz=some (.tup rvs):=w7 _ _ aB;have hzt:upd (upd (upd H4 fl (.lst vs)) tz (.tup rvs)) zt (.tup [.ref tz,.ref nn]) zt=some (.tup [.ref tz,.ref nn]):=aB;generalize upd (upd (upd H4 fl (.lst vs)) tz (.tup rvs)) zt (.tup [.ref tz,.ref nn])=H7 at w57 hfl htz hzt ⊢;refine ⟨_,rfl,a,_,_,rfl,SqT.of (w57 _ _ (kp _ _ hra)),rfl,fl,vs,(i:Int),i,rfl,rfl,hfl,jS il,?_⟩;have fl0:H fl=none:=sm0 sH nfl;have tk8:∀ c o,c≠fl->H7 c=some o->upd H7 fl (.lst (vs.set i (.ref zt))) c=some o:=λc o n hc=>by rw [aI n];exact hc
    have s8:Same H (upd H7 fl (.lst (vs.set i (.ref zt)))):=λc o hc=>tk8 c o (λe=>by rw [e,fl0] at hc;cases hc) (w57 _ _ (kp _ _ hc));have t8:Tk H7 (upd H7 fl (.lst (vs.set i (.ref zt)))):=λc ts hc=>tk8 c _ (λe=>by rw [e,hfl] at hc;cases hc) hc;have fl8:upd H7 fl (.lst (vs.set i (.ref zt))) fl=some (.lst (vs.set i (.ref zt))):=aB;have od8:upd H7 fl (.lst (vs.set i (.ref zt))) od=some (.dK kvs):=tk8 _ _ (λe=>by rw [<- e,ho4] at nfl;cases nfl) (w57 _ _ ho4);have da8:=(da.keep w57.tk).keep t8;have pr8:=(pr4.keep w57.tk).keep t8;have tz8:=t8 _ _ htz;have zt8:=t8 _ _ hzt;generalize upd H7 fl (.lst (vs.set i (.ref zt)))=H8 at s8 fl8 od8 da8 pr8 tz8 zt8 ⊢;have ew:(NW (M*b') (ys.map (zf t b')))=λy=>di.1 y*t:=funext nwz;have o8:=o.keep s8;have sc:=o.so.scale b0 g4.bb;refine ⟨_,rfl,_,rfl,a,_,_,rfl,SqT.of (s8 _ _ hra),rfl,_,rfl,_,rfl,b,r,q,fl,od,nn,rs,us,ps,rbs,ws,M*b',(scl b' S).set i (λy=>di.1 y*b'-di.1 y*t,di.2),j,(λy=>dj.1 y*b',dj.2),rbj,kvs,ks,ys.map (zf t b'),di.2,rfl,?_,by rw [ew];exact kI'.mono s8⟩;have mxr:IsMx (M*b') (λy=>di.1 y*b'-di.1 y*t) (if ([t,b']:List Int)=[1,1] then [] else ys.map (rf t b')):=by
     split
     ·rename_i e
      injection e with e1 e2;injection e2 with e2 _;exact kM.congr λy=>by rw [e1,e2,Int.sub_self]
     ·rename_i e
      have tb:t≠b':=λz=>e (by
       rw [<- z] at am ⊢;rw [aB5 am])
      refine ⟨by rw [rmm];exact mx.pw,by rw [rmm];exact mx.nd,λy=>?_,frr⟩;rw [rmm,mx.mem,<- Int.mul_sub];constructor
      ·intro h z
       rcases DQ.mp z with z|z
       ·exact h z
       ·omega
      ·intro h z
       exact h (by rw [z,Br])
    have S1:StV H8 fl (M*b') ((scl b' S).set i (λy=>di.1 y*b'-di.1 y*t,di.2)):=(o.st.scale M0 b0).put hl s8 fl8 ⟨zt,tz,nn,rvs,_,rfl,zt8,tz8,pr8,mxr,s8 _ _ hnn⟩;have nl:di.2.length<=6:=AU ((eQ okd.srt).length_le_of_subset okd.nin) o.bs.ww.l;refine ⟨o8.bs,S1,by rw [CB];unfold scl;rw [Af,o.so.sl];exact o.bs.rm.1.symm,λd hd=>?_,by rw [Cq g3];exact fI hdj,hrj,od8,da8,λz hz=>⟨(fz z hz).am,(fz z hz).dvd⟩,λz hz=>?_,λy hy=>?_,.inr (SqT.of (s8 _ _ hnn)),okd.nin,by omega,Mb,(o.so.bm.mul g4.bb).mono (by have:=o.b24;omega),?_⟩
    ·rcases Fo hd with h|h
     ·exact sc.ok d h
     ·rw [h]
      refine ⟨λy=>?_,okd.nin,okd.srt,λy hy=>okd.inw y λe=>hy (by show di.1 y*b'-di.1 y*t=0;rw [e,Br,Br];rfl)⟩;have:=CM g6 (okd.nn y);show 0<=di.1 y*b'-di.1 y*t;omega
    ·obtain ⟨y,hy,rfl⟩:=AH.mp hz
     exact okd.inw y.1 ((mx.mem y.1).mp (BQ hy))
    ·rw [nwz]
     have h1:=(da.2.1 y).mp hy;rw [zm] at h1;have h2:=(mx.mem y).mp h1;have h3:=okd.nn y;exact Cr (by omega) (by omega)
    ·rw [ew]
     show Bt 2900 (tot ws (λy=>dj.1 y*b'+di.1 y*t));rw [gX (λy=>dj.1 y*b') (λy=>di.1 y*t) ws,eY,eY];obtain ⟨vi,hvi⟩:∃ vi,rs[i]?=some vi:=⟨_,Ac g1⟩;obtain ⟨rbi,hri,_,_,_,rmi⟩:=o.bs.rm.get hvi;obtain ⟨_,tb1⟩:=o.so.small hdi hri rmi;obtain ⟨_,tb2⟩:=o.so.small hdj hrj (o.bs.rm.at hrj);have b24:=o.b24;have h1:Bt 2800 (tot ws dj.1*b'):=(tb2.mul g4.bb).mono (by omega);have h2:Bt 2800 (tot ws di.1*t):=(tb1.mul g4.bt).mono (by omega);exact (h1.add h2).mono (by decide)
end
def ResL (us:List V)(ps:List (Str×Str))(rbs:List (Int×Int))(ws:List Str)(M:Int)(S:List PF)(H:Hp)(Q:VK):Rw->Prop
 |.draw i x t b=>∃ d rb,S[i]?=some d/\rbs[i]?=some rb/\IntoL us ps ws (M*b) (scl b S) i (λy=>d.1 y*b,d.2) rb (oneW x (t*M)) [x] H Q
 |.fill i x t b=>∃ d rb,S[i]?=some d/\rbs[i]?=some rb/\(¬ tot ws d.1*b<t*M->RefL "low" i H Q)/\(tot ws d.1*b<t*M->IntoL us ps ws (M*b) (scl b S) i (λy=>d.1 y*b,d.2) rb (oneW x (t*M-tot ws d.1*b)) [x] H Q)
 |.pour i j t b=>∃ di dj rbj,S[i]?=some di/\S[j]?=some dj/\rbs[j]?=some rbj/\((∀ y,di.1 y=0)->RefL "dry" i H Q)/\(¬ (∀ y,di.1 y=0)->IntoL us ps ws (M*b) ((scl b S).set i (λy=>di.1 y*b-di.1 y*t,di.2)) j (λy=>dj.1 y*b,dj.2) rbj (λy=>di.1 y*t) di.2 H Q)
 |.empty i=>∃ d,S[i]?=some d/\∀ z l' H',Same H H'->H l'=none->H' z=some (.tup [.non,.ref l'])->StV H' l' M (S.set i (λ_=>0,d.2))->Q (.ref z) H'
 |.rinse i=>∃ d,S[i]?=some d/\(¬ (∀ y,d.1 y=0)->RefL "wet" i H Q)/\((∀ y,d.1 y=0)->∀ z l' H',Same H H'->H l'=none->H' z=some (.tup [.non,.ref l'])->StV H' l' M (S.set i (λ_=>0,[]))->Q (.ref z) H')
inductive spAfter (K:Ab)(vs:List V)(H:Hp)(Q:VK)(Ex:XK):Prop
 |mk (b r q l a rs us ps rbs ws M S β rw:_) (e0:vs=[.ref b,.ref l,.ref a]) (e1:OnIn H b r q l rs us ps rbs ws M S β) (e2:RwV H a rw) (e3:GoodR rs.length ws rw) (e4:ResL us ps rbs ws M S H Q rw):spAfter K vs H Q Ex
theorem sA {M t b N rt rb:Int}(hM:0<M)(h:Fr M t b N):decide (t*rb<rt*b)=decide (N*rb<rt*M):=by
 have b0:0<b:=by have:=h.am.b1;omega
 refine decide_eq_decide.mpr ?_;have e1:rt*b*M=rt*M*b:=AS ..;have e2:t*rb*M=N*rb*b:=by rw [AS,h.e,AS]
 rw [<- Fc hM,e1,e2,Fc b0]
theorem nw1 {M t b N:Int}{x:Str}(M0:0<M)(fr:Fr M t b N):NW M [(x,t,b)]=oneW x N:=funext λy=>by
 rw [jY];unfold oneW;have:NW M [] y=0:=eN (by simp);rw [this,Int.add_zero,rP M0 fr]
def law1 {K:Ab}{H:Hp}{b r q l dd nl qa:Addr}{rs us:List V}{ps:List (Str×Str)}{rbs:List (Int×Int)}{ws:List Str}{M:Int}{S:List PF}{β i:Nat}{d:PF}{rb:Int×Int}{x:Str}{t t' b' N:Int}
  (o:OnIn H b r q l rs us ps rbs ws M S β) (hd:S[i]?=some d) (hr:rbs[i]?=some rb) (xw:x∈ws) (fr:Fr (M*t') t b' N) (N0:0<N) (bN:Bt 2600 N) (t0:0<t') (bt':Bt 200 t')
  (hm:H dd=some (.dK [(AR x,.ref qa)])) (hq:H qa=some (.tup [.int t,.int b'])) (hn:H nl=some (.lst [.str x])) :
  LawIn K H b r q l dd nl rs us ps rbs ws (M*t') (scl t' S) i (λy=>d.1 y*t',d.2) rb [(AR x,.ref qa)] [x] [(x,t,b')] [x]:=by
 have rm:=o.bs.rm.at hr;obtain ⟨n0,sm⟩:=o.so.small hd hr rm;have b24:=o.b24;have ss:=o.so.scale t0 bt';have Mb:=Cr o.so.m0 t0;have nw:=nw1 (x:=x) Mb fr;refine ⟨o.bs,o.st.scale o.so.m0 t0,by unfold scl;rw [Af,o.so.sl];exact o.bs.rm.1.symm,ss.ok,fI hd,hr,hm,⟨⟨rfl,by simp⟩,λy=>Iff.rfl,λy hy=>?_⟩,λz hz=>?_,λz hz=>?_,λy hy=>?_,.inl (SqL.of hn),λz hz=>?_,(by show 1<=20;decide),Mb,(o.so.bm.mul bt').mono (by omega),?_⟩
 ·rw [AE.mp hy,nw]
  refine ⟨qa,t,b',?_,hq,?_⟩
  ·unfold valV
   simp
  ·unfold oneW
   rw [if_pos rfl];exact fr
 ·rw [AE.mp hz]
  exact ⟨fr.am,fr.dvd⟩
 ·rw [AE.mp hz]
  exact xw
 ·rw [AE.mp hy,nw]
  unfold oneW;rw [if_pos rfl];exact N0
 ·rw [AE.mp hz]
  exact xw
 ·rw [nw]
  show Bt 2900 (tot ws (λy=>d.1 y*t'+oneW x N y));rw [gX (λy=>d.1 y*t') (oneW x N) ws,eY,oO o.bs.ww.nd xw];have h1:Bt 2800 (tot ws d.1*t'):=(sm.mul bt').mono (by omega);exact (h1.add (bN.mono (by decide))).mono (by decide)
section
variable {P:Av}{w:World}{K:Ab}{mg:Str->Option Value}{base:Heap}
abbrev Naft:List Str:=["_law_bench","_law_state","_law_row_here","_law_lies","_law_found"]
def aD1:FnScope Naft ["_law_bench","_law_state","_law_row_here"] (aG vY):=fnScOk (by decide +kernel)
def aBm {f:Addr}{fd:Az}(F:Fun K "_law_after" "_law_after" vY f fd)(T:Txt mg)(cI:Cal P w K mg base CX0 5 "_law_into" ["_law_bench","_law_state","_law_phial","_law_more","_law_names_here"] (spInto K))(cP:Cal P w K mg base CX0 5 "_law_poured" ["_law_bench","_law_state","_law_row_here"] (spPoured K))(cS:Cal P w K mg base CX0 5 "_law_sum" ["_law_held"] (spSum K))(cU:Cal P w K mg base CX0 5 "_law_under" ["_law_one","_law_other"] (spLess K))(cT:Cal P w K mg base CX0 5 "_law_take" ["_law_one","_law_other"] (spTake K)):FnOk P w K mg base CX0 6 f fd ["_law_bench","_law_state","_law_row_here"] (spAfter K):=by
 refine F.ok aD1 (λvs H Q E h=>?_) (λcdv A outer s H vs Q E hr h=>?_)
 ·obtain ⟨_,_,_,_,_,_,_,_,_,_,_,_,_,_,rfl,_⟩:=h
  rfl
 ·obtain ⟨b,r,q,l,a,rs,us,ps,rbs,ws,M,S,β,rw',rfl,o,rv,gr,res⟩:=h
  refine ⟨_,(aD (bF (aM dD (pit 2 0) aT (aV _))
    (aE (aK (aJ cI hr rfl aR (aA (pv 0) (aA (pv 1) (aA (pit 2 1) (aA (wK (rE (pit 2 2) (pit 2 3) wC) rfl rfl (by simp) (by simp)) (aA (dP (aA (pit 2 2) aC)) aC))))))))
    aQ)
   (aD (bF (aM dD (pit 2 0) aT (aV _))
    (aE (aK (aJ cP hr rfl aR (aA (pv 0) (aA (pv 1) (aA (pv 2) aC))))))
    aQ)
   (aD (bF (aM dD (pit 2 0) aT (aV _))
    (aD (aL (i:=3) aD1.nd rfl (Or.inl rfl) (aJ cS hr rfl aR (aA (aX (kX rfl) rfl T.dict' zT (aA (bC cV (bC bB (pv 1) (pit 2 1) (λ_ _=>rfl)) aH (λ_ _=>rfl)) aC)) aC)))
    (aD (bF (eB (dA (aJ cU hr rfl aR (aA (pv 3) (aA (pit 2 3) aC)))))
     (aE (aK (aW (aA (aW (aA aT (aA (pit 2 1) (aA dO aC)))) (aA dO aC)))))
     aQ)
    (aE (aK (aJ cI hr rfl aR (aA (pv 0) (aA (pv 1) (aA (pit 2 1) (aA (wK (rE (pit 2 2) (aJ cT hr rfl aR (aA (pit 2 3) (aA (pv 3) aC))) wC) rfl rfl (by simp) (by simp)) (aA (dP (aA (pit 2 2) aC)) aC))))))))))
    aQ)
   (aD (aL (i:=4) aD1.nd rfl (Or.inl rfl) (aX bJ rfl T.list' dS (aA (pv 1) aC)))
   (aD (bF (PW.pt (kJ (aM dD (pit 2 0) aT (aV _)) (hV (aM (wR hr.units) (bC cV (bC bB (pv 4) (pit 2 1) (λ_ _=>rfl)) aH (λ_ _=>rfl)) (aW aC) (aV _)))))
    (aE (aK (aW (aA (aW (aA aT (aA (pit 2 1) (aA dO aC)))) (aA dO aC)))))
    aQ)
   (aD (gI (aW (aA (aW aC) (aA (bC bB (dP (aA (bC cV (bC bB (pv 4) (pit 2 1) (λ_ _=>rfl)) aH (λ_ _=>rfl)) (aA (aW aC) aC))) (aX zQ rfl T.int' zR (aA (dB dD (pit 2 0) aT (aV _)) aC)) (λ_ _=>rfl)) aC))) (mX (pv 4) (pit 2 1) set_list))
   (aE (aK (aW (aA dO (aA (pv 4) aC))))))))))),?_⟩
  have b24:=o.b24;cases rw' with
  |draw i x t b'=>
   obtain ⟨q',h1,h2⟩:=rv;obtain ⟨g1,g2,g3,g4⟩:=gr;obtain ⟨d,rb,hd,hrb,kI⟩:=res;have sq:=SqT.of (K:=K) h1;have b0:0<b':=by have:=g3.am.b1;omega
   refine ⟨a,_,_,rfl,sq,rfl,rfl,_,rfl,iteT ⟨_,rfl,_,rfl,a,_,_,rfl,sq,rfl,λdd ndd=>?_⟩⟩;have s1:=Same.upd (o:=.dK []) ndd;refine ⟨a,_,_,rfl,SqT.of (s1 _ _ h1),rfl,a,_,_,rfl,SqT.of (s1 _ _ h1),rfl,aB,[(.inr x,.ref q')],rfl,by show 1<=15;decide,?_⟩;have s2:Same H (upd (upd H dd (.dK [])) dd (.dK [(.inr x,.ref q')])):=λc o hc=>by
    have n:c≠dd:=λe=>by rw [e,ndd] at hc;cases hc
    rw [aI n,aI n];exact hc
   refine ⟨a,_,_,rfl,SqT.of (s2 _ _ h1),rfl,zLn1,λnl nnl=>?_⟩;have s3:=Same.upd (o:=.lst [.str x]) nnl;have Mb:=Cr o.so.m0 b0;have fr:Fr (M*b') t b' (t*M):=⟨g3.am,by rw [<- BM]⟩;refine ⟨b,r,q,l,dd,nl,rs,us,ps,rbs,ws,M*b',scl b' S,i,_,rb,_,[x],[(x,t,b')],[x],rfl,law1 (o.keep (s2.trans s3)) hd hrb g2 fr (Cr (by omega) o.so.m0) ((g3.bt.mul o.so.bm).mono (by omega)) b0 g3.bb (s3 _ _ aB) ((s2.trans s3) _ _ h2) aB,?_⟩;rw [nw1 Mb fr];exact kI.mono (s2.trans s3)
  |fill i x t b'=>
   obtain ⟨q',h1,h2⟩:=rv;obtain ⟨g1,g2,g3⟩:=gr;obtain ⟨d,rb,hd,hrb,kL,kI⟩:=res;have sq:=SqT.of (K:=K) h1;have b0:0<b':=by have:=g3.am.b1;omega
   have M0:=o.so.m0;obtain ⟨vs,v,hl,vl,hv,a1,mm,nn,ms,ys,rfl,ha1,hmm,pr,mx,hnn⟩:=o.st.get hd;have okd:=o.so.ok d (Al hd);obtain ⟨kv0,k1,k2,k3,k4⟩:=aCr pr;have nd0:(kv0.map (·.1)).Nodup:=by
    rw [k2];exact Cw.mpr (mx.nd.imp λh e=>h (AR.inj e))
   obtain ⟨n0,sm⟩:=o.so.small hd hrb (o.bs.rm.at hrb);have tS:sumN M ys=tot ws d.1:=gW o.bs.ww.nd mx okd.inw;refine ⟨a,_,_,rfl,sq,rfl,rfl,_,rfl,iteF ⟨a,_,_,rfl,sq,rfl,rfl,_,rfl,iteF ⟨a,_,_,rfl,sq,rfl,rfl,_,rfl,iteT ⟨_,rfl,a,_,_,rfl,sq,rfl,l,_,(i:Int),.ref a1,rfl,rfl,SqL.of hl,bA hv,a1,_,0,.ref mm,rfl,rfl,SqT.of ha1,rfl,mm,ms,kv0,rfl,hmm,k1,nd0,k3,λp np=>?_⟩⟩⟩⟩;have s1:=Same.upd (o:=.dK kv0) np;have da1:DA (upd H p (.dK kv0)) M ys kv0 (ys.map (·.1)):=⟨⟨k2,mx.nd⟩,λy=>Iff.rfl,λy hy=>by
    obtain ⟨x',hx,rfl⟩:=AH.mp hy;obtain ⟨q2,mq,hq'⟩:=k4 x' hx;refine ⟨q2,_,_,oM nd0 mq,s1 _ _ hq',?_⟩;rw [mx.nw];exact mx.fr x' hx⟩
   refine ⟨p,kv0,ys.map (·.1),M,ys,rfl,aB,da1,M0,o.so.bm.mono (by omega),mx.over,by rw [tS];exact sm.mono (by omega),λli tl bl H2 s2 hli frl=>?_⟩;rw [tS] at frl;have s02:=s1.trans s2;have fsm:=dE M0 frl;have bl1:=frl.am.b1;have tw:Tw K H2 li q' tl bl t b':=⟨SqT.of hli,SqT.of (s02 _ _ h2),frl.am,g3.am,(sm.le frl.am.t0 fsm.1).mono (by omega),(o.so.bm.le (by omega) fsm.2).mono (by omega),g3.bt.mono (by decide),g3.bb.mono (by decide)⟩;refine ⟨_,rfl,a,_,_,rfl,SqT.of (s02 _ _ h1),rfl,li,q',tl,bl,t,b',rfl,tw,_,rfl,?_⟩;rw [sA M0 frl];refine ite2 (λc=>?_) (λc=>?_)
   ·have c':¬ tot ws d.1*b'<t*M:=λz=>by rw [decide_eq_true z] at c;cases c
    refine ⟨a,_,_,rfl,SqT.of (s02 _ _ h1),rfl,zLn3,λt3 nt3=>⟨zLn2,λzz nzz=>?_⟩⟩;have w1:=Same.upd (o:=.tup [.str "low",.int ((i:Nat):Int),.non]) nt3;have w2:=Same.upd (o:=.tup [.ref t3,.non]) nzz;exact kL c' zz t3 _ ((s02.trans w1).trans w2) aB (w2 _ _ aB)
   ·have c':tot ws d.1*b'<t*M:=Be λz=>c (by rw [decide_eq_false z];rfl)
    have f1:Fr b' t b' t:=⟨g3.am,by rw [BJ]⟩;obtain ⟨le,fo⟩:=fV (M1:=b') (M2:=M) b0 M0 f1 frl (by omega);rw [BJ b' M] at fo;refine ⟨_,rfl,_,rfl,a,_,_,rfl,SqT.of (s02 _ _ h1),rfl,λdd ndd=>?_⟩;have s3:=Same.upd (o:=.dK []) ndd;have s03:=s02.trans s3;refine ⟨a,_,_,rfl,SqT.of (s03 _ _ h1),rfl,a,_,_,rfl,SqT.of (s03 _ _ h1),rfl,_,rfl,q',li,t,b',tl,bl,rfl,⟨SqT.of (s03 _ _ h2),SqT.of (s3 _ _ hli),tw.a2,tw.a1,tw.st2,tw.sb2,tw.st1,tw.sb1⟩,le,λpo H4 s4 hpo=>⟨s4 _ _ aB,[(.inr x,.ref po)],rfl,by show 1<=15;decide,?_⟩⟩;have dd4:=s4 _ _ (aB (H:=H2) (a:=dd) (o:=.dK []));have dd0:H dd=none:=sm0 s02 ndd;have s5:Same H (upd H4 dd (.dK [(.inr x,.ref po)])):=λc o hc=>by
     rw [aI λe=>by rw [e,dd0] at hc;cases hc];exact (s03.trans s4) _ _ hc
    have pod:po≠dd:=λe=>by rw [e,dd4] at hpo;cases hpo
    have po5:=(aI (H:=H4) (o:=.dK [(.inr x,.ref po)]) pod).trans hpo;refine ⟨a,_,_,rfl,SqT.of (s5 _ _ h1),rfl,zLn1,λnl nnl=>?_⟩;have s6:=Same.upd (o:=.lst [.str x]) nnl;have Mb:=Cr M0 b0;refine ⟨b,r,q,l,dd,nl,rs,us,ps,rbs,ws,M*b',scl b' S,i,_,rb,_,[x],[(x,_,_)],[x],rfl,law1 (o.keep (s5.trans s6)) hd hrb g2 fo (by omega) (((g3.bt.mul o.so.bm).le (by omega) (by have:=BB n0 (Int.le_of_lt b0);omega)).mono (by omega)) b0 g3.bb (s6 _ _ aB) (s6 _ _ po5) aB,?_⟩;rw [nw1 Mb fo];exact (kI c').mono (s5.trans s6)
  |pour i j t b'=>
   obtain ⟨q',h1,h2⟩:=id rv;obtain ⟨di,dj,rbj,k1,k2,k3,k4,k5⟩:=res;have sq:=SqT.of (K:=K) h1;refine ⟨a,_,_,rfl,sq,rfl,rfl,_,rfl,iteF ⟨a,_,_,rfl,sq,rfl,rfl,_,rfl,iteT ⟨_,rfl,_,rfl,_,rfl,?_⟩⟩⟩;exact ⟨b,r,q,l,a,rs,us,ps,rbs,ws,M,S,β,i,j,t,b',di,dj,rbj,rfl,o,rv,gr,k1,k2,k3,k4,k5⟩
  |empty i=>
   have h1:H a=some (.tup [.str "empty",.int ((i:Nat):Int)]):=rv;obtain ⟨d,hd,k⟩:=res;have sq:=SqT.of (K:=K) h1;obtain ⟨vs,v,hl,vl,hv,a1,mm,nn,ms,ys,rfl,ha1,hmm,pr,mx,hnn⟩:=o.st.get hd;have il:=(Ae.mp hv).1;refine ⟨a,_,_,rfl,sq,rfl,rfl,_,rfl,iteF ⟨a,_,_,rfl,sq,rfl,rfl,_,rfl,iteF ⟨a,_,_,rfl,sq,rfl,rfl,_,rfl,iteF ⟨_,rfl,l,_,rfl,.inl (SqL.of hl),λfl nfl=>?_⟩⟩⟩⟩;have s1:=Same.upd (o:=.lst vs) nfl;have hfl:upd H fl (.lst vs) fl=some (.lst vs):=aB;generalize upd H fl (.lst vs)=H1 at s1 hfl ⊢;refine ⟨a,_,_,rfl,SqT.of (s1 _ _ h1),rfl,rfl,_,rfl,iteF ⟨zLn0,λe0 ne0=>?_⟩⟩;have s2:=Same.upd (o:=.tup []) ne0;have he0:upd H1 e0 (.tup []) e0=some (.tup []):=aB;generalize upd H1 e0 (.tup [])=H2 at s2 he0 ⊢;have s02:=s1.trans s2;refine ⟨_,rfl,a,_,_,rfl,SqT.of (s02 _ _ h1),rfl,fl,_,(i:Int),.ref a1,rfl,rfl,SqL.of (s2 _ _ hfl),bA hv,a1,_,1,.ref nn,rfl,rfl,SqT.of (s02 _ _ ha1),rfl,zLn0,λe1 ne1=>⟨zLn2,λll nll=>?_⟩⟩;have s3:=Same.upd (o:=.tup []) ne1;have s4:=Same.upd (o:=.lst [.ref nn,.ref e1]) nll;have s24:=s3.trans s4;have s04:=s02.trans s24;refine ⟨a,_,_,rfl,SqT.of (s04 _ _ h1),rfl,rfl,.inr ⟨_,rfl,ll,_,0,.ref nn,rfl,rfl,SqL.of aB,rfl,zLn2,λzt nzt=>?_⟩⟩;have s5:=Same.upd (o:=.tup [.ref e0,.ref nn]) nzt;have hfl5:=(s24.trans s5) _ _ (s2 _ _ hfl);have he05:=(s24.trans s5) _ _ he0;have s05:=s04.trans s5;have hn5:=s05 _ _ hnn;have hzt:upd _ zt (.tup [.ref e0,.ref nn]) zt=some (.tup [.ref e0,.ref nn]):=aB (H:=upd (upd H2 e1 (.tup [])) ll (.lst [.ref nn,.ref e1]));generalize upd (upd (upd H2 e1 (.tup [])) ll (.lst [.ref nn,.ref e1])) zt (.tup [.ref e0,.ref nn])=H5 at s05 hfl5 he05 hn5 hzt ⊢;refine ⟨_,rfl,a,_,_,rfl,SqT.of (s05 _ _ h1),rfl,fl,vs,(i:Int),i,rfl,rfl,hfl5,jS il,?_⟩;refine ⟨_,rfl,zLn2,λzz nzz=>?_⟩;have fl0:H fl=none:=nfl;have sF:Same H (upd (upd H5 fl (.lst (vs.set i (.ref zt)))) zz (.tup [.non,.ref fl])):=λc o hc=>(Same.upd nzz) _ _ (by rw [aI (λe=>by rw [e,fl0] at hc;cases hc)];exact s05 _ _ hc);have tkF:Tk H5 (upd (upd H5 fl (.lst (vs.set i (.ref zt)))) zz (.tup [.non,.ref fl])):=λc ts hc=>(Same.upd nzz) _ _ (by rw [aI (λe=>by rw [e,hfl5] at hc;cases hc)];exact hc);exact k zz fl _ sF fl0 aB (o.st.put hl sF ((Same.upd nzz) _ _ aB) ⟨zt,e0,nn,[],[],rfl,tkF _ _ hzt,tkF _ _ he05,.nil,kM,tkF _ _ hn5⟩)
  |rinse i=>
   have h1:H a=some (.tup [.str "rinse",.int ((i:Nat):Int)]):=rv;obtain ⟨d,hd,kB,kG⟩:=res;have sq:=SqT.of (K:=K) h1;obtain ⟨vs,v,hl,vl,hv,a1,mm,nn,ms,ys,rfl,ha1,hmm,pr,mx,hnn⟩:=o.st.get hd;have il:=(Ae.mp hv).1;refine ⟨a,_,_,rfl,sq,rfl,rfl,_,rfl,iteF ⟨a,_,_,rfl,sq,rfl,rfl,_,rfl,iteF ⟨a,_,_,rfl,sq,rfl,rfl,_,rfl,iteF ⟨_,rfl,l,_,rfl,.inl (SqL.of hl),λfl nfl=>?_⟩⟩⟩⟩;have s1:=Same.upd (o:=.lst vs) nfl;have hfl:upd H fl (.lst vs) fl=some (.lst vs):=aB;generalize upd H fl (.lst vs)=H1 at s1 hfl ⊢;have pl:=pr.length;refine ⟨a,_,_,rfl,SqT.of (s1 _ _ h1),rfl,rfl,_,rfl,iteT ⟨_,rfl,a,_,_,rfl,SqT.of (s1 _ _ h1),rfl,fl,_,(i:Int),.ref a1,rfl,rfl,SqL.of hfl,bA hv,a1,_,0,.ref mm,rfl,rfl,SqT.of (s1 _ _ ha1),rfl,zLn0,λx0 nx0=>⟨mm,x0,_,rfl,rfl,SqT.of ((Same.upd nx0) _ _ (s1 _ _ hmm)),SqT.of aB,_,rfl,ite2 (λc=>?_) (λc=>?_)⟩⟩⟩
   ·have ne:¬ (∀ y,d.1 y=0):=λz=>by
     have:=(fQ mx).mpr z;subst this;have:ms=[]:=Bq.mp pl;subst this;exact absurd c (by decide)
    have w0:=Same.upd (o:=.tup []) nx0;refine ⟨a,_,_,rfl,SqT.of ((s1.trans w0) _ _ h1),rfl,zLn3,λt3 nt3=>⟨zLn2,λzz nzz=>?_⟩⟩;have w1:=Same.upd (o:=.tup [.str "wet",.int ((i:Nat):Int),.non]) nt3;have w2:=Same.upd (o:=.tup [.ref t3,.non]) nzz;exact kB ne zz t3 _ (((s1.trans w0).trans w1).trans w2) aB (w2 _ _ aB)
   have em:ms=[]:=by
    cases ms with
    |nil=>rfl
    |cons u r=>exact absurd rfl c
   have zr:∀ y,d.1 y=0:=(fQ mx).mp (Bq.mp (by rw [<- pl,em];rfl));have k:=kG zr;have w0:=Same.upd (o:=.tup []) nx0;replace s1:=s1.trans w0;replace hfl:=w0 _ _ hfl;generalize upd H1 x0 (.tup [])=H1' at s1 hfl ⊢;refine ⟨zLn0,λe0 ne0=>?_⟩;have s2:=Same.upd (o:=.tup []) ne0;have he0:upd H1' e0 (.tup []) e0=some (.tup []):=aB;generalize upd H1' e0 (.tup [])=H2 at s2 he0 ⊢;have s02:=s1.trans s2;refine ⟨_,rfl,a,_,_,rfl,SqT.of (s02 _ _ h1),rfl,fl,_,(i:Int),.ref a1,rfl,rfl,SqL.of (s2 _ _ hfl),bA hv,a1,_,1,.ref nn,rfl,rfl,SqT.of (s02 _ _ ha1),rfl,zLn0,λe1 ne1=>⟨zLn2,λll nll=>?_⟩⟩;have s3:=Same.upd (o:=.tup []) ne1;have s4:=Same.upd (o:=.lst [.ref nn,.ref e1]) nll;have s24:=s3.trans s4;have s04:=s02.trans s24;refine ⟨a,_,_,rfl,SqT.of (s04 _ _ h1),rfl,rfl,.inr ⟨_,rfl,ll,_,1,.ref e1,rfl,rfl,SqL.of aB,rfl,zLn2,λzt nzt=>?_⟩⟩;have s5:=Same.upd (o:=.tup [.ref e0,.ref e1]) nzt;have hfl5:=(s24.trans s5) _ _ (s2 _ _ hfl);have he05:=(s24.trans s5) _ _ he0;have s05:=s04.trans s5;have he1:upd (upd H2 e1 (.tup [])) ll (.lst [.ref nn,.ref e1]) e1=some (.tup []):=s4 _ _ aB;have hn5:=s5 _ _ he1;have hzt:upd _ zt (.tup [.ref e0,.ref e1]) zt=some (.tup [.ref e0,.ref e1]):=aB (H:=upd (upd H2 e1 (.tup [])) ll (.lst [.ref nn,.ref e1]));generalize upd (upd (upd H2 e1 (.tup [])) ll (.lst [.ref nn,.ref e1])) zt (.tup [.ref e0,.ref e1])=H5 at s05 hfl5 he05 hn5 hzt ⊢;refine ⟨_,rfl,a,_,_,rfl,SqT.of (s05 _ _ h1),rfl,fl,vs,(i:Int),i,rfl,rfl,hfl5,jS il,?_⟩;refine ⟨_,rfl,zLn2,λzz nzz=>?_⟩;have fl0:H fl=none:=nfl;have sF:Same H (upd (upd H5 fl (.lst (vs.set i (.ref zt)))) zz (.tup [.non,.ref fl])):=λc o hc=>(Same.upd nzz) _ _ (by rw [aI (λe=>by rw [e,fl0] at hc;cases hc)];exact s05 _ _ hc);have tkF:Tk H5 (upd (upd H5 fl (.lst (vs.set i (.ref zt)))) zz (.tup [.non,.ref fl])):=λc ts hc=>(Same.upd nzz) _ _ (by rw [aI (λe=>by rw [e,hfl5] at hc;cases hc)];exact hc);exact k zz fl _ sF fl0 aB (o.st.put hl sF ((Same.upd nzz) _ _ aB) ⟨zt,e0,e1,[],[],rfl,tkF _ _ hzt,tkF _ _ he05,.nil,kM,tkF _ _ hn5⟩)
end
inductive spOFill (C c1 c3 c4:Addr)(vs:List V)(H:Hp)(Q:VK)(E:XK):Prop
 |mk (p dx b r q l qa rs us ps rbs ws M S β i d rb x t b' n:_) (e0:vs=[.ref p,.ref b,.ref l,.int (n:Nat)]) (e1:n<1000) (e2:H p=some (.ins C dx (fs3 "phial" "ware" "level" (.int (i:Nat)) (.str x) (.ref qa)))) (e3:H qa=some (.tup [.int t,.int b'])) (e4:RwA t b') (e5:x∈ws) (e6:OnIn H b r q l rs us ps rbs ws M S β) (e7:S[i]?=some d) (e8:rbs[i]?=some rb) (e9:(¬ tot ws d.1*b'<t*M->BadE c1 [("phial",.int (i:Nat)),("place",.int (n:Nat))] H E)) (e10:(tot ws d.1*b'<t*M->IntoR c3 c4 us ps ws (M*b') (scl b' S) i (λy=>d.1 y*b',d.2) rb (oneW x (t*M-tot ws d.1*b')) [x] n H Q E)):spOFill C c1 c3 c4 vs H Q E
inductive spOPour (C c0 c3 c4:Addr)(vs:List V)(H:Hp)(Q:VK)(E:XK):Prop
 |mk (p dx b r q l qa rs us ps rbs ws M S β i j t b' di dj rbj n:_) (e0:vs=[.ref p,.ref b,.ref l,.int (n:Nat)]) (e1:n<1000) (e2:H p=some (.ins C dx (fs3 "one" "other" "part" (.int (i:Nat)) (.int (j:Nat)) (.ref qa)))) (e3:H qa=some (.tup [.int t,.int b'])) (e4:RwA t b') (e5:1<=t) (e6:t<=b') (e7:i≠j) (e8:OnIn H b r q l rs us ps rbs ws M S β) (e9:S[i]?=some di) (e10:S[j]?=some dj) (e11:rbs[j]?=some rbj) (e12:((∀ y,di.1 y=0)->BadE c0 [("phial",.int (i:Nat)),("place",.int (n:Nat))] H E)) (e13:(¬ (∀ y,di.1 y=0)->IntoR c3 c4 us ps ws (M*b') ((scl b' S).set i (λy=>di.1 y*b'-di.1 y*t,di.2)) j (λy=>dj.1 y*b',dj.2) rbj (λy=>di.1 y*t) di.2 n H Q E)):spOPour C c0 c3 c4 vs H Q E
theorem pK {H:Hp}(g:Str×Int×Int->Str×Int×Int):∀ {ys:List (Str×Int×Int)} {vs:List V},vs.length=ys.length->(∀ (i:Nat) y v,ys[i]?=some y->vs[i]?=some v->Pr H v (g y))->PrL H vs (ys.map g)
 |[],[],_,_=>.nil
 |y::ys,v::vs,hl,h=>.cons (h 0 y v rfl rfl) (pK g (by simpa using hl) λi y v hy hv=>h (i+1) y v (by simpa using hy) (by simpa using hv))
def mt (t b:Int):Int:=(1*b-t*1)/G (1*b-t*1) (1*b)
def mb (t b:Int):Int:=1*b/G (1*b-t*1) (1*b)
def sf (t b:Int)(y:Str×Int×Int):Str×Int×Int:=(y.1,y.2.1*mt t b/G (y.2.1*mt t b) (y.2.2*mb t b),y.2.2*mb t b/G (y.2.1*mt t b) (y.2.2*mb t b))
def mtb {t b:Int}(a:Amt t b)(tb:t<=b):t*1<=1*b/\Amt (mt t b) (mb t b)/\mt t b*b=(b-t)*mb t b:=by
 have b1:=a.b1;have f1:Fr 1 1 1 1:=⟨⟨by decide,by decide,by decide +kernel⟩,rfl⟩;have f2:Fr b t b t:=⟨a,by rw [BJ]⟩;obtain ⟨h1,h2⟩:=fV (M1:=1) (M2:=b) (by decide) (by omega) f1 f2 (by omega);refine ⟨h1,h2.am,?_⟩;have:=h2.e;unfold mt mb;simp only [Int.one_mul,Int.mul_one] at this ⊢;exact this
def aIr {M N t b:Int}{y:Str×Int×Int}(M0:0<M)(h:Fr M y.2.1 y.2.2 N)(a:Amt t b)(tb:t<=b):Fr (M*b) (sf t b y).2.1 (sf t b y).2.2 (N*b-N*t):=by
 obtain ⟨_,am,e⟩:=mtb a tb;have m1:=am.b1;refine iN (rZ M0 h am) (Cr M0 (by omega)) ?_;generalize mt t b=x at *
 generalize mb t b=z at *
 calc N*x*(M*b)=N*M*(x*b):=by grind
  _=N*M*((b-t)*z):=by rw [e]
  _=(N*b-N*t)*(M*z):=by grind
section
variable {P:Av}{w:World}{K:Ab}{mg:Str->Option Value}{base:Heap}{cP c0 c1 c2 c3 c4 f0 f1 f2 f3 f4 C:Addr}
abbrev Nof:List Str:=["self","bench","phials","place","lies","comes"]
def oV:FnScope Nof Non (aG vO):=fnScOk (by decide +kernel)
def aBb {f:Addr}{fd g1:Az}(F:Fun K "onto_at" "Fill.onto_at" vO f fd)(D:DCl K C ["phial","ware","level"])(R:ErB K mg cP c0 c1 c2 c3 c4 f0 f1 f2 f3 f4)(F1:FnOk P w K mg base CX0 1 f1 g1 ["self","place","phial"] (spI2 c1))(b1:Binds K g1 ["self","place","phial"] [])
  (cW:Cal P w K mg base CX0 6 "whole" ["one"] (lC K)) (cL:Cal P w K mg base CX0 6 "less" ["one","other"] (spLess K)) (cMi:Cal P w K mg base CX0 6 "minus" ["one","other"] (spMinus K)) (cM:Cal P w K mg base (CXg P w) 6 "with_more" ["bench","phials","phial","comes","names","place"] (spMore K c3 c4)):FnOk P w K mg base (CXg P w) 7 f fd Non (spOFill C c1 c3 c4):=by
 refine F.okF oV (λvs H Q E h=>?_) (λcdv A outer s H vs Q E hr h=>?_)
 ·obtain ⟨_,_,_,_,_,_,_,_,_,_,_,_,_,_,_,_,_,_,_,_,_,_,rfl,_⟩:=h
  rfl
 ·obtain ⟨p,dx,b,r,q,l,qa,rs,us,ps,rbs,ws,M,S,β,i,d,rb,x,t,b',n,rfl,hn,hp,hqa,ra,xw,o,hd,hrb,kB,kI⟩:=h
  refine ⟨_,(aD (aL (i:=4) oV.nd rfl (Or.inl rfl) (aJ cW hr rfl aR (aA (bC cV (bC bB (pv 2) (cZ (pv 0) rfl) (λ_ _=>rfl)) aH (λ_ _=>rfl)) aC)))
   (aD (bF (eB (dA (aJ cL hr rfl aR (aA (pv 4) (aA (cZ (pv 0) rfl) aC)))))
    (aE (fK (k:=1) rfl xe_f rfl (hr.mono (by decide)) rfl R.m1 (R.r1.e "place" (by simp)).i F1 b1 (aA (pv 3) (aA (cZ (pv 0) rfl) aC))))
    aQ)
   (aD (aL (i:=5) oV.nd rfl (Or.inl rfl) (aW (aA (aW (aA (cZ (pv 0) rfl) (aA (aJ cMi hr rfl aR (aA (cZ (pv 0) rfl) (aA (pv 4) aC))) aC))) aC)))
   (aE (aK (aJ cM hr rfl mZ (aA (pv 1) (aA (pv 2) (aA (cZ (pv 0) rfl) (aA (pv 5) (aA (aW (aA (cZ (pv 0) rfl) aC)) (aA (pv 3) aC)))))))))))),?_⟩
  have E1:=aFk (f1:="phial") (f2:="ware") (f3:="level") (u1:=.int (i:Nat)) (u2:=.str x) (u3:=.ref qa) (by decide +kernel) (by decide +kernel);have E2:=aFj (f1:="phial") (f2:="ware") (f3:="level") (u1:=.int (i:Nat)) (u2:=.str x) (u3:=.ref qa) (by decide +kernel);have E3:=aFi (f1:="phial") (f2:="ware") (f3:="level") (u1:=.int (i:Nat)) (u2:=.str x) (u3:=.ref qa);obtain ⟨vs,v,hl,vl,hv,a,mm,nn,ms,ys,rfl,ha,hm,pr,mx,hnn⟩:=o.st.get hd;have M0:=o.so.m0;have b24:=o.b24;have okd:=o.so.ok d (Al hd);have oy:=mx.over;obtain ⟨n0,sm⟩:=o.so.small hd hrb (o.bs.rm.at hrb);have tS:sumN M ys=tot ws d.1:=gW o.bs.ww.nd mx okd.inw;have b0:0<b':=by have:=ra.am.b1;omega
  have i16:i<16:=by
   have h1:=(Ae.mp hd).1;have h2:=o.bs.bn.l16;have h3:=o.so.sl;have h4:=o.bs.rm.1;omega
  refine ⟨_,rfl,_,rfl,p,C,dx,_,_,rfl,hp,D.cl,D.na _ (by simp),E1,l,_,(i:Int),.ref a,rfl,rfl,SqL.of hl,bA hv,a,_,0,.ref mm,rfl,rfl,SqT.of ha,rfl,mm,ms,ys,M,rfl,SqT.of hm,pr,oy,M0,o.so.bm.mono (by omega),λj=>?_,λli tl bl H1 s1 hli frl=>?_⟩
  ·exact (sm.le (bW M0 (oy.take j)) (by rw [<- tS];exact fH M0 j oy)).mono (by omega)
  rw [tS] at frl;have fsm:=dE M0 frl;have bl1:=frl.am.b1;have tw:Tw K H1 li qa tl bl t b':=⟨hli,SqT.of (s1 _ _ hqa),frl.am,ra.am,(sm.le frl.am.t0 fsm.1).mono (by omega),(o.so.bm.le (by omega) fsm.2).mono (by omega),ra.bt.mono (by decide),ra.bb.mono (by decide)⟩;refine ⟨_,rfl,_,rfl,p,C,dx,_,_,rfl,s1 _ _ hp,D.cl,D.na _ (by simp),E3,li,qa,tl,bl,t,b',rfl,tw,_,rfl,?_⟩;rw [sA M0 frl];refine ite2 (λc=>?_) (λc=>?_)
  ·have c':¬ tot ws d.1*b'<t*M:=λz=>by rw [decide_eq_true z] at c;cases c
   exact ⟨_,rfl,_,rfl,p,C,dx,_,_,rfl,s1 _ _ hp,D.cl,D.na _ (by simp),E1,wA hn (by omega) ((kB c').mono s1)⟩
  ·have c':tot ws d.1*b'<t*M:=Be λz=>c (by rw [decide_eq_false z];rfl)
   have f1:Fr b' t b' t:=⟨ra.am,by rw [BJ]⟩;obtain ⟨le,fo⟩:=fV (M1:=b') (M2:=M) b0 M0 f1 frl (by omega);rw [BJ b' M] at fo;refine ⟨_,rfl,p,C,dx,_,_,rfl,s1 _ _ hp,D.cl,D.na _ (by simp),E2,_,rfl,p,C,dx,_,_,rfl,s1 _ _ hp,D.cl,D.na _ (by simp),E3,_,rfl,qa,li,t,b',tl,bl,rfl,tw.flip,le,λpo H2 s2 hpo=>⟨zLn2,λpr npr=>⟨zLn1,λcm ncm=>?_⟩⟩⟩;have s3:=Same.upd (o:=.tup [.str x,.ref po]) npr;have s4:=Same.upd (o:=.tup [.ref pr]) ncm;have s04:=((s1.trans s2).trans s3).trans s4;refine ⟨_,rfl,_,rfl,_,rfl,p,C,dx,_,_,rfl,s04 _ _ hp,D.cl,D.na _ (by simp),E1,_,rfl,_,rfl,p,C,dx,_,_,rfl,s04 _ _ hp,D.cl,D.na _ (by simp),E2,zLn1,λnm nnm=>⟨_,rfl,?_⟩⟩;have s5:=Same.upd (o:=.tup [.str x]) nnm;have s05:=s04.trans s5;have Mb:=Cr M0 b0;have kI':=(kI c').mono s05;have bN:Bt 2600 (t*M-tot ws d.1*b'):=((ra.bt.mul o.so.bm).le (by omega) (by have:=BB n0 (Int.le_of_lt b0);omega)).mono (by omega);have e:=nw1 (x:=x) Mb fo;rw [<- e] at kI';refine ⟨b,r,q,l,cm,nm,rs,us,ps,rbs,ws,M*b',scl b' S,i,_,rb,[.ref pr],[(x,_,_)],[x],n,rfl,hn,aHo (o.keep s05) hd hrb xw fo.dvd fo.am b0 ?_ ra.bb (s5 _ _ aB) ((s4.trans s5) _ _ aB) (((s3.trans s4).trans s5) _ _ hpo) aB,kI'.1,kI'.2⟩;rw [e];unfold oneW;rw [if_pos rfl];exact bN
abbrev Nop:List Str:=["self","bench","phials","place","holds","names","goes","stays","behind"]
def hJ:FnScope Nop Non (aG jB):=fnScOk (by decide +kernel)
def ndp:(["ware","many","self"]:List Str).Nodup:=by decide +kernel
def aBa {f aO:Addr}{fd g0:Az}(F:Fun K "onto_at" "Pour.onto_at" jB f fd)(T:Txt mg)(D:DCl K C ["one","other","part"])(mO:mg "ONE" = some (.ref aO))(sO:∀ H:Hp,SqT K H aO [.int 1,.int 1])(R:ErB K mg cP c0 c1 c2 c3 c4 f0 f1 f2 f3 f4)(F0:FnOk P w K mg base CX0 1 f0 g0 ["self","place","phial"] (spI2 c0))(b0':Binds K g0 ["self","place","phial"] [])
  (cT:Cal P w K mg base CX0 6 "times" ["one","other"] (spTimes K)) (cMi:Cal P w K mg base CX0 6 "minus" ["one","other"] (spMinus K)) (cX:Cal P w K mg base CX0 6 "mixture" ["pairs"] (iR K)) (cH:Cal P w K mg base CX0 6 "with_phial" ["phials","phial","holds","names"] spWith) (cM:Cal P w K mg base (CXg P w) 6 "with_more" ["bench","phials","phial","comes","names","place"] (spMore K c3 c4)):FnOk P w K mg base (CXg P w) 7 f fd Non (spOPour C c0 c3 c4):=by
 refine F.okF hJ (λvs H Q E h=>?_) (λcdv A outer s H vs Q E hr h=>?_)
 ·obtain ⟨_,_,_,_,_,_,_,_,_,_,_,_,_,_,_,_,_,_,_,_,_,_,_,rfl,_⟩:=h
  rfl
 ·obtain ⟨p,dx,b,r,q,l,qa,rs,us,ps,rbs,ws,M,S,β,i,j,t,b',di,dj,rbj,n,rfl,hn,hp,hqa,ra,t1,tb,ij,o,hdi,hdj,hrj,kD,kI⟩:=h
  refine ⟨_,(aD (aL (i:=4) hJ.nd rfl (Or.inl rfl) (bC cV (bC bB (pv 2) (cZ (pv 0) rfl) (λ_ _=>rfl)) aH (λ_ _=>rfl)))
   (aD (aL (i:=5) hJ.nd rfl (Or.inl rfl) (bC cV (bC bB (pv 2) (cZ (pv 0) rfl) (λ_ _=>rfl)) aH (λ_ _=>rfl)))
   (aD (bF (aM (wY hr.units) (pv 4) (aW aC) (aV _))
    (aE (fK (k:=1) rfl xe_f rfl (hr.mono (by decide)) rfl R.m0 (R.r0.e "place" (by simp)).i F0 b0' (aA (pv 3) (aA (cZ (pv 0) rfl) aC))))
    aQ)
   (aD (lN (iy:=6) (N':=["ware","many","self"]) (g:=gTup K 2 (qA (gName 0) (qA (gName 1) gNil))) (λσ=>[none,none,some 0].map λt=>t.bind λj=>(σ[j]?).join) rfl rfl (by decide +kernel) (by decide +kernel)
     (iG (sc:=aG jB) rfl (by decide +kernel)) (λ_ _ _=>eA (sc:=aG jB) (N:=Nop) [none,none,some 0] rfl rfl rfl rfl (by decide +kernel))
     (fY (pv 4)) (λ_ _ _ _ _ _=>fO rfl (bE (aS (i:=0) ndp rfl (Or.inl rfl) (Or.inr rfl)) (bE (aS (i:=1) ndp rfl (Or.inl rfl) (Or.inr rfl)) eF)))
     (λ_ _ _ _ _ _=>dM)
     (λ_ _ _ _ _ _=>aW (aA (pv 0) (aA (aJ cT hr rfl aR (aA (pv 1) (aA (wJ (K:=K) rfl (pv 2) rfl) aC))) aC))) hJ.nd rfl (Or.inl rfl) (Or.inr rfl) rfl)
   (aD (lN (iy:=7) (N':=["ware","many","self"]) (g:=gTup K 2 (qA (gName 0) (qA (gName 1) gNil))) (λσ=>[none,none,some 0].map λt=>t.bind λj=>(σ[j]?).join) rfl rfl (by decide +kernel) (by decide +kernel)
     (iG (sc:=aG jB) rfl (by decide +kernel)) (λ_ _ _=>eA (sc:=aG jB) (N:=Nop) [none,none,some 0] rfl rfl rfl rfl (by decide +kernel))
     (fY (pv 4)) (λ_ _ _ _ _ _=>fO rfl (bE (aS (i:=0) ndp rfl (Or.inl rfl) (Or.inr rfl)) (bE (aS (i:=1) ndp rfl (Or.inl rfl) (Or.inr rfl)) eF)))
     (λ_ _ _ _ _ _=>dM)
     (λ_ _ _ _ _ _=>aW (aA (pv 0) (aA (aJ cT hr rfl aR (aA (pv 1) (aA (aJ cMi hr rfl aR (aA (fB (v:=.ref aO) rfl mO rfl) (aA (wJ (K:=K) rfl (pv 2) rfl) aC))) aC))) aC))) hJ.nd rfl (Or.inl rfl) (Or.inr rfl) rfl)
   (aD (aL (i:=8) hJ.nd rfl (Or.inl rfl) (aJ cM hr rfl mZ (aA (pv 1) (aA (pv 2) (aA (cZ (pv 0) rfl) (aA (aX bH rfl T.tup' cY (aA (pv 6) aC)) (aA (pv 5) (aA (pv 3) aC))))))))
   (aE (aK (aJ cH hr rfl aR (aA (pv 8) (aA (cZ (pv 0) rfl) (aA (aJ cX hr rfl aR (aA (pv 7) aC)) (aA (pv 5) aC))))))))))))),?_⟩
  have E1:=aFk (f1:="one") (f2:="other") (f3:="part") (u1:=.int (i:Nat)) (u2:=.int (j:Nat)) (u3:=.ref qa) (by decide +kernel) (by decide +kernel);have E2:=aFj (f1:="one") (f2:="other") (f3:="part") (u1:=.int (i:Nat)) (u2:=.int (j:Nat)) (u3:=.ref qa) (by decide +kernel);have E3:=aFi (f1:="one") (f2:="other") (f3:="part") (u1:=.int (i:Nat)) (u2:=.int (j:Nat)) (u3:=.ref qa);obtain ⟨vs,v,hl,vl,hv,a,mm,nn,ms,ys,rfl,ha,hm,pr,mx,hnn⟩:=o.st.get hdi;have M0:=o.so.m0;have b24:=o.b24;have am:=ra.am;have okd:=o.so.ok di (Al hdi);have b0:0<b':=by have:=am.b1;omega
  have Mb:=Cr M0 b0;have pl:=pr.length;have fy:∀ y∈ys,Fr M y.2.1 y.2.2 (di.1 y.1):=mx.fr;have sl16:S.length<=16:=by rw [o.so.sl,<- o.bs.rm.1];exact o.bs.bn.l16
  have i16:i<16:=by
   have h1:=(Ae.mp hdi).1;omega
  have j16:j<S.length:=(Ae.mp hdj).1;obtain ⟨vi,hvi⟩:∃ vi,rs[i]?=some vi:=⟨_,Ac (by have:=(Ae.mp hdi).1;have:=o.so.sl;have:=o.bs.rm.1;omega)⟩;obtain ⟨rbi,hri,_,_,_,rmi⟩:=o.bs.rm.get hvi;obtain ⟨tn,tbt⟩:=o.so.small hdi hri rmi;refine ⟨_,rfl,_,rfl,p,C,dx,_,_,rfl,hp,D.cl,D.na _ (by simp),E1,l,_,(i:Int),.ref a,rfl,rfl,SqL.of hl,bA hv,a,_,0,.ref mm,rfl,rfl,SqT.of ha,rfl,?_⟩;refine ⟨_,rfl,_,rfl,p,C,dx,_,_,rfl,hp,D.cl,D.na _ (by simp),E1,l,_,(i:Int),.ref a,rfl,rfl,SqL.of hl,bA hv,a,_,1,.ref nn,rfl,rfl,SqT.of ha,rfl,?_⟩;refine ⟨_,rfl,zLn0,λz0 nz0=>⟨mm,z0,_,rfl,rfl,SqT.of ((Same.upd nz0) _ _ hm),SqT.of aB,_,rfl,ite2 (λc=>?_) (λc=>?_)⟩⟩
  ·have em:ms=[]:=by
    cases ms with
    |nil=>rfl
    |cons u r=>exact absurd c (by show ¬ (false=true);decide)
   have z:∀ y,di.1 y=0:=(fQ mx).mp (Bq.mp (by rw [<- pl,em];rfl));have s1:=Same.upd (o:=.tup []) nz0;exact ⟨_,rfl,_,rfl,p,C,dx,_,_,rfl,s1 _ _ hp,D.cl,D.na _ (by simp),E1,wA hn (by omega) ((kD z).mono s1)⟩
  have ne:¬ (∀ y,di.1 y=0):=λz=>by
   have:=(fQ mx).mpr z;subst this;have:ms=[]:=Bq.mp pl;subst this;exact absurd rfl c
  have kI':=kI ne;have s1:=Same.upd (o:=.tup []) nz0;generalize upd H z0 (.tup [])=H1 at s1 ⊢;have yl:ys.length<=6:=AU (xY mx okd.inw) o.bs.ww.l;have ysm:∀ y∈ys,Bt 2600 (di.1 y.1)/\Bt 4000 y.2.1/\Bt 4000 y.2.2:=λy ym=>by
   have yS:di.1 y.1<=tot ws di.1:=by
    have e1:=(gW o.bs.ww.nd mx okd.inw);have e2:=(qJ M0 mx.over ys.length y.1).2;rw [BF,mx.nw] at e2;omega
   have ynn:=okd.nn y.1;have by1:Bt 2600 (di.1 y.1):=(tbt.le ynn yS).mono (by omega);have fyy:=fy y ym;have fsm:=dE M0 fyy;exact ⟨by1,(by1.le fyy.am.t0 fsm.1).mono (by decide),(o.so.bm.le (by have:=fyy.am.b1;omega) fsm.2).mono (by omega)⟩
  refine ⟨_,rfl,mm,rfl,⟨_,SqT.of (s1 _ _ hm)⟩,λgl ngl=>?_⟩;refine eD (Ys.tup (SqT.of (K:=K) (s1 _ _ hm))) (λk _ y H=>∃ x,ys[k]?=some x/\Pr H y (zf t b' x)) (λ_ _ _ _ _ h tk=>by obtain ⟨x,e,h⟩:=h;exact ⟨x,e,h.keep tk⟩) ngl (by omega) (λk u H' R hu sm' hR=>?_) (λgvs H2 s2 hgl gvl hgv=>?_)
  ·obtain ⟨z,hz,pz,qz,rfl,h1,h2⟩:=pr.get hu
   have s':=s1.trans sm';have zm:=Al hz;obtain ⟨_,z1,z2⟩:=ysm z zm;refine ⟨pz,_,rfl,SqT.of (s' _ _ h1),rfl,_,_,rfl,_,_,rfl,rfl,((Keep.refl _).set rfl).set rfl,?_⟩;refine ⟨_,rfl,_,rfl,_,rfl,p,C,dx,_,_,rfl,s' _ _ hp,D.cl,D.na _ (by simp),E3,qz,qa,z.2.1,z.2.2,t,b',rfl,⟨SqT.of (s' _ _ h2),SqT.of (s' _ _ hqa),(fy z zm).am,am,z1,z2,ra.bt.mono (by decide),ra.bb.mono (by decide)⟩,λr' H5 s5 h5=>⟨zLn2,λl' hl'=>?_⟩⟩;exact hR _ _ (s5.trans (Same.upd hl')) ⟨z,hz,l',r',rfl,aB,Same.upd hl' _ _ h5⟩
  have prg:PrL H2 gvs (ys.map (zf t b')):=pK _ (by omega) λk y v hy hv'=>by
   obtain ⟨u',hu'⟩:∃ u',ms[k]?=some u':=⟨_,Ac (by have:=(Ae.mp hy).1;omega)⟩;obtain ⟨x,e,h⟩:=hgv k u' v hu' hv';rw [hy] at e;cases e;exact h
  have s02:=s1.trans s2;obtain ⟨mle,mam,me⟩:=mtb am tb;have mm1:=mam.b1;have mbS:Bt 4000 (mb t b'):=by
   have g0:=qK (a:=1*b'-t*1) (b:=1*b') (by omega);exact (ra.bb.le (by omega) (by unfold mb;rw [Int.one_mul];exact Dj _ (by omega))).mono (by decide)
  have mtS:Bt 4000 (mt t b'):=by
   refine (ra.bb.le mam.t0 ?_).mono (by decide);unfold mt;exact Int.le_trans (Dj _ (by omega)) (by omega)
  refine ⟨_,rfl,mm,rfl,⟨_,SqT.of (s02 _ _ hm)⟩,λsl nsl=>?_⟩;refine eD (Ys.tup (SqT.of (K:=K) (s02 _ _ hm))) (λk _ y H=>∃ x,ys[k]?=some x/\Pr H y (sf t b' x)) (λ_ _ _ _ _ h tk=>by obtain ⟨x,e,h⟩:=h;exact ⟨x,e,h.keep tk⟩) nsl (by omega) (λk u H' R hu sm' hR=>?_) (λsvs H3 s3 hsl svl hsv=>?_)
  ·obtain ⟨z,hz,pz,qz,rfl,h1,h2⟩:=pr.get hu
   have s':=s02.trans sm';have zm:=Al hz;obtain ⟨_,z1,z2⟩:=ysm z zm;refine ⟨pz,_,rfl,SqT.of (s' _ _ h1),rfl,_,_,rfl,_,_,rfl,rfl,((Keep.refl _).set rfl).set rfl,?_⟩;refine ⟨_,rfl,_,rfl,_,rfl,p,C,dx,_,_,rfl,s' _ _ hp,D.cl,D.na _ (by simp),E3,aO,qa,1,1,t,b',rfl,⟨sO _,SqT.of (s' _ _ hqa),⟨by decide,by decide,by decide +kernel⟩,am,dZ 4000 (c:=2) (by decide) (by decide),dZ 4000 (c:=2) (by decide) (by decide),ra.bt.mono (by decide),ra.bb.mono (by decide)⟩,mle,λrm H4 s4 hrm=>?_⟩;refine ⟨qz,rm,z.2.1,z.2.2,mt t b',mb t b',rfl,⟨SqT.of ((s'.trans s4) _ _ h2),SqT.of hrm,(fy z zm).am,mam,z1,z2,mtS,mbS⟩,λr' H5 s5 h5=>⟨zLn2,λl' hl'=>?_⟩⟩;exact hR _ _ ((s4.trans s5).trans (Same.upd hl')) ⟨z,hz,l',r',rfl,aB,Same.upd hl' _ _ h5⟩
  have prs:PrL H3 svs (ys.map (sf t b')):=pK _ (by omega) λk y v hy hv'=>by
   obtain ⟨u',hu'⟩:∃ u',ms[k]?=some u':=⟨_,Ac (by have:=(Ae.mp hy).1;omega)⟩;obtain ⟨x,e,h⟩:=hsv k u' v hu' hv';rw [hy] at e;cases e;exact h
  have s03:=s02.trans s3;refine ⟨_,rfl,_,rfl,_,rfl,p,C,dx,_,_,rfl,s03 _ _ hp,D.cl,D.na _ (by simp),E2,_,rfl,gl,_,rfl,.inl ⟨SqL.of (s3 _ _ hgl),λgt ngt=>?_⟩⟩;have s4:=Same.upd (o:=.tup gvs) ngt;have hgt:upd H3 gt (.tup gvs) gt=some (.tup gvs):=aB;generalize upd H3 gt (.tup gvs)=H4 at s4 hgt ⊢;have s04:=s03.trans s4;have o4:=o.keep s04;have zm:(ys.map (zf t b')).map (·.1)=ys.map (·.1):=by rw [Ca];rfl
  have smm:(ys.map (sf t b')).map (·.1)=ys.map (·.1):=by rw [Ca];rfl
  have fz:∀ z∈ys.map (zf t b'),Fr (M*b') z.2.1 z.2.2 (di.1 z.1*t):=λz hz=>by
   obtain ⟨y,hy,rfl⟩:=AH.mp hz;exact aAc M0 (fy y hy) am
  have fs:∀ z∈ys.map (sf t b'),Fr (M*b') z.2.1 z.2.2 (di.1 z.1*b'-di.1 z.1*t):=λz hz=>by
   obtain ⟨y,hy,rfl⟩:=AH.mp hz;exact aIr M0 (fy y hy) am tb
  have nwz:NW (M*b') (ys.map (zf t b'))=λy=>di.1 y*t:=funext λy=>by
   rw [gM Mb (f:=λy=>di.1 y*t) (by rw [zm];exact mx.nd) fz,zm]
   by_cases c:y∈ys.map (·.1)
   ·rw [if_pos c]
   ·rw [if_neg c]
    have:di.1 y=0:=Be λh=>c ((mx.mem y).mpr h);rw [this,Br]
  have nws:NW (M*b') (ys.map (sf t b'))=λy=>di.1 y*b'-di.1 y*t:=funext λy=>by
   rw [gM Mb (f:=λy=>di.1 y*b'-di.1 y*t) (by rw [smm];exact mx.nd) fs,smm]
   by_cases c:y∈ys.map (·.1)
   ·rw [if_pos c]
   ·rw [if_neg c]
    have:di.1 y=0:=Be λh=>c ((mx.mem y).mpr h);rw [this,Br,Br];rfl
  have sc:=o.so.scale b0 ra.bb;have bMb:Bt 2900 (M*b'):=(o.so.bm.mul ra.bb).mono (by omega);have nl:di.2.length<=6:=AU ((eQ okd.srt).length_le_of_subset okd.nin) o.bs.ww.l;have hin:∀ y∈ys,y.1∈ws:=λy hy=>okd.inw y.1 ((mx.mem y.1).mp (BQ hy));refine ⟨_,rfl,_,rfl,b,r,q,l,gt,nn,rs,us,ps,rbs,ws,M*b',scl b' S,j,(λy=>dj.1 y*b',dj.2),rbj,gvs,ys.map (zf t b'),di.2,n,rfl,hn,?_,?_,?_⟩
  ·refine ⟨o4.bs.bn,o4.bs.rm,o.bs.ww,o4.st.scale M0 b0,by unfold scl;rw [Af,o.so.sl];exact o.bs.rm.1.symm,sc.ok,fI hdj,hrj,hgt,prg.keep (s3.trans s4).tk,λz hz=>⟨(fz z hz).am,(fz z hz).dvd⟩,λz hz=>?_,by rw [Af];exact yl,s04 _ _ hnn,okd.nin,by omega,Mb,bMb,?_⟩
   ·obtain ⟨y,hy,rfl⟩:=AH.mp hz
    exact hin y hy
   ·rw [nwz]
    show Bt 2900 (tot ws (λy=>dj.1 y*b'+di.1 y*t));rw [gX (λy=>dj.1 y*b') (λy=>di.1 y*t) ws,eY,eY];obtain ⟨_,tb2⟩:=o.so.small hdj hrj (o.bs.rm.at hrj);have h1:Bt 2800 (tot ws dj.1*b'):=(tb2.mul ra.bb).mono (by omega);have h2:Bt 2800 (tot ws di.1*t):=(tbt.mul ra.bt).mono (by omega);exact (h1.add h2).mono (by decide)
  ·rw [nwz]
   exact (kI'.mono s04).1
  ·rw [nwz]
   have kI4:=kI'.mono s04;refine λc nm' u=>⟨(kI4.2 c nm' u).1,λe l' H5 s5 nl' st5=>?_⟩;obtain ⟨vs5,hl5,vl5,hvs5⟩:=st5.ex;have s35:=s4.trans s5;have sumS:sumN (M*b') (ys.map (sf t b'))=tot ws (λy=>di.1 y*b'-di.1 y*t):=by
    rw [<- nws];exact (kY o.bs.ww.nd λx hx=>by
     obtain ⟨y,hy,rfl⟩:=AH.mp hx;exact hin y hy).symm
   have ovs:Over (M*b') (ys.map (sf t b')):=λz hz=>⟨(fs z hz).am,(fs z hz).dvd⟩;refine ⟨_,rfl,_,rfl,p,C,dx,_,_,rfl,(s04.trans s5) _ _ hp,D.cl,D.na _ (by simp),E1,_,rfl,sl,svs,ys.map (sf t b'),M*b',rfl,SqL.of (s35 _ _ hsl),prs.keep s35.tk,by rw [Af];omega,ovs,Mb,bMb.mono (by decide),?_,λxm xs' xy H6 s6 hxm pxm mxm=>?_⟩
   ·have n1:=bW Mb ovs
    have h1:Bt 2800 (tot ws di.1*b'):=(tbt.mul ra.bb).mono (by omega);refine (h1.le n1 ?_).mono (by decide);rw [sumS,<- eY];have:∀ ws:List Str,tot ws (λy=>di.1 y*b'-di.1 y*t)<=tot ws (λy=>di.1 y*b'):=λws=>by
     induction ws with
     |nil=>exact DC _
     |cons y r ih=>
      unfold tot at ih ⊢;rw [An,An,AK,AK];have:=BB (okd.nn y) (show 0<=t by omega);omega
    exact this ws
   ·have st6:=st5.keep s6
    have svl:vs5.length<=20:=by
     rw [vl5,CB];unfold scl;rw [Af];omega
    have mxz:IsMx (M*b') (λy=>di.1 y*b'-di.1 y*t) xy:=by
     have:=IsMx.of mxm;rw [nws] at this;exact this
    have si:i<vs5.length:=by
     rw [vl5,CB];unfold scl;rw [Af];exact (Ae.mp hdi).1
    refine ⟨_,rfl,l',i,.ref xm,.ref nn,vs5,rfl,s6 _ _ hl5,si,svl,λl7 z7 H7 s7 nl7 hz7 hl7=>?_⟩;have s47:=(s5.trans s6).trans s7;refine (kI4.2 c nm' u).2 e l7 H7 s47 (sm0 (s5.trans s6) nl7) ?_;have:=st6.put (d:=(λy=>di.1 y*b'-di.1 y*t,di.2)) (s6 _ _ hl5) s7 hl7 ⟨z7,xm,nn,xs',xy,rfl,hz7,s7 _ _ hxm,pxm.keep s7.tk,mxz,(s04.trans s47) _ _ hnn⟩;rw [List.set_comm _ _ (Bg ij)] at this;exact this
end
def ResP (c0 c1 c2 c3 c4:Addr)(us:List V)(ps:List (Str×Str))(rbs:List (Int×Int))(ws:List Str)(M:Int)(S:List PF)(n:Nat)(H:Hp)(Q:VK)(E:XK):Rw->Prop
 |.draw i x t b=>∃ d rb,S[i]?=some d/\rbs[i]?=some rb/\IntoR c3 c4 us ps ws (M*b) (scl b S) i (λy=>d.1 y*b,d.2) rb (oneW x (t*M)) [x] n H Q E
 |.empty i=>∃ d,S[i]?=some d/\∀ l' H',Same H H'->H l'=none->StV H' l' M (S.set i (λ_=>0,d.2))->Q (.ref l') H'
 |.rinse i=>∃ d,S[i]?=some d/\(¬ (∀ y,d.1 y=0)->BadE c2 [("phial",.int (i:Nat)),("place",.int (n:Nat))] H E)/\((∀ y,d.1 y=0)->∀ l' H',Same H H'->H l'=none->StV H' l' M (S.set i (λ_=>0,[]))->Q (.ref l') H')
 |.fill i x t b=>∃ d rb,S[i]?=some d/\rbs[i]?=some rb/\(¬ tot ws d.1*b<t*M->BadE c1 [("phial",.int (i:Nat)),("place",.int (n:Nat))] H E)/\(tot ws d.1*b<t*M->IntoR c3 c4 us ps ws (M*b) (scl b S) i (λy=>d.1 y*b,d.2) rb (oneW x (t*M-tot ws d.1*b)) [x] n H Q E)
 |.pour i j t b=>∃ di dj rbj,S[i]?=some di/\S[j]?=some dj/\rbs[j]?=some rbj/\((∀ y,di.1 y=0)->BadE c0 [("phial",.int (i:Nat)),("place",.int (n:Nat))] H E)/\(¬ (∀ y,di.1 y=0)->IntoR c3 c4 us ps ws (M*b) ((scl b S).set i (λy=>di.1 y*b-di.1 y*t,di.2)) j (λy=>dj.1 y*b,dj.2) rbj (λy=>di.1 y*t) di.2 n H Q E)
inductive spDoneAt (K:Ab)(c0 c1 c2 c3 c4:Addr)(vs:List V)(H:Hp)(Q:VK)(E:XK):Prop
 |mk (b r q l a rs us ps rbs ws M S β rw n:_) (e0:vs=[.ref b,.ref l,.ref a,.int ((n:Nat):Int)]) (e1:n<1000) (e2:OnIn H b r q l rs us ps rbs ws M S β) (e3:RwV H a rw) (e4:GoodR rs.length ws rw) (e5:ResP c0 c1 c2 c3 c4 us ps rbs ws M S n H Q E rw):spDoneAt K c0 c1 c2 c3 c4 vs H Q E
abbrev aCv (CD CF CP CE CR c0 c1 c2 c3 c4:Addr):List (Addr×Sp):=[(CD,spODraw CD c3 c4),(CF,spOFill CF c1 c3 c4),(CP,spOPour CP c0 c3 c4),(CE,spOEmpty CE),(CR,spORinse CR c2)]
section
variable {P:Av}{w:World}{K:Ab}{mg:Str->Option Value}{base:Heap}{cP c0 c1 c2 c3 c4 f0 f1 f2 f3 f4 CD CF CP CE CR:Addr}
def aAt:FnScope ["bench","phials","row","place"] ["bench","phials","row","place"] (aG pH):=fnScOk (by decide +kernel)
def xS {f:Addr}{fd:Az}(F:Fun K "done_at" "done_at" pH f fd)(cD:Cal P w K mg base CX0 7 "deed_at" ["bench","row","place"] (spDeedAt CD CF CP CE CR))(hT:∀ c∈aCv CD CF CP CE CR c0 c1 c2 c3 c4,Cls K c.1/\MCal P w K mg base (CXg P w) 7 c.1 "onto_at" Non c.2):FnOk P w K mg base (CXg P w) 8 f fd ["bench","phials","row","place"] (spDoneAt K c0 c1 c2 c3 c4):=by
 refine F.okF aAt (λvs H Q E h=>?_) (λcdv A outer s H vs Q E hr h=>?_)
 ·obtain ⟨_,_,_,_,_,_,_,_,_,_,_,_,_,_,_,rfl,_⟩:=h
  rfl
 ·obtain ⟨b,r,q,l,a,rs,us,ps,rbs,ws,M,S,β,rw',n,rfl,hn,o,rv,gr,res⟩:=h
  refine ⟨_,aE (aK (aG2 hT hr mZ (aJ cD hr rfl aR (aA (pv 0) (aA (pv 2) (aA (pv 3) aC)))) (aA (pv 0) (aA (pv 1) (aA (pv 3) aC))))),?_⟩;have s16:S.length<=16:=by rw [o.so.sl,<- o.bs.rm.1];exact o.bs.bn.l16
  refine ⟨_,rfl,_,rfl,_,rfl,b,a,rs.length,ws,rw',n,rfl,⟨⟨r,_,rs,o.bs.bn.hp,o.bs.bn.hr,rfl⟩,rv,gr,o.bs.ww.w⟩,λq' p dx H' h2 s' np hp=>?_⟩;cases rw' with
  |draw i x' t b'=>
   obtain ⟨d,rb,hd,hrb,kI⟩:=res;exact ⟨CD,_,p,dx,_,Ar ..,rfl,hp,yP (by decide +kernel) (by decide +kernel) (by decide +kernel),_,rfl,_,rfl,_,rfl,p,dx,b,r,q,l,q',rs,us,ps,rbs,ws,M,S,β,i,d,rb,x',t,b',n,rfl,hn,hp,s' _ _ h2,gr.2.2.1,gr.2.1,o.keep s',hd,hrb,kI.mono s'⟩
  |fill i x' t b'=>
   obtain ⟨d,rb,hd,hrb,kB,kI⟩:=res;exact ⟨CF,_,p,dx,_,Ah _ (Ar ..),rfl,hp,yP (by decide +kernel) (by decide +kernel) (by decide +kernel),_,rfl,_,rfl,_,rfl,p,dx,b,r,q,l,q',rs,us,ps,rbs,ws,M,S,β,i,d,rb,x',t,b',n,rfl,hn,hp,s' _ _ h2,gr.2.2,gr.2.1,o.keep s',hd,hrb,λc=>(kB c).mono s',λc=>(kI c).mono s'⟩
  |pour i j t b'=>
   obtain ⟨di,dj,rbj,hdi,hdj,hrj,kD,kI⟩:=res;obtain ⟨g1,g2,g3,g4,g5,g6⟩:=gr;exact ⟨CP,_,p,dx,_,Ah _ (Ah _ (Ar ..)),rfl,hp,yP (by decide +kernel) (by decide +kernel) (by decide +kernel),_,rfl,_,rfl,_,rfl,p,dx,b,r,q,l,q',rs,us,ps,rbs,ws,M,S,β,i,j,t,b',di,dj,rbj,n,rfl,hn,hp,s' _ _ h2,g4,g5,g6,g3,o.keep s',hdi,hdj,hrj,λc=>(kD c).mono s',λc=>(kI c).mono s'⟩
  |empty i=>
   obtain ⟨d,hd,k⟩:=res;exact ⟨CE,_,p,dx,_,Ah _ (Ah _ (Ah _ (Ar ..))),rfl,hp,aCz (by decide +kernel),_,rfl,_,rfl,_,rfl,p,dx,_,l,M,S,i,d,_,rfl,hp,o.st.keep s',s16,hd,λl' H2 s2 nl st=>k l' H2 (s'.trans s2) (sm0 s' nl) st⟩
  |rinse i=>
   obtain ⟨d,hd,kB,kG⟩:=res;exact ⟨CR,_,p,dx,_,Ah _ (Ah _ (Ah _ (Ah _ (Ar ..)))),rfl,hp,aCz (by decide +kernel),_,rfl,_,rfl,_,rfl,p,dx,_,l,M,S,i,d,n,rfl,hn,hp,o.st.keep s',s16,hd,λc=>(kB c).mono s',λz l' H2 s2 nl st=>kG z l' H2 (s'.trans s2) (sm0 s' nl) st⟩
end
end K52
namespace TR
open PySem PySem.Spec PyProof.Rows L2 GM
def aCh {σ:L2.St}(S:L2.St->Hp->Prop)(h:∀ σ' H',S σ' H'->u D σ' H')(g:∀ N:L2.St->Hp->Prop,(∀ σ' H',S σ' H'->N σ' H')->t { D with nx:=N } σ H):tSeq t u D σ H:=g (u D) h
def Top2 (l:List Int)(f s:Int):Prop:=∃ r,(l++[0,0]).Perm (f::s::r)/\s<=f/\∀ x∈r,x<=s
def Nd (ds:List Int)(d:Int):Prop:=∃ f s,Top2 ds f s/\d=max f (s+1)
def av:List Int->Int
 |[]=>0
 |c::r=>av r-c+1
def Okc:List Int->Prop
 |[]=>True
 |c::r=>Okc r/\0<=c/\c<64/\c<=av r
def Gd (p:List Int)(m l:Int):Prop:=∀ r,Okc r->l<=av r->Okc (p++r)/\av r-l+m<=av (p++r)
def Am (H:Hp)(m:Addr)(n:Nat):Prop:=∃ t b:Int,H m=some (.tup [.int t,.int b])/\0<=t/\1<=b/\Bt (64*n-1) t/\Bt (64*n-1) b
abbrev Pt:=V×Nat×Int
def szs (cs:List Pt):Nat:=(cs.map (·.2.1)).sum
def Tr (H:Hp):Nat->V->Nat->Int->Prop
 |0,_,_,_=>False
 |n+1,v,s,d=>
  (∃ (p m:Addr) (x:Str),v=.ref p/\H p=some (.tup [.str "ware",.str x,.ref m])/\Am H m 1/\s=1/\d=0) \/
  (∃ (p m q:Addr) (x:Str) (cs:List Pt),v=.ref p/\H p=some (.tup [.str "recipe",.str x,.ref m,.ref q])/\H q=some (.tup (cs.map (·.1)))/\1<=cs.length/\cs.length<64 /\
   (∀ c∈cs,Tr H n c.1 c.2.1 c.2.2)/\s=1+szs cs/\Nd (cs.map (·.2.2)) d/\Am H m s)
def Bx (a:Addr)(H H':Hp):Prop:=∀ b o,b≠a->H b=some o->H' b=some o
def nzc (cs:List Int):Nat:=(cs.filter λc=>c != 0).length
structure Pile (H:Hp)(cs:List Int)(j:Nat)(pl:List Pt):Prop where
 tr:∀ c∈pl,Tr H (nzc (cs.drop (cs.length-j))+1) c.1 c.2.1 c.2.2
 sz:szs pl=j
 ln:(pl.length:Int)=av (cs.drop (cs.length-j))
 hd:1<=j->∃ pl' q,pl=pl'++[q]/\∀ c,cs[cs.length-j]?=some c->1<=c->1<=q.2.2
def AtP (H:Hp):V->List Nat->V->Prop
 |v,[],u=>v=u
 |v,k::r,u=>∃ (p m q:Addr) (x:Str) (vs:List V) (c:V),v=.ref p/\H p=some (.tup [.str "recipe",.str x,.ref m,.ref q])/\H q=some (.tup vs)/\vs[k]?=some c/\AtP H c r u
abbrev pth (ks:List Nat):List V:=ks.map λ(k:Nat)=>V.int (k:Int)
def Ent (H:Hp)(root:V)(N:Nat)(e:Addr)(s:Nat):Prop:=∃ (pa:Addr) (ks:List Nat) (v:V) (n:Nat) (d:Int),H e=some (.tup [.ref pa,v])/\H pa=some (.tup (pth ks))/\AtP H root ks v/\Tr H n v s d/\ks.length+n<=N
end TR
namespace K52
open PySem PySem.Spec PyProof.Rows L2 GM TM TR
def rwb:Rw->Int
 |.draw _ _ _ b=>b
 |.fill _ _ _ b=>b
 |.pour _ _ _ b=>b
 |_=>1
inductive GR (H:Hp)(nb:Nat)(ws:List Str):Addr->Prop where
 |am {z:Addr} {wd:Str} {p x q t b}:wd = "draw" \/ wd = "fill" -> H z=some (.tup [.str wd,.int p,.str x,.ref q])->0<=p->p<(nb:Int)->x∈ws->H q=some (.tup [.int t,.int b])->Rm t b->b<=100->GR H nb ws z
 |pour {z p o q t b}:H z=some (.tup [.str "pour",.int p,.int o,.ref q])->0<=p->p<(nb:Int)->0<=o->o<(nb:Int)->p≠o->H q=some (.tup [.int t,.int b])->Rm t b->t<=b->b<=100->GR H nb ws z
 |one {z:Addr} {wd:Str} {p}:wd = "empty" \/ wd = "rinse" -> H z=some (.tup [.str wd,.int p])->0<=p->p<(nb:Int)->GR H nb ws z
def WsV (H:Hp)(wl:Addr)(ws:List Str):Prop:=H wl=some (.lst (ws.map V.str))/\ws.length=6/\∀ x∈ws,Wr x
def rK {p d nb:Int}(p0:0<=p)(pn:p<nb)(d0:0<=d)(dn:d<nb-1):0<=(p+1+d)%nb/\(p+1+d)%nb<nb/\p≠(p+1+d)%nb:=by
 have e:=bR (p+1+d) (m:=nb) (by omega);refine ⟨e.1,e.2,λz=>?_⟩
 by_cases h:p+1+d<nb
 ·rw [Int.emod_eq_of_lt (by omega) h] at z
  omega
 ·have:(p+1+d)%nb=(p+1+d-nb)%nb:=by rw [Int.sub_emod,Int.emod_self,Int.sub_zero,Int.emod_emod]
  rw [this,Int.emod_eq_of_lt (by omega) (by omega)] at z;omega
def wL {d b:Int}(d0:0<=d)(db:d<b)(b1:1<=b)(b100:b<=100)(sb:Bt 100 b):Rm ((1+d)/G (1+d) b) (b/G (1+d) b)/\(1+d)/G (1+d) b<=b/G (1+d) b/\b/G (1+d) b<=100:=by
 have g:=qK (a:=1+d) (b:=b) (by omega);exact ⟨rS (by omega) b1 (sb.le (by omega) (by omega)) sb,Int.ediv_le_ediv g (by omega),Int.le_trans (Dj _ (by omega)) b100⟩
def aIf {a wl:Addr}{H:Hp}{ws:List Str}(h:WsV H wl ws)(l:Lf H a):wl≠a:=λz=>by
 obtain ⟨n,e,_⟩:=l;obtain ⟨h1,h2,_⟩:=h;rw [z,e] at h1;have:=congrArg List.length (HO.lst.inj (AG h1));rw [Af,h2] at this;simp at this
inductive spFreeRow (vs:List V)(H:Hp)(Q:VK)(Ex:XK):Prop
 |mk (b wl a nb ws:_) (e0:vs=[.ref b,.ref wl,.ref a]) (e1:BnV H b nb) (e2:1<=nb) (e3:nb<=16) (e4:WsV H wl ws) (e5:Lf H a) (e6:∀ z H',SmB a H H'->Lf H' a->GR H' nb ws z->Q (.ref z) H'):spFreeRow  vs H Q Ex
def aGg (K:Ab):Sp:=λvs H Q _=>∃ b wl sc nb ws,∃ (ns:List Int) (k:Nat),vs=[.ref b,.ref wl,.ref sc,.int (k:Nat)]/\BnV H b nb/\1<=nb/\nb<=16/\WsV H wl ws/\SqL K H sc (ns.map V.int)/\k<ns.length/\k<=900/\∀ z H',Same H H'->GR H' nb ws z->Q (.ref z) H'
def aI1 {d:Int}(d0:0<=d)(d5:d<5):∃ wd:Str,atI [V.str "draw",.str "fill",.str "pour",.str "empty",.str "rinse"] d=some (.str wd)/\(wd = "draw" \/ wd = "fill" \/ wd = "pour" \/ wd = "empty" \/ wd = "rinse"):=by
 have:d=0\/d=1\/d=2\/d=3\/d=4:=by omega
 rcases this with rfl|rfl|rfl|rfl|rfl
 ·exact ⟨"draw",rfl,.inl rfl⟩
 ·exact ⟨"fill",rfl,.inr (.inl rfl)⟩
 ·exact ⟨"pour",rfl,.inr (.inr (.inl rfl))⟩
 ·exact ⟨"empty",rfl,.inr (.inr (.inr (.inl rfl)))⟩
 ·exact ⟨"rinse",rfl,.inr (.inr (.inr (.inr rfl)))⟩
def aI0 {d:Int}(d0:0<=d)(d9:d<10):∃ wd:Str,atI [V.str "draw",.str "draw",.str "draw",.str "draw",.str "pour",.str "pour",.str "pour",.str "fill",.str "empty",.str "rinse"] d=some (.str wd)/\(wd = "draw" \/ wd = "fill" \/ wd = "pour" \/ wd = "empty" \/ wd = "rinse"):=by
 have:d=0\/d=1\/d=2\/d=3\/d=4\/d=5\/d=6\/d=7\/d=8\/d=9:=by omega
 rcases this with rfl|rfl|rfl|rfl|rfl|rfl|rfl|rfl|rfl|rfl
 ·exact ⟨"draw",rfl,.inl rfl⟩
 ·exact ⟨"draw",rfl,.inl rfl⟩
 ·exact ⟨"draw",rfl,.inl rfl⟩
 ·exact ⟨"draw",rfl,.inl rfl⟩
 ·exact ⟨"pour",rfl,.inr (.inr (.inl rfl))⟩
 ·exact ⟨"pour",rfl,.inr (.inr (.inl rfl))⟩
 ·exact ⟨"pour",rfl,.inr (.inr (.inl rfl))⟩
 ·exact ⟨"fill",rfl,.inr (.inl rfl)⟩
 ·exact ⟨"empty",rfl,.inr (.inr (.inr (.inl rfl)))⟩
 ·exact ⟨"rinse",rfl,.inr (.inr (.inr (.inr rfl)))⟩
def GR.good {H:Hp}{nb:Nat}{ws:List Str}{z:Addr}(h:GR H nb ws z):∃ rw,RwV H z rw/\GoodR nb ws rw/\rwb rw<=100:=by
 have ra:∀ {t b:Int},Rm t b->RwA t b:=λh=>⟨⟨by have:=h.1;omega,h.2,h.3⟩,h.4.mono (by decide),h.5.mono (by decide)⟩;cases h with
 |@am wd p x q t b a1 a2 a3 a4 a5 a6 a7 a8=>
  obtain ⟨i,rfl⟩:=Bb a3
  rcases a1 with rfl|rfl
  ·exact ⟨.draw i x t b,⟨q,a2,a6⟩,⟨by omega,a5,ra a7,a7.1⟩,a8⟩
  ·exact ⟨.fill i x t b,⟨q,a2,a6⟩,⟨by omega,a5,ra a7⟩,a8⟩
 |@pour p o q t b a1 a2 a3 a4 a5 a6 a7 a8 a9 a10=>
  obtain ⟨i,rfl⟩:=Bb a2;obtain ⟨j,rfl⟩:=Bb a4;exact ⟨.pour i j t b,⟨q,a1,a7⟩,⟨by omega,by omega,λe=>a6 (by rw [e]),ra a8,a8.1,a9⟩,a10⟩
 |@one wd p a1 a2 a3 a4=>
  obtain ⟨i,rfl⟩:=Bb a3
  rcases a1 with rfl|rfl
  ·exact ⟨.empty i,a2,(show i<nb by omega),(by show (1:Int)<=100;decide)⟩
  ·exact ⟨.rinse i,a2,(show i<nb by omega),(by show (1:Int)<=100;decide)⟩
section
variable {P:Av}{w:World}{K:Ab}{mg:Str->Option Value}{base:Heap}
abbrev Nfr:List Str:=["_law_bench","_law_wares_here","_law_left","_law_many","_law_kind","_law_phial","_law_other","_law_bottom","_law_ware","_law_top"]
def dI:FnScope Nfr ["_law_bench","_law_wares_here","_law_left"] (aG lI):=fnScOk (by decide +kernel)
def tV {f:Addr}{fd:Az}(F:Fun K "_law_free_row" "_law_free_row" lI f fd)(T:Txt mg)(cD:Cal P w K mg base CX0 1 "_law_digit" ["_law_left","_law_many"] lD)(cL:Cal P w K mg base CX0 1 "_law_lowest" ["_law_top","_law_bottom"] eP):FnOk P w K mg base CX0 2 f fd ["_law_bench","_law_wares_here","_law_left"] spFreeRow:=by
 refine F.ok dI (λvs H Q E h=>?_) (λcdv A outer s H vs Q E hr h=>?_)
 ·obtain ⟨_,_,_,_,_,rfl,_⟩:=h
  rfl
 ·obtain ⟨b,wl,a,nb,ws,rfl,bn,n1,n16,wv,lf,k⟩:=h
  refine ⟨_,(aD (aL (i:=3) dI.nd rfl (Or.inl rfl) (aU aY rfl T.len Bu (aA (pit 0 0) aC)))
   (aD (aL (i:=4) dI.nd rfl (Or.inl rfl) (bC bB (dP (pa_c aT (pa_c aT (pa_c aT (pa_c aT (pa_c aT aC)))))) (aJ cD hr rfl aR (aA (pv 2) (aA aH aC))) (λ_ _=>rfl)))
   (aD (aL (i:=5) dI.nd rfl (Or.inl rfl) (aJ cD hr rfl aR (aA (pv 2) (aA (pv 3) aC))))
   (aD (bF (PW.pt (kJ (aM dD (pv 4) aT (aV _)) (hV (aM dD (pv 3) aH (aV _)))))
    (aE (aL (i:=4) dI.nd rfl (Or.inl rfl) aT))
    aQ)
   (aD (bF (PW.pt (hU (aM dD (pv 4) aT (aV _)) (fX (aM dD (pv 4) aT (aV _)))))
    (aE (aK (aW (aA (pv 4) (aA (pv 5) aC)))))
    aQ)
   (aD (bF (aM dD (pv 4) aT (aV _))
    (aD (aL (i:=6) dI.nd rfl (Or.inl rfl) (aP bQ (aP bP (aP bP (pv 5) aH) (aJ cD hr rfl aR (aA (pv 2) (aA (aP rL (pv 3) aH) aC)))) (pv 3)))
    (aD (aL (i:=7) dI.nd rfl (Or.inl rfl) (aP bP aH (aJ cD hr rfl aR (aA (pv 2) (aA aH aC)))))
    (aE (aK (aW (aA (pv 4) (aA (pv 5) (aA (pv 6) (aA (aJ cL hr rfl aR (aA (aP bP aH (aJ cD hr rfl aR (aA (pv 2) (aA (pv 7) aC)))) (aA (pv 7) aC))) aC)))))))))
    aQ)
   (aD (aL (i:=8) dI.nd rfl (Or.inl rfl) (bC bB (pv 1) (aJ cD hr rfl aR (aA (pv 2) (aA aH aC))) (λ_ _=>rfl)))
   (aD (aL (i:=9) dI.nd rfl (Or.inl rfl) (aP bP aH (aJ cD hr rfl aR (aA (pv 2) (aA aH aC)))))
   (aE (aK (aW (aA (pv 4) (aA (pv 5) (aA (pv 8) (aA (aJ cL hr rfl aR (aA (pv 9) (aA (aP bP aH (aJ cD hr rfl aR (aA (pv 2) (aA aH aC)))) aC))) aC))))))))))))))),?_⟩
  obtain ⟨r,q0,rs,hb,hrr,rl⟩:=id bn;have wne:=aIf wv lf;refine ⟨b,_,_,rfl,SqT.of hb,rfl,r,_,rfl,.inr (SqT.of hrr),?_⟩;refine ⟨zLn5,λz5 nz5=>?_⟩;have s5:=Same.upd (o:=.lst [V.str "draw",.str "fill",.str "pour",.str "empty",.str "rinse"]) nz5;have h5:upd H z5 (.lst [V.str "draw",.str "fill",.str "pour",.str "empty",.str "rinse"]) z5=some (.lst [V.str "draw",.str "fill",.str "pour",.str "empty",.str "rinse"]):=aB;have z5a:z5≠a:=lf.there nz5;generalize upd H z5 (.lst [V.str "draw",.str "fill",.str "pour",.str "empty",.str "rinse"])=H1 at s5 h5 ⊢;have lf1:=lf.keep s5;refine ⟨_,rfl,a,5,rfl,lf1,by decide,b9,λd0 H2 d00 d05 sb2 lf2=>?_⟩;obtain ⟨wd,hat,hwd⟩:=aI1 d00 d05;refine ⟨z5,_,d0,.str wd,rfl,rfl,SqL.of (sb2 _ _ z5a h5),hat,?_⟩;have sb02:SmB a H H2:=(SmB.of s5).trans sb2;have bnb:Bt 9000 ((rs.length:Nat):Int):=b9 (by omega) (by omega);refine ⟨_,rfl,_,rfl,a,_,rfl,lf2,by omega,bnb,λp H3 p0 pl sb3 lf3=>?_⟩;have sb03:=sb02.trans sb3;have pn:p<(nb:Int):=by rw [<- rl];exact pl
  dsimp only [gName];refine aCh (λσ' H'=>∃ wd':Str,σ'=[some (.ref b),some (.ref wl),some (.ref a),some (.int ((rs.length:Nat):Int)),some (.str wd'),some (.int p),none,none,none,none]/\H'=H3/\((wd' = "empty" \/ wd' = "rinse")\/(wd' = "pour" /\ 1<nb)\/(wd' = "draw" \/ wd' = "fill"))) ?_ (λN hN=>?_)
  ·intro σ' H' hh
   obtain ⟨wd',rfl,rfl,hw⟩:=hh
   rcases hw with hw|⟨rfl,n2⟩|hw
   ·have fin:∀ z,H' z=none->Q (.ref z) (upd H' z (.tup [.str wd',.int p])):=λz nz=>k z _ (sb03.own (sb03.none nz (lf3.there nz))) (lf3.keep (Same.upd nz)) (.one hw aB p0 pn)
    rcases hw with rfl|rfl
    ·exact ⟨_,rfl,rfl,_,rfl,iteT ⟨_,rfl,_,rfl,zLn2,fin⟩⟩
    ·exact ⟨_,rfl,rfl,_,rfl,iteF ⟨_,rfl,rfl,_,rfl,iteT ⟨_,rfl,_,rfl,zLn2,fin⟩⟩⟩
   ·refine ⟨_,rfl,rfl,_,rfl,iteF ⟨_,rfl,rfl,_,rfl,iteF ⟨_,rfl,rfl,_,rfl,iteT ?_⟩⟩⟩
    refine ⟨_,rfl,_,_,rfl,rfl,_,rfl,_,rfl,_,_,rfl,rfl,a,_,rfl,lf3,by omega,b9 (by omega) (by omega),λd H4 d00 dl sb4 lf4=>?_⟩;have sb04:=sb03.trans sb4;obtain ⟨o0,ol,po⟩:=rK p0 pn d00 (by rw [<- rl];exact dl);refine ⟨_,_,rfl,rfl,_,rfl,_,_,rfl,rfl,by omega,?_⟩;refine ⟨_,rfl,a,100,rfl,lf4,by decide,b9,λe H5 e0 el sb5 lf5=>⟨_,_,rfl,rfl,?_⟩⟩;have sb05:=sb04.trans sb5;have sbt:Bt 100 (1+e):=dZ 100 (c:=101) (by omega) (by omega);refine ⟨_,rfl,_,rfl,_,rfl,_,rfl,_,rfl,a,_,rfl,lf5,by omega,sbt.mono (by decide),λe2 H6 e20 e2l sb6 lf6=>⟨_,_,rfl,rfl,_,rfl,1+e2,1+e,rfl,by omega,by omega,sbt.mono (by decide),λq H7 s7 nq hq=>⟨zLn4,λz nz=>?_⟩⟩⟩;have sb06:=sb05.trans sb6;have sb07:=sb06.trans (SmB.of s7);have lf7:=lf6.keep s7;obtain ⟨rm,le,l1⟩:=wL e20 e2l (by omega) (by omega) sbt;rw [rl];refine k z _ (sb07.own (sb07.none nz (lf7.there nz))) (lf7.keep (Same.upd nz)) (.pour aB p0 pn o0 ol po (Same.upd nz _ _ hq) rm le l1)
   ·have fin:∀ {wd':Str},(wd' = "draw" \/ wd' = "fill")->∀ (x:Str) q t b' H7 z,x∈ws->SmB a H H7->Lf H7 a->H7 q=some (.tup [.int t,.int b'])->Rm t b'->b'<=100->H7 z=none->Q (.ref z) (upd H7 z (.tup [.str wd',.int p,.str x,.ref q])):=λ{wd'} hw x q t b' H7 z wx sb7 lf7 hq rm l1 nz=>k z _ (sb7.own (sb7.none nz (lf7.there nz))) (lf7.keep (Same.upd nz)) (.am hw aB p0 pn wx (Same.upd nz _ _ hq) rm l1)
    have fin':=fin hw
    rcases hw with rfl|rfl <;>
    ·refine ⟨_,rfl,rfl,_,rfl,iteF ⟨_,rfl,rfl,_,rfl,iteF ⟨_,rfl,rfl,_,rfl,iteF ?_⟩⟩⟩
     refine ⟨_,rfl,_,rfl,a,6,rfl,lf3,by decide,b9,λd H4 d00 dl sb4 lf4=>?_⟩;have sb04:=sb03.trans sb4;obtain ⟨j,rfl⟩:=Bb d00;obtain ⟨x,hx⟩:∃ x,ws[j]?=some x:=⟨_,Ac (by have:=wv.2.1;omega)⟩;refine ⟨wl,_,(j:Int),.str x,rfl,rfl,SqL.of (sb04 _ _ wne wv.1),bA (by rw [Ao,hx];rfl),?_⟩;refine ⟨_,rfl,a,1000,rfl,lf4,by decide,b9,λe H5 e0 el sb5 lf5=>⟨_,_,rfl,rfl,?_⟩⟩;refine ⟨_,rfl,_,rfl,_,rfl,_,rfl,_,rfl,a,100,rfl,lf5,by decide,b9,λe2 H6 e20 e2l sb6 lf6=>⟨_,_,rfl,rfl,1+e,1+e2,rfl,by omega,by omega,(dZ 100 (c:=101) (by omega) (by omega):Bt 100 (1+e2)).mono (by decide),λq H7 s7 nq hq=>⟨zLn4,λz nz=>?_⟩⟩⟩;exact fin' x q _ _ H7 z (Al hx) (((sb04.trans sb5).trans sb6).trans (SmB.of s7)) (lf6.keep s7) hq (rS (by omega) (by omega) (dZ 100 (c:=1001) (by omega) (by omega)) (dZ 100 (c:=101) (by omega) (by omega))) (Int.le_trans (Dj _ (by omega)) (by omega)) nz
  ·rcases hwd with rfl|rfl|rfl|rfl|rfl
   ·exact ⟨_,rfl,rfl,_,rfl,iteF (iteF (hN _ _ ⟨_,rfl,rfl,.inr (.inr (.inl rfl))⟩))⟩
   ·exact ⟨_,rfl,rfl,_,rfl,iteF (iteF (hN _ _ ⟨_,rfl,rfl,.inr (.inr (.inr rfl))⟩))⟩
   ·refine ⟨_,rfl,rfl,_,rfl,iteT ⟨_,rfl,rfl,_,rfl,ite2 (λhc=>hN _ _ ⟨_,rfl,rfl,.inl (.inl rfl)⟩) (λhc=>hN _ _ ⟨_,rfl,rfl,.inr (.inl ⟨rfl,?_⟩)⟩)⟩⟩
    have:¬ ((rs.length:Nat):Int)=1:=λz=>hc (decide_eq_true (by rw [z]));omega
   ·exact ⟨_,rfl,rfl,_,rfl,iteF (iteF (hN _ _ ⟨_,rfl,rfl,.inl (.inl rfl)⟩))⟩
   ·exact ⟨_,rfl,rfl,_,rfl,iteF (iteF (hN _ _ ⟨_,rfl,rfl,.inl (.inr rfl)⟩))⟩
abbrev Nrw:List Str:=["_law_bench","_law_wares_here","_law_script","_law_k","_law_number","_law_many","_law_phial","_law_ware","_law_kind","_law_other","_law_bottom"]
def mK:FnScope Nrw ["_law_bench","_law_wares_here","_law_script","_law_k"] (aG sRow):=fnScOk (by decide +kernel)
def aHb {f:Addr}{fd:Az}(F:Fun K "_law_row" "_law_row" sRow f fd)(T:Txt mg)(cC:Cal P w K mg base CX0 2 "_law_cell_at" ["_law_script","_law_k"] (mG K))(cM:Cal P w K mg base CX0 2 "_law_mixed" ["_law_cell","_law_k"] iS)(cF:Cal P w K mg base CX0 2 "_law_free_row" ["_law_bench","_law_wares_here","_law_left"] spFreeRow)(cU:Cal P w K mg base CX0 2 "_law_few" ["_law_number"] aCf)(cL:Cal P w K mg base CX0 2 "_law_lowest" ["_law_top","_law_bottom"] eP):FnOk P w K mg base CX0 3 f fd ["_law_bench","_law_wares_here","_law_script","_law_k"] (aGg K):=by
 refine F.ok mK (λvs H Q E h=>?_) (λcdv A outer s H vs Q E hr h=>?_)
 ·obtain ⟨_,_,_,_,_,_,_,rfl,_⟩:=h
  rfl
 ·obtain ⟨b,wl,sc,nb,ws,ns,kk,rfl,bn,n1,n16,wv,hS,kl,k9,k⟩:=h
  refine ⟨_,(aD (bF (aM dD (aP bQ (aJ cC hr rfl aR (aA (pv 2) (aA aH aC))) aH) aH (aV _))
    (aE (aK (aJ cF hr rfl aR (aA (pv 0) (aA (pv 1) (aA (dP (aA (aU gR rfl T.abs' nX (aA (bC bB (pv 2) (pv 3) (λ_ _=>rfl)) aC)) aC)) aC))))))
    aQ)
   (aD (aL (i:=4) mK.nd rfl (Or.inl rfl) (aJ cM hr rfl aR (aA (bC bB (pv 2) (pv 3) (λ_ _=>rfl)) (aA (pv 3) aC))))
   (aD (aL (i:=5) mK.nd rfl (Or.inl rfl) (aU aY rfl T.len Bu (aA (pit 0 0) aC)))
   (aD (aL (i:=6) mK.nd rfl (Or.inl rfl) (aP bQ (aP bK (pv 4) aH) (pv 5)))
   (aD (aL (i:=7) mK.nd rfl (Or.inl rfl) (bC bB (pv 1) (aP bQ (aP bK (pv 4) aH) aH) (λ_ _=>rfl)))
   (aD (aL (i:=8) mK.nd rfl (Or.inl rfl) (bC bB (dP (pa_c aT (pa_c aT (pa_c aT (pa_c aT (pa_c aT (pa_c aT (pa_c aT (pa_c aT (pa_c aT (pa_c aT aC))))))))))) (aP bQ (pv 4) aH) (λ_ _=>rfl)))
   (aD (bF (PW.pt (hU (aM dD (pv 8) aT (aV _)) (fX (aM dD (pv 8) aT (aV _)))))
    (aE (aK (aW (aA (pv 8) (aA (pv 6) (aA (pv 7) (aA (aJ cU hr rfl aR (aA (aP bK (pv 4) aH) aC)) aC)))))))
    aQ)
   (aD (bF (PW.pt (kJ (aM dD (pv 8) aT (aV _)) (hV (aM aG6 (pv 5) aH (aV _)))))
    (aD (aL (i:=9) mK.nd rfl (Or.inl rfl) (aP bQ (aP bP (aP bP (pv 6) aH) (aP bQ (aP bK (pv 4) aH) (aP rL (pv 5) aH))) (pv 5)))
    (aD (aL (i:=10) mK.nd rfl (Or.inl rfl) (aP bP aH (aP bQ (aP bK (pv 4) aH) aH)))
    (aE (aK (aW (aA (pv 8) (aA (pv 6) (aA (pv 9) (aA (aJ cL hr rfl aR (aA (aP bP aH (aP bQ (aP bK (pv 4) aH) (pv 10))) (aA (pv 10) aC))) aC)))))))))
    aQ)
   (aD (bF (aM dD (pv 8) aT (aV _))
    (aE (aK (aW (aA aT (aA (pv 6) aC)))))
    aQ)
   (aE (aK (aW (aA (pv 8) (aA (pv 6) aC)))))))))))))),?_⟩
  obtain ⟨c,hc⟩:∃ c,ns[kk]?=some c:=⟨_,Ac kl⟩;have hcat:atI (ns.map V.int) (kk:Int)=some (.int c):=bA (by rw [Ao,hc];rfl);obtain ⟨r,q0,rs,hb,hrr,rl⟩:=id bn;refine ⟨_,rfl,sc,ns,0,rfl,hS,by decide,λc0=>⟨_,_,rfl,rfl,(by show (0:Int)<2;decide),rfl,_,rfl,ite2 (λ_=>?_) (λ_=>?_)⟩⟩
  ·refine ⟨_,rfl,_,rfl,_,rfl,_,rfl,sc,_,(kk:Int),.int c,rfl,rfl,hS,hcat,c,rfl,zLn1,λl nl=>?_⟩
   have c0':=abs_nonneg c;generalize (if c<0 then -c else c)=n at *
   have sl:=Same.upd (o:=.lst [.int n]) nl;have hl:upd H l (.lst [.int n]) l=some (.lst [.int n]):=aB;generalize upd H l (.lst [.int n])=H1 at sl hl ⊢;refine ⟨b,wl,l,nb,ws,rfl,bn.keep sl,n1,n16,⟨sl _ _ wv.1,wv.2⟩,⟨n,hl,c0'⟩,λz H' sb lf gr=>k z H' (gF sl sb nl) gr⟩
  ·refine ⟨_,rfl,_,rfl,sc,_,(kk:Int),.int c,rfl,rfl,hS,hcat,_,rfl,c,(kk:Int),rfl,by omega,by omega,λn n0 nl=>?_⟩
   refine ⟨b,_,_,rfl,SqT.of hb,rfl,r,_,rfl,.inr (SqT.of hrr),?_⟩;have nbp:(0:Int)<((rs.length:Nat):Int):=by omega
   obtain ⟨p0,pn⟩:=bR (n/16) nbp;refine ⟨_,rfl,_,_,rfl,rfl,⟨by decide,b9⟩,_,rfl,_,_,rfl,rfl,nbp,?_⟩;have wlen:(((ws.map V.str).length:Nat):Int)=6:=by rw [Af,wv.2.1];rfl
   obtain ⟨j0,jn⟩:=bR (n/256) (m:=3) (by decide);obtain ⟨j,ej⟩:=Bb j0;obtain ⟨x,hx⟩:∃ x,ws[j]?=some x:=⟨_,Ac (by have:=wv.2.1;omega)⟩;refine ⟨_,rfl,_,rfl,_,_,rfl,rfl,⟨by decide,b9⟩,_,_,rfl,rfl,(by show (0:Int)<3;decide),wl,_,_,.str x,rfl,rfl,SqL.of wv.1,by rw [ej];exact bA (by rw [Ao,hx];rfl),?_⟩;refine ⟨zLn10,λz9 nz9=>?_⟩;have s9:=Same.upd (o:=.lst [V.str "draw",.str "draw",.str "draw",.str "draw",.str "pour",.str "pour",.str "pour",.str "fill",.str "empty",.str "rinse"]) nz9;have h9:upd H z9 (.lst [V.str "draw",.str "draw",.str "draw",.str "draw",.str "pour",.str "pour",.str "pour",.str "fill",.str "empty",.str "rinse"]) z9=some (.lst [V.str "draw",.str "draw",.str "draw",.str "draw",.str "pour",.str "pour",.str "pour",.str "fill",.str "empty",.str "rinse"]):=aB;generalize upd H z9 (.lst [V.str "draw",.str "draw",.str "draw",.str "draw",.str "pour",.str "pour",.str "pour",.str "fill",.str "empty",.str "rinse"])=H1 at s9 h9 ⊢;obtain ⟨m0,ml⟩:=bR n (m:=10) (by decide);obtain ⟨wd,hat,hwd⟩:=aI0 m0 ml;have pn':(n/16%((rs.length:Nat):Int))<(nb:Int):=by rw [<- rl];exact pn
   refine ⟨_,rfl,_,_,rfl,rfl,(by show (0:Int)<10;decide),z9,_,_,.str wd,rfl,rfl,SqL.of h9,hat,?_⟩;have wx:=Al hx;have finO:∀ {wd':Str},(wd' = "empty" \/ wd' = "rinse")->∀ z,H1 z=none->Q (.ref z) (upd H1 z (.tup [.str wd',.int (n/16%((rs.length:Nat):Int))])):=λ{wd'} hw z nz=>k z _ (s9.trans (Same.upd nz)) (.one hw aB p0 pn');have finA:∀ {wd':Str},(wd' = "draw" \/ wd' = "fill")->∀ q t b' H7 z,Same H H7->H7 q=some (.tup [.int t,.int b'])->Rm t b'->b'<=100->H7 z=none->Q (.ref z) (upd H7 z (.tup [.str wd',.int (n/16%((rs.length:Nat):Int)),.str x,.ref q])):=λ{wd'} hw q t b' H7 z s7 hq rm l1 nz=>k z _ (s7.trans (Same.upd nz)) (.am hw aB p0 pn' wx (Same.upd nz _ _ hq) rm l1);have n4:0<=n/4096/\n/4096<2147483647:=⟨Int.ediv_nonneg n0 (by decide),Int.lt_of_le_of_lt (Dj _ n0) nl⟩
   rcases hwd with rfl|rfl|rfl|rfl|rfl
   ·refine ⟨_,rfl,rfl,_,rfl,iteT ⟨_,rfl,_,rfl,_,rfl,_,rfl,_,_,rfl,rfl,⟨by decide,b9⟩,_,rfl,n4.1,n4.2,λt b' q H7 rm l12 s7 nq hq=>⟨zLn4,λz nz=>finA (.inl rfl) q t b' H7 z (s9.trans s7) hq rm (by omega) nz⟩⟩⟩
   ·refine ⟨_,rfl,rfl,_,rfl,iteF ⟨_,rfl,rfl,_,rfl,iteT ⟨_,rfl,_,rfl,_,rfl,_,rfl,_,_,rfl,rfl,⟨by decide,b9⟩,_,rfl,n4.1,n4.2,λt b' q H7 rm l12 s7 nq hq=>⟨zLn4,λz nz=>finA (.inr rfl) q t b' H7 z (s9.trans s7) hq rm (by omega) nz⟩⟩⟩⟩
   ·refine ⟨_,rfl,rfl,_,rfl,iteF ⟨_,rfl,rfl,_,rfl,iteF ⟨_,rfl,rfl,_,rfl,iteT ⟨_,rfl,_,_,rfl,rfl,_,rfl,ite2 (λhc2=>?_) (λhc2=>?_)⟩⟩⟩⟩
    ·have n2:(1:Int)<((rs.length:Nat):Int):=of_decide_eq_true hc2
     have m1:(0:Int)<((rs.length:Nat):Int)-1:=by omega
     obtain ⟨d0,dl⟩:=bR (n/256) m1;obtain ⟨o0,ol,po⟩:=rK p0 pn d0 dl;refine ⟨_,rfl,_,_,rfl,rfl,_,rfl,_,_,rfl,rfl,⟨by decide,b9⟩,_,rfl,_,_,rfl,rfl,_,_,rfl,rfl,m1,_,_,rfl,rfl,_,rfl,_,_,rfl,rfl,nbp,?_⟩;obtain ⟨e0,el⟩:=bR (n/4096) (m:=4) (by decide);refine ⟨_,rfl,_,_,rfl,rfl,⟨by decide,b9⟩,_,_,rfl,rfl,(by show (0:Int)<4;decide),_,_,rfl,rfl,?_⟩;have bp:(0:Int)<1+n/4096%4:=by omega
     obtain ⟨f0,fl⟩:=bR (n/32768) bp;have sbt:Bt 100 (1+n/4096%4):=dZ 100 (c:=101) (by omega) (by omega);obtain ⟨rm,le,l1⟩:=wL f0 fl (by omega) (by omega) sbt;refine ⟨_,rfl,_,rfl,_,rfl,_,rfl,_,_,rfl,rfl,⟨by decide,b9⟩,_,rfl,_,_,rfl,rfl,bp,_,_,rfl,rfl,_,rfl,_,_,rfl,by omega,by omega,sbt.mono (by decide),λq H7 s7 nq hq=>⟨zLn4,λz nz=>?_⟩⟩;exact k z _ ((s9.trans s7).trans (Same.upd nz)) (.pour aB p0 pn' o0 (by rw [<- rl];exact ol) po (Same.upd nz _ _ hq) rm le l1)
    ·refine ⟨_,rfl,rfl,_,rfl,iteT ⟨_,rfl,zLn2,λz nz=>finO (.inl rfl) z nz⟩⟩
   ·exact ⟨_,rfl,rfl,_,rfl,iteF ⟨_,rfl,rfl,_,rfl,iteF ⟨_,rfl,rfl,_,rfl,iteF (iteF ⟨_,rfl,rfl,_,rfl,iteF ⟨_,rfl,_,rfl,zLn2,λz nz=>finO (.inl rfl) z nz⟩⟩)⟩⟩⟩
   ·exact ⟨_,rfl,rfl,_,rfl,iteF ⟨_,rfl,rfl,_,rfl,iteF ⟨_,rfl,rfl,_,rfl,iteF (iteF ⟨_,rfl,rfl,_,rfl,iteF ⟨_,rfl,_,rfl,zLn2,λz nz=>finO (.inr rfl) z nz⟩⟩)⟩⟩⟩
end
end K52
namespace K52
open PySem PySem.Spec PyProof.Rows L2 GM TM
inductive Fat where
 |dry (i:Nat)
 |low (i:Nat)
 |wet (i:Nat)
 |spilt (i:Nat) (M N:Int) (rb:Int×Int)
 |touch (i:Nat) (pa:Addr)
abbrev Ou:Type:=Fat ⊕ List PF
def BadF (c0 c1 c2 c3 c4:Addr)(n:Nat)(H:Hp)(E:XK):Fat->Prop
 |.dry i=>BadE c0 [("phial",.int (i:Nat)),("place",.int (n:Nat))] H E
 |.low i=>BadE c1 [("phial",.int (i:Nat)),("place",.int (n:Nat))] H E
 |.wet i=>BadE c2 [("phial",.int (i:Nat)),("place",.int (n:Nat))] H E
 |.spilt i M N rb=>BadO c3 n i M N rb H E
 |.touch i pa=>BadE c4 [("pair",.ref pa),("phial",.int (i:Nat)),("place",.int (n:Nat))] H E
def RfV (H:Hp)(t3:Addr):Fat->Prop
 |.dry i=>H t3=some (.tup [.str "dry",.int ((i:Nat):Int),.non])
 |.low i=>H t3=some (.tup [.str "low",.int ((i:Nat):Int),.non])
 |.wet i=>H t3=some (.tup [.str "wet",.int ((i:Nat):Int),.non])
 |.spilt i M N rb=>∃ a t b,H t3=some (.tup [.str "spilt",.int ((i:Nat):Int),.ref a])/\H a=some (.tup [.int t,.int b])/\Fr (M*rb.2) t b (N*rb.2-rb.1*M)
 |.touch i pa=>H t3=some (.tup [.str "touch",.int ((i:Nat):Int),.ref pa])
def OutP (c0 c1 c2 c3 c4:Addr)(n:Nat)(M:Int)(H:Hp)(Q:VK)(E:XK):Ou->Prop
 |.inl f=>BadF c0 c1 c2 c3 c4 n H E f
 |.inr S=>∀ l' H',Same H H'->H l'=none->StV H' l' M S->Q (.ref l') H'
def OutL (M:Int)(H:Hp)(Q:VK):Ou->Prop
 |.inl f=>∀ z t3 H',Same H H'->H' z=some (.tup [.ref t3,.non])->RfV H' t3 f->Q (.ref z) H'
 |.inr S=>∀ z l' H',Same H H'->H l'=none->H' z=some (.tup [.non,.ref l'])->StV H' l' M S->Q (.ref z) H'
def IntoO (us:List V)(ps:List (Str×Str))(ws:List Str)(M:Int)(S:List PF)(i:Nat)(d:PF)(rb:Int×Int)(add:Str->Int)(xs:List Str)(o:Ou):Prop:=
 (rb.1*M<tot ws (λy=>d.1 y+add y)*rb.2/\o=.inl (.spilt i M (tot ws (λy=>d.1 y+add y)) rb)) \/
 (¬ rb.1*M<tot ws (λy=>d.1 y+add y)*rb.2/\∃ nm',NmU d.2 xs nm'/\((∃ pa,pairOf us ps nm'=.ref pa/\o=.inl (.touch i pa))\/(pairOf us ps nm'=.non/\o=.inr (S.set i (λy=>d.1 y+add y,nm')))))
def RowO (us:List V)(ps:List (Str×Str))(rbs:List (Int×Int))(ws:List Str)(M:Int)(S:List PF)(o:Ou):Rw->Prop
 |.draw i x t b=>∃ d rb,S[i]?=some d/\rbs[i]?=some rb/\IntoO us ps ws (M*b) (scl b S) i (λy=>d.1 y*b,d.2) rb (oneW x (t*M)) [x] o
 |.fill i x t b=>∃ d rb,S[i]?=some d/\rbs[i]?=some rb/\((¬ tot ws d.1*b<t*M/\o=.inl (.low i))\/(tot ws d.1*b<t*M/\IntoO us ps ws (M*b) (scl b S) i (λy=>d.1 y*b,d.2) rb (oneW x (t*M-tot ws d.1*b)) [x] o))
 |.pour i j t b=>∃ di dj rbj,S[i]?=some di/\S[j]?=some dj/\rbs[j]?=some rbj/\(((∀ y,di.1 y=0)/\o=.inl (.dry i))\/(¬ (∀ y,di.1 y=0)/\IntoO us ps ws (M*b) ((scl b S).set i (λy=>di.1 y*b-di.1 y*t,di.2)) j (λy=>dj.1 y*b,dj.2) rbj (λy=>di.1 y*t) di.2 o))
 |.empty i=>∃ d,S[i]?=some d/\o=.inr (S.set i (λ_=>0,d.2))
 |.rinse i=>∃ d,S[i]?=some d/\((¬ (∀ y,d.1 y=0)/\o=.inl (.wet i))\/((∀ y,d.1 y=0)/\o=.inr (S.set i (λ_=>0,[]))))
def rwM (M:Int):Rw->Int
 |.draw _ _ _ b=>M*b
 |.fill _ _ _ b=>M*b
 |.pour _ _ _ b=>M*b
 |_=>M
def aHk (a b:List Str):∃ c,NmU a b c:=by
 have tr:∀ x y z:Str,decide (leS x y)=true->decide (leS y z)=true->decide (leS x z)=true:=λx y z h1 h2=>decide_eq_true (List.le_trans (of_decide_eq_true h1) (of_decide_eq_true h2));have to:∀ x y:Str,(decide (leS x y)||decide (leS y x))=true:=λx y=>by
  rcases List.le_total x.cps.toList y.cps.toList with h|h
  ·rw [decide_eq_true (show leS x y from h)];rfl
  ·rw [decide_eq_true (show leS y x from h),Bool.or_true]
 have p:=List.mergeSort_perm (SX.ddl (a++b)) λx y=>decide (leS x y);have s:=List.pairwise_mergeSort tr to (SX.ddl (a++b));generalize (SX.ddl (a++b)).mergeSort (λx y=>decide (leS x y))=ss at p s;have nd:ss.Nodup:=p.nodup_iff.mpr (SX.ddl_nodup _);refine ⟨ss,?_,λy=>by rw [p.mem_iff,SX.ddl_mem,Bh]⟩;refine (List.pairwise_and_iff.mpr ⟨s,nd⟩).imp λ{x y} h=>?_;exact Be λz=>h.2 (TM.ext (ER (of_decide_eq_true h.1) (List.not_lt.mp z)))
section
variable {us:List V}{ps:List (Str×Str)}{rbs:List (Int×Int)}{ws:List Str}{M:Int}{S:List PF}{H:Hp}{Q:VK}{E:XK}{c0 c1 c2 c3 c4:Addr}{n:Nat}
def pX {i:Nat}{d:PF}{rb:Int×Int}{add:Str->Int}{xs:List Str}(pt:PsT H us ps):∃ o,IntoO us ps ws M S i d rb add xs o:=by
 by_cases c:rb.1*M<tot ws (λy=>d.1 y+add y)*rb.2
 ·exact ⟨_,.inl ⟨c,rfl⟩⟩
 ·obtain ⟨nm,u⟩:=aHk d.2 xs
  rcases jL (xs:=nm) pt with e|⟨pa,p,e,_,_⟩
  ·exact ⟨_,.inr ⟨c,nm,u,.inr ⟨e,rfl⟩⟩⟩
  ·exact ⟨_,.inr ⟨c,nm,u,.inl ⟨pa,e,rfl⟩⟩⟩
theorem IntoO.r {i:Nat}{d:PF}{rb:Int×Int}{add:Str->Int}{xs:List Str}{o:Ou}(h:IntoO us ps ws M S i d rb add xs o)(k:OutP c0 c1 c2 c3 c4 n M H Q E o):IntoR c3 c4 us ps ws M S i d rb add xs n H Q E:=by
 rcases h with ⟨c,rfl⟩|⟨c,nm',u,⟨pa,e,rfl⟩|⟨e,rfl⟩⟩
 ·exact ⟨λ_=>k,λc'=>absurd c c'⟩
 ·refine ⟨λc'=>absurd c' c,λ_ nm2 u2=>?_⟩
  cases u.uniq u2;exact ⟨λpa' e'=>by rw [e] at e';cases e';exact k,λe'=>by rw [e] at e';cases e'⟩
 ·refine ⟨λc'=>absurd c' c,λ_ nm2 u2=>?_⟩
  cases u.uniq u2;exact ⟨λpa' e'=>(by rw [e] at e';cases e'),λ_=>k⟩
theorem IntoO.l {i:Nat}{d:PF}{rb:Int×Int}{add:Str->Int}{xs:List Str}{o:Ou}(h:IntoO us ps ws M S i d rb add xs o)(k:OutL M H Q o):IntoL us ps ws M S i d rb add xs H Q:=by
 rcases h with ⟨c,rfl⟩|⟨c,nm',u,⟨pa,e,rfl⟩|⟨e,rfl⟩⟩
 ·exact ⟨λ_ z t3 a t b H' s h1 h2 h3 h4=>k z t3 H' s h1 ⟨a,t,b,h2,h3,h4⟩,λc'=>absurd c c'⟩
 ·refine ⟨λc'=>absurd c' c,λ_ nm2 u2=>?_⟩
  cases u.uniq u2;exact ⟨λpa' e' z t3 H' s h1 h2=>by rw [e] at e';cases e';exact k z t3 H' s h1 h2,λe'=>by rw [e] at e';cases e'⟩
 ·refine ⟨λc'=>absurd c' c,λ_ nm2 u2=>?_⟩
  cases u.uniq u2;exact ⟨λpa' e'=>(by rw [e] at e';cases e'),λ_=>k⟩
def IntoO.sok {β i:Nat}{d:PF}{rb:Int×Int}{add:Str->Int}{xs:List Str}{S':List PF}(so:Sok ws rbs M S β)(hd:S[i]?=some d)(hr:rbs[i]?=some rb)(a0:∀ y,0<=add y)(aw:∀ y,add y≠0->y∈ws)(xw:∀ x∈xs,x∈ws)(h:IntoO us ps ws M S i d rb add xs (.inr S')):Sok ws rbs M S' β:=by
 rcases h with ⟨c,e⟩|⟨c,nm',u,⟨pa,e,e2⟩|⟨e,e2⟩⟩
 ·cases e
 ·cases e2
 ·cases e2
  have ok:=so.ok d (Al hd);refine ⟨so.m0,so.bm,by rw [CB];exact so.sl,λd' hd'=>?_,λk d' rb' hd' hr'=>?_⟩
  ·rcases Fo hd' with h|h
   ·exact so.ok d' h
   ·rw [h]
    refine ⟨λy=>Int.add_nonneg (ok.nn y) (a0 y),λy hy=>?_,u.srt,λy hy=>?_⟩
    ·rcases (u.mem y).mp hy with h|h
     ·exact ok.nin y h
     ·exact xw y h
    ·by_cases z:d.1 y=0
     ·exact aw y λz2=>hy (by show d.1 y+add y=0;omega)
     ·exact ok.inw y z
  ·by_cases ik:i=k
   ·subst ik
    rw [CY (Ae.mp hd).1] at hd';cases hd';rw [hr] at hr';cases hr';show tot ws (λy=>d.1 y+add y)*rb.2<=_;omega
   ·rw [Cq ik] at hd'
    exact so.fit k d' rb' hd' hr'
def aCo {nb:Nat}{rw:Rw}(pt:PsT H us ps)(nS:S.length=nb)(nr:rbs.length=nb)(g:GoodR nb ws rw):∃ o,RowO us ps rbs ws M S o rw:=by
 have gS:∀ {i:Nat},i<nb->∃ d rb,S[i]?=some d/\rbs[i]?=some rb:=λ{i} h=>⟨_,_,Ac (by omega),Ac (by omega)⟩;cases rw with
 |draw i x t b=>
  obtain ⟨d,rb,h1,h2⟩:=gS g.1;obtain ⟨o,ho⟩:=pX (ws:=ws) (M:=M*b) (S:=scl b S) (i:=i) (d:=(λy=>d.1 y*b,d.2)) (rb:=rb) (add:=oneW x (t*M)) (xs:=[x]) pt;exact ⟨o,d,rb,h1,h2,ho⟩
 |fill i x t b=>
  obtain ⟨d,rb,h1,h2⟩:=gS g.1
  by_cases c:tot ws d.1*b<t*M
  ·obtain ⟨o,ho⟩:=pX (ws:=ws) (M:=M*b) (S:=scl b S) (i:=i) (d:=(λy=>d.1 y*b,d.2)) (rb:=rb) (add:=oneW x (t*M-tot ws d.1*b)) (xs:=[x]) pt
   exact ⟨o,d,rb,h1,h2,.inr ⟨c,ho⟩⟩
  ·exact ⟨_,d,rb,h1,h2,.inl ⟨c,rfl⟩⟩
 |pour i j t b=>
  obtain ⟨di,_,h1,_⟩:=gS g.1;obtain ⟨dj,rbj,h2,h3⟩:=gS g.2.1
  by_cases c:∀ y,di.1 y=0
  ·exact ⟨_,di,dj,rbj,h1,h2,h3,.inl ⟨c,rfl⟩⟩
  ·obtain ⟨o,ho⟩:=pX (ws:=ws) (M:=M*b) (S:=(scl b S).set i (λy=>di.1 y*b-di.1 y*t,di.2)) (i:=j) (d:=(λy=>dj.1 y*b,dj.2)) (rb:=rbj) (add:=λy=>di.1 y*t) (xs:=di.2) pt
   exact ⟨o,di,dj,rbj,h1,h2,h3,.inr ⟨c,ho⟩⟩
 |empty i=>
  obtain ⟨d,_,h1,_⟩:=gS (show i<nb from g);exact ⟨_,d,h1,rfl⟩
 |rinse i=>
  obtain ⟨d,_,h1,_⟩:=gS (show i<nb from g)
  by_cases c:∀ y,d.1 y=0
  ·exact ⟨_,d,h1,.inr ⟨c,rfl⟩⟩
  ·exact ⟨_,d,h1,.inl ⟨c,rfl⟩⟩
theorem RowO.p {rw:Rw}{o:Ou}(h:RowO us ps rbs ws M S o rw)(k:OutP c0 c1 c2 c3 c4 n (rwM M rw) H Q E o):ResP c0 c1 c2 c3 c4 us ps rbs ws M S n H Q E rw:=by
 cases rw with
 |draw i x t b=>
  obtain ⟨d,rb,h1,h2,h3⟩:=h;exact ⟨d,rb,h1,h2,h3.r k⟩
 |fill i x t b=>
  obtain ⟨d,rb,h1,h2,h3⟩:=h;refine ⟨d,rb,h1,h2,?_⟩
  rcases h3 with ⟨c,rfl⟩|⟨c,h3⟩
  ·exact ⟨λ_=>k,λc'=>absurd c' c⟩
  ·exact ⟨λc'=>absurd c c',λ_=>h3.r k⟩
 |pour i j t b=>
  obtain ⟨di,dj,rbj,h1,h2,h3,h4⟩:=h;refine ⟨di,dj,rbj,h1,h2,h3,?_⟩
  rcases h4 with ⟨c,rfl⟩|⟨c,h4⟩
  ·exact ⟨λ_=>k,λc'=>absurd c c'⟩
  ·exact ⟨λc'=>absurd c' c,λ_=>h4.r k⟩
 |empty i=>
  obtain ⟨d,h1,rfl⟩:=h;exact ⟨d,h1,k⟩
 |rinse i=>
  obtain ⟨d,h1,h2⟩:=h;refine ⟨d,h1,?_⟩
  rcases h2 with ⟨c,rfl⟩|⟨c,rfl⟩
  ·exact ⟨λ_=>k,λc'=>absurd c' c⟩
  ·exact ⟨λc'=>absurd c c',λ_=>k⟩
theorem RowO.l {rw:Rw}{o:Ou}(h:RowO us ps rbs ws M S o rw)(k:OutL (rwM M rw) H Q o):ResL us ps rbs ws M S H Q rw:=by
 cases rw with
 |draw i x t b=>
  obtain ⟨d,rb,h1,h2,h3⟩:=h;exact ⟨d,rb,h1,h2,h3.l k⟩
 |fill i x t b=>
  obtain ⟨d,rb,h1,h2,h3⟩:=h;refine ⟨d,rb,h1,h2,?_⟩
  rcases h3 with ⟨c,rfl⟩|⟨c,h3⟩
  ·exact ⟨λ_=>k,λc'=>absurd c' c⟩
  ·exact ⟨λc'=>absurd c c',λ_=>h3.l k⟩
 |pour i j t b=>
  obtain ⟨di,dj,rbj,h1,h2,h3,h4⟩:=h;refine ⟨di,dj,rbj,h1,h2,h3,?_⟩
  rcases h4 with ⟨c,rfl⟩|⟨c,h4⟩
  ·exact ⟨λ_=>k,λc'=>absurd c c'⟩
  ·exact ⟨λc'=>absurd c' c,λ_=>h4.l k⟩
 |empty i=>
  obtain ⟨d,h1,rfl⟩:=h;exact ⟨d,h1,k⟩
 |rinse i=>
  obtain ⟨d,h1,h2⟩:=h;refine ⟨d,h1,?_⟩
  rcases h2 with ⟨c,rfl⟩|⟨c,rfl⟩
  ·exact ⟨λ_=>k,λc'=>absurd c' c⟩
  ·exact ⟨λc'=>absurd c c',λ_=>k⟩
theorem aCa {f g:Str->Int}(h:∀ y,f y<=g y):∀ ws:List Str,tot ws f<=tot ws g
 |[]=>DC _
 |y::r=>by
  have ih:=aCa h r;have:=h y;unfold tot at ih ⊢;rw [An,An,AK,AK];omega
theorem qR:∀ ws:List Str,tot ws (λ_=>0)=0
 |[]=>rfl
 |y::r=>by
  have ih:=qR r;unfold tot at ih ⊢;rw [An,AK,ih];rfl
def Sok.put {β i:Nat}{d d':PF}(so:Sok ws rbs M S β)(rp:∀ (i:Nat) rb,rbs[i]?=some rb->0<=rb.2)(hd:S[i]?=some d)(ok:Okf ws d')(le:∀ y,d'.1 y<=d.1 y):Sok ws rbs M (S.set i d') β:=by
 refine ⟨so.m0,so.bm,by rw [CB];exact so.sl,λe he=>?_,λk e rb he hr=>?_⟩
 ·rcases Fo he with h|h
  ·exact so.ok e h
  ·rw [h];exact ok
 ·by_cases ik:i=k
  ·subst ik
   rw [CY (Ae.mp hd).1] at he;cases he;exact Int.le_trans (EN (aCa le ws) (rp i rb hr)) (so.fit i d rb hd hr)
  ·rw [Cq ik] at he
   exact so.fit k e rb he hr
def Sok.mono {β γ:Nat}(so:Sok ws rbs M S β)(h:β<=γ):Sok ws rbs M S γ:=⟨so.m0,so.bm.mono h,so.sl,so.ok,so.fit⟩
def xB {x:Str}{n:Int}(h:0<=n)(y:Str):0<=oneW x n y:=by
 unfold oneW;split
 ·exact h
 ·exact DC _
def xC {x:Str}{n:Int}(h:x∈ws)(y:Str)(hy:oneW x n y≠0):y∈ws:=by
 unfold oneW at hy;split at hy
 ·rename_i e;rw [<- e];exact h
 ·exact absurd rfl hy
def vG {x:Str}(h:x∈ws):∀ y∈[x],y∈ws:=λy hy=>by rw [AE.mp hy];exact h
def RowO.sok {β nb:Nat}{rw:Rw}{S':List PF}(so:Sok ws rbs M S β)(rp:∀ (i:Nat) rb,rbs[i]?=some rb->0<=rb.2)(g:GoodR nb ws rw)(l1:rwb rw<=10000)(h:RowO us ps rbs ws M S (.inr S') rw):Sok ws rbs (rwM M rw) S' (β+14):=by
 have M0:=so.m0;have b7:∀ {t b:Int},RwA t b->b<=10000->0<b/\Bt 14 b:=λ{t b} a l=>by
  have:=a.am.b1;exact ⟨by omega,dZ 14 (c:=10001) (by omega) (by omega)⟩
 cases rw with
 |draw i x t b=>
  obtain ⟨d,rb,h1,h2,h3⟩:=h;obtain ⟨g1,g2,g3,g4⟩:=g;obtain ⟨b0,bb⟩:=b7 g3 l1;exact IntoO.sok (so.scale b0 bb) (fI h1) h2 (xB (BB (by omega) (by omega))) (xC g2) (vG g2) h3
 |fill i x t b=>
  obtain ⟨d,rb,h1,h2,h3⟩:=h;obtain ⟨g1,g2,g3⟩:=g;obtain ⟨b0,bb⟩:=b7 g3 l1
  rcases h3 with ⟨c,e⟩|⟨c,h3⟩
  ·cases e
  ·exact IntoO.sok (so.scale b0 bb) (fI h1) h2 (xB (by omega)) (xC g2) (vG g2) h3
 |pour i j t b=>
  obtain ⟨di,dj,rbj,h1,h2,h3,h4⟩:=h;obtain ⟨g1,g2,g3,g4,g5,g6⟩:=g;obtain ⟨b0,bb⟩:=b7 g4 l1
  rcases h4 with ⟨c,e⟩|⟨c,h4⟩
  ·cases e
  ·have ok:=so.ok di (Al h1)
   have tn:∀ y,0<=di.1 y*t:=λy=>BB (ok.nn y) (by omega);have s1:=(so.scale b0 bb).put (d':=(λy=>di.1 y*b-di.1 y*t,di.2)) rp (fI h1) ⟨λy=>by
    have:=CM g6 (ok.nn y);show 0<=di.1 y*b-di.1 y*t;omega,ok.nin,ok.srt,λy hy=>ok.inw y λe=>hy (by show di.1 y*b-di.1 y*t=0;rw [e,Br,Br];rfl)⟩ (λy=>by
    have:=tn y;show di.1 y*b-di.1 y*t<=di.1 y*b;omega)
   exact IntoO.sok s1 (by rw [Cq g3];exact fI h2) h3 tn (λy hy=>ok.inw y λe=>hy (by show di.1 y*t=0;rw [e,Br])) ok.nin h4
 |empty i=>
  obtain ⟨d,h1,e⟩:=h;cases e;have ok:=so.ok d (Al h1);exact (so.put (d':=(λ_=>0,d.2)) rp h1 ⟨λ_=>DC _,ok.nin,ok.srt,λy hy=>absurd rfl hy⟩ ok.nn).mono (Nat.le_add_right ..)
 |rinse i=>
  obtain ⟨d,h1,h2⟩:=h;have ok:=so.ok d (Al h1)
  rcases h2 with ⟨c,e⟩|⟨c,e⟩
  ·cases e
  ·cases e
   exact (so.put (d':=(λ_=>0,[])) rp h1 ⟨λ_=>DC _,(λy hy=>by cases hy),.nil,λy hy=>absurd rfl hy⟩ ok.nn).mono (Nat.le_add_right ..)
def dPh (M:Int)(d:PF)(D:Dt):Prop:=∃ ys,IsMx M d.1 ys/\D=.t [.t (ys.map dOf),.t (d.2.map Dt.s)]
end
inductive Ends (us:List V)(ps:List (Str×Str))(rbs:List (Int×Int))(ws:List Str):Int->List PF->List Rw->Option (Int×List PF)->Prop
 |nil {M S}:Ends us ps rbs ws M S [] (some (M,S))
 |bad {M S r rs f}:RowO us ps rbs ws M S (.inl f) r->Ends us ps rbs ws M S (r::rs) none
 |step {M S r rs S' o}:RowO us ps rbs ws M S (.inr S') r->Ends us ps rbs ws (rwM M r) S' rs o->Ends us ps rbs ws M S (r::rs) o
def GRs (nb:Nat)(ws:List Str)(rws:List Rw):Prop:=∀ r∈rws,GoodR nb ws r/\rwb r<=100
section
variable {us:List V}{ps:List (Str×Str)}{rbs:List (Int×Int)}{ws:List Str}
theorem Ends.ex {H:Hp}(pt:PsT H us ps)(rp:∀ (i:Nat) rb,rbs[i]?=some rb->0<=rb.2):∀ {rws:List Rw} {M:Int} {S:List PF} {β:Nat},Sok ws rbs M S β->GRs rbs.length ws rws->∃ o,Ends us ps rbs ws M S rws o
 |[],M,S,β,so,g=>⟨_,.nil⟩
 |r::rs,M,S,β,so,g=>by
  obtain ⟨gd,l1⟩:=g r (Ar ..);obtain ⟨o,ro⟩:=aCo (H:=H) (us:=us) (ps:=ps) (rbs:=rbs) (ws:=ws) (M:=M) (S:=S) pt so.sl rfl gd;cases o with
  |inl f=>exact ⟨none,.bad ro⟩
  |inr S'=>
   obtain ⟨o,h⟩:=Ends.ex pt rp (RowO.sok so rp gd (by omega) ro) λx hx=>g x (Ah _ hx);exact ⟨o,.step ro h⟩
def Ends.sok (rp:∀ (i:Nat) rb,rbs[i]?=some rb->0<=rb.2){rws:List Rw}{M:Int}{S:List PF}{o:Option (Int×List PF)}(h:Ends us ps rbs ws M S rws o):∀ {β:Nat},Sok ws rbs M S β->GRs rbs.length ws rws->∀ M' S',o=some (M',S')->Sok ws rbs M' S' (β+14*rws.length):=by
 induction h with
 |nil=>intro β so g M' S' e;cases e;exact so
 |bad=>intro β so g M' S' e;cases e
 |@step M S r rs S1 o ro h ih=>
  intro β so g M' S' e;obtain ⟨gd,l1⟩:=g r (Ar ..);have:=ih (RowO.sok so rp gd (by omega) ro) (λx hx=>g x (Ah _ hx)) M' S' e;rw [AZ,show β+14*(rs.length+1)=β+14+14*rs.length by omega];exact this
def Ends.snoc {rws:List Rw}{M:Int}{S:List PF}{o:Option (Int×List PF)}(h:Ends us ps rbs ws M S rws o):∀ {M':Int} {S' S'':List PF} {r:Rw},o=some (M',S')->RowO us ps rbs ws M' S' (.inr S'') r->Ends us ps rbs ws M S (rws++[r]) (some (rwM M' r,S'')):=by
 induction h with
 |nil=>intro M' S' S'' r e ro;cases e;exact .step ro .nil
 |bad=>intro M' S' S'' r e ro;cases e
 |step r1 h ih=>intro M' S' S'' r e ro;exact .step r1 (ih e ro)
end
def Sv1 (M:Int)(d:PF)(M0:Int)(d0:PF):Prop:=(∀ y,d.1 y*M0=d0.1 y*M)/\∀ n∈d.2,n∈d0.2
def SvO (g:Nat)(M0:Int)(d0:PF):Option (Int×List PF)->Prop
 |none=>False
 |some (M,S)=>∃ d,S[g]?=some d/\Sv1 M d M0 d0
def sel (rws:List Rw)(ps:List Nat):List Rw:=ps.map λp=>rws.getD p (.rinse 0)
theorem aDu (rws:List Rw):sel rws (AF rws.length)=rws:=by
 apply Ci
 intro i;unfold sel;rw [Ao]
 by_cases h:i<rws.length
 ·rw [Ff h,CT,Ac h,BI,Ac h]
  rfl
 ·rw [Ax (by rw [ED];omega),Ax (by omega)]
  rfl
def aCi {nb:Nat}{ws:List Str}{rws:List Rw}{ps:List Nat}(g:GRs nb ws rws)(h:∀ p∈ps,p<rws.length):GRs nb ws (sel rws ps):=λr hr=>by
 obtain ⟨p,hp,rfl⟩:=AH.mp hr;have hl:=h p hp;rw [BI,Ac hl];exact g _ (Dg hl)
theorem fT:∀ {ps:List Nat} {k p:Nat},ps.Nodup->ps[k]?=some p->ps.filter (λx=>!decide (x=p))=ps.eraseIdx k
 |[],k,p,_,h=>by simp at h
 |a::r,0,p,nd,h=>by
  cases h;rw [Dh,if_neg (by simp)];show List.filter _ r=r;rw [List.filter_eq_self];intro x hx;have:x≠a:=λe=>(Bo.mp nd).1 (e▸hx);simp [this]
 |a::r,k+1,p,nd,h=>by
  have hm:p∈r:=Al h;have:a≠p:=λe=>(Bo.mp nd).1 (e▸hm);rw [Dh,if_pos (by simp [this])];show a::_=a::r.eraseIdx k;rw [fT (Bo.mp nd).2 h]
structure Plc (n:Nat)(ps:List Nat):Prop where
 up:ps.Pairwise (·<·)
 lt:∀ p∈ps,p<n
theorem Plc.nd {n:Nat}{ps:List Nat}(h:Plc n ps):ps.Nodup:=h.up.imp λh=>As h
def Plc.filter {n:Nat}{ps:List Nat}{f:Nat->Bool}(h:Plc n ps):Plc n (ps.filter f):=⟨h.up.filter f,λp hp=>h.lt p (Eo.mp hp).1⟩
def Plc.range {n:Nat}:Plc n (AF n):=⟨List.pairwise_lt_range,λp hp=>Cp.mp hp⟩
theorem aB9:∀ {ps:List Nat} {m n:Nat},m<=n->ps.Pairwise (·<·)->(∀ p∈ps,m<=p/\p<n)->m+ps.length<=n
 |[],m,n,h,_,_=>h
 |a::r,m,n,h,pw,hh=>by
  have ha:=hh a (Ar ..);have:=aB9 (m:=a+1) (by omega) (List.pairwise_cons.mp pw).2 λp hp=>⟨(List.pairwise_cons.mp pw).1 p hp,(hh p (Ah _ hp)).2⟩;rw [AZ];omega
theorem Plc.len {n:Nat}{ps:List Nat}(h:Plc n ps):ps.length<=n:=by
 have:=aB9 (Bi n) h.up λp hp=>⟨Bi _,h.lt p hp⟩;omega
section
variable (us:List V)(ps:List (Str×Str))(rbs:List (Int×Int))(ws:List Str)(M:Int)(S:List PF)(g:Nat)(M0:Int)(d0:PF)
def Yes (rws:List Rw):Prop:=∃ o,Ends us ps rbs ws M S rws o/\SvO g M0 d0 o
def No (rws:List Rw):Prop:=∃ o,Ends us ps rbs ws M S rws o/\¬ SvO g M0 d0 o
def Fix (rws:List Rw)(pl:List Nat):Prop:=∀ (k:Nat),k<pl.length->No us ps rbs ws M S g M0 d0 (sel rws (pl.eraseIdx k))
end
def oJ {N1 N2:Int}(h1:0<N1)(h2:0<N2){f1 f2:Str->Int}{zs1 zs2:List (Str×Int×Int)}(m1:IsMx N1 f1 zs1)(m2:IsMx N2 f2 zs2):zs1=zs2↔∀ y,f1 y*N2=f2 y*N1:=by
 constructor
 ·intro e y
  subst e
  by_cases hy:y∈zs1.map (·.1)
  ·obtain ⟨p,hp,rfl⟩:=AH.mp hy
   have a1:=m1.fr p hp;have a2:=m2.fr p hp;have e1:=a1.e;have e2:=a2.e;have b1:=a1.am.b1;refine Bm (show p.2.2≠0 by omega) ?_
   grind
  ·have z1:f1 y=0:=by
    by_cases z:f1 y=0
    ·exact z
    ·exact absurd ((m1.mem y).mpr z) hy
   have z2:f2 y=0:=by
    by_cases z:f2 y=0
    ·exact z
    ·exact absurd ((m2.mem y).mpr z) hy
   rw [z1,z2,Br,Br]
 ·intro e
  have k1:IsMx (N1*N2) (λy=>f1 y*N2) zs1:=⟨m1.pw,m1.nd,λy=>by
   rw [m1.mem];exact ⟨λz q=>(DQ.mp q).elim z (by omega),λz q=>z (by rw [q,Br])⟩,λp hp=>⟨(m1.fr p hp).am,by have:=(m1.fr p hp).e;grind⟩⟩
  have k2:IsMx (N1*N2) (λy=>f1 y*N2) zs2:=⟨m2.pw,m2.nd,λy=>by
   rw [m2.mem,e y];exact ⟨λz q=>(DQ.mp q).elim z (by omega),λz q=>z (by rw [q,Br])⟩,λp hp=>⟨(m2.fr p hp).am,by have:=(m2.fr p hp).e;have:=e p.1;grind⟩⟩
  exact k1.uniq (Cr h1 h2) k2
def deq2 {K:Ab}{H:Hp}{p q:Addr}{t b t' b':Int}(h:H p=some (.tup [.int t,.int b]))(k:H q=some (.tup [.int t',.int b'])):DEq K H 39 (.ref p) (.ref q) (decide (t=t'/\b=b')):=by
 by_cases e:p=q
 ·subst e
  rw [h] at k;injection k with k;injection k with k;injection k with k1 k2;injection k2 with k2;injection k1 with k1;injection k2 with k2;rw [decide_eq_true ⟨k1,k2⟩];exact .same
 ·have d:=DEq.tup (n:=38) (K:=K) (H:=H) (e:=λj=>if j=0 then eqV (.int t) (.int t') else eqV (.int b) (.int b')) e (SqT.of h) (SqT.of k) λj x y hx hy=>by
   match j,hx,hy with
   |0,hx,hy=>cases hx;cases hy;exact .flat rfl rfl
   |1,hx,hy=>cases hx;cases hy;exact .flat rfl rfl
   |j+2,hx,_=>simp at hx
  have e2:((AF (min [V.int t,V.int b].length [V.int t',V.int b'].length)).all (λj=>if j=0 then eqV (.int t) (.int t') else eqV (.int b) (.int b'))&&[V.int t,V.int b].length==[V.int t',V.int b'].length)=decide (t=t'/\b=b'):=by
   show ((AF 2).all _&&true)=_;have:AF 2=[0,1]:=rfl;rw [this,CC];simp [eqV]
  rw [e2] at d;exact d
def deqP {K:Ab}{H:Hp}{u v:V}{x y:Str×Int×Int}(h:Pr H u x)(k:Pr H v y):DEq K H 40 u v (decide (x=y)):=by
 obtain ⟨p,q,rfl,h1,h2⟩:=h;obtain ⟨p',q',rfl,k1,k2⟩:=k
 by_cases e:p=p'
 ·subst e
  rw [h1] at k1;injection k1 with k1;injection k1 with k1;injection k1 with e1 e2;injection e2 with e2;injection e1 with e1;injection e2 with e2;subst e2;rw [h2] at k2;injection k2 with k2;injection k2 with k2;injection k2 with e3 e4;injection e4 with e4;injection e3 with e3;injection e4 with e4;have:x=y:=Prod.ext e1 (Prod.ext e3 e4);rw [decide_eq_true this];exact .same
 ·have d:=DEq.tup (n:=39) (K:=K) (H:=H) (e:=λj=>if j=0 then eqV (.str x.1) (.str y.1) else decide (x.2.1=y.2.1/\x.2.2=y.2.2)) e (SqT.of h1) (SqT.of k1) λj a b ha hb=>by
   match j,ha,hb with
   |0,ha,hb=>cases ha;cases hb;exact .flat rfl rfl
   |1,ha,hb=>cases ha;cases hb;exact deq2 h2 k2
   |j+2,ha,_=>simp at ha
  have e2:((AF (min [V.str x.1,V.ref q].length [V.str y.1,V.ref q'].length)).all (λj=>if j=0 then eqV (.str x.1) (.str y.1) else decide (x.2.1=y.2.1/\x.2.2=y.2.2))&&[V.str x.1,V.ref q].length==[V.str y.1,V.ref q'].length)=decide (x=y):=by
   show ((AF 2).all _&&true)=_;have:AF 2=[0,1]:=rfl;rw [this];obtain ⟨x1,x2,x3⟩:=x;obtain ⟨y1,y2,y3⟩:=y;rw [CC];simp [eqV]
  rw [e2] at d;exact d
theorem oI:∀ (xs ys:List (Str×Int×Int)),((AF (min xs.length ys.length)).all (λj=>decide (xs[j]?=ys[j]?))&&xs.length==ys.length)=decide (xs=ys):=by
 intro xs ys
 by_cases e:xs=ys
 ·subst e
  simp
 ·rw [decide_eq_false e]
  by_cases l:xs.length=ys.length
  ·have:¬ ((AF (min xs.length ys.length)).all (λj=>decide (xs[j]?=ys[j]?)))=true:=by
    intro h;rw [Cf] at h;refine e (Ci λi=>?_)
    by_cases hi:i<xs.length
    ·exact of_decide_eq_true (h i (Cp.mpr (by omega)))
    ·rw [Ax (by omega),Ax (by omega)]
   rw [EL];exact .inl (by simpa using this)
  ·rw [EL]
   exact .inr (by simpa using l)
def rEqP (K:Ab):R2:=λx y H Q=>∃ a b us vs xs ys,x=.ref a/\y=.ref b/\SqT K H a us/\SqT K H b vs/\PrL H us xs/\PrL H vs ys/\Q (.bl (decide (xs=ys))) H
def rNeP (K:Ab):R2:=λx y H Q=>∃ a b us vs xs ys,x=.ref a/\y=.ref b/\SqT K H a us/\SqT K H b vs/\PrL H us xs/\PrL H vs ys/\Q (.bl (!decide (xs=ys))) H
def deqs {K:Ab}{H:Hp}{us vs:List V}{xs ys:List (Str×Int×Int)}(h:PrL H us xs)(k:PrL H vs ys):∀ (j:Nat) u v,us[j]?=some u->vs[j]?=some v->DEq K H 40 u v (decide (xs[j]?=ys[j]?)):=λj u v hu hv=>by
 obtain ⟨x,hx,px⟩:=h.get hu;obtain ⟨y,hy,py⟩:=k.get hv;have d:=deqP (K:=K) px py;have e:decide (xs[j]?=ys[j]?)=decide (x=y):=by rw [hx,hy];exact decide_eq_decide.mpr ⟨AG,congrArg some⟩
 rw [e];exact d
def aG7 {X:Cx}(hu:X.A.units+64<cLine):OpR X (Bl .Eq) (rEqP X.K):=by
 intro pins s σ H x y v u Q I rx ry h;obtain ⟨a,b,us,vs,xs,ys,rfl,rfl,hx,hy,k1,k2,q⟩:=h;refine wZ hu pins s σ H _ _ v u Q I rx ry ⟨a,b,us,vs,_,rfl,rfl,hx,hy,deqs k1 k2,?_⟩;rw [k1.length,k2.length,oI];exact q
def aG5 {X:Cx}(hu:X.A.units+64<cLine):OpR X (Bl .NotEq) (rNeP X.K):=by
 intro pins s σ H x y v u Q I rx ry h;obtain ⟨a,b,us,vs,xs,ys,rfl,rfl,hx,hy,k1,k2,q⟩:=h;refine wU hu pins s σ H _ _ v u Q I rx ry ⟨a,b,us,vs,_,rfl,rfl,hx,hy,deqs k1 k2,?_⟩;rw [k1.length,k2.length,oI];exact q
def fcl (c0 c1 c2 c3 c4:Addr):Fat->Addr
 |.dry _=>c0
 |.low _=>c1
 |.wet _=>c2
 |.spilt ..=>c3
 |.touch ..=>c4
def aB3 {c0 c1 c2 c3 c4:Addr}{n:Nat}{H:Hp}{E:XK}{f:Fat}(h:∀ dx H',Same H H'->E (.ref (fcl c0 c1 c2 c3 c4 f)) (some dx) H'):BadF c0 c1 c2 c3 c4 n H E f:=by
 cases f with
 |dry i=>exact λdx H' s _=>h dx H' s
 |low i=>exact λdx H' s _=>h dx H' s
 |wet i=>exact λdx H' s _=>h dx H' s
 |spilt i M N rb=>exact λa t b dx H' s _ _ _=>h dx H' s
 |touch i pa=>exact λdx H' s _=>h dx H' s
def ErB.ck {K:Ab}{mg:Str->Option Value}{cP c0 c1 c2 c3 c4 f0 f1 f2 f3 f4:Addr}(R:ErB K mg cP c0 c1 c2 c3 c4 f0 f1 f2 f3 f4)(f:Fat):PySem.W.subIn K (.ref (fcl c0 c1 c2 c3 c4 f)) (.ref cP)=some true/\∃ g,ExI K (fcl c0 c1 c2 c3 c4 f) cP g:=by
 cases f with
 |dry i=>exact ⟨R.r0.s,_,(R.r0.e "place" (by simp)).i⟩
 |low i=>exact ⟨R.r1.s,_,(R.r1.e "place" (by simp)).i⟩
 |wet i=>exact ⟨R.r2.s,_,(R.r2.e "place" (by simp)).i⟩
 |spilt i M N rb=>exact ⟨R.r3.s,_,(R.r3.e "place" (by simp)).i⟩
 |touch i pa=>exact ⟨R.r4.s,_,(R.r4.e "place" (by simp)).i⟩
structure RwsV (H:Hp)(l:Addr)(rws:List Rw)(vs:List V):Prop where
 hl:H l=some (.lst vs)
 ln:vs.length=rws.length
 at':∀ (i:Nat) v rw',vs[i]?=some v->rws[i]?=some rw'->∃ a,v=.ref a/\RwV H a rw'
def RwsV.keep {H H':Hp}{l:Addr}{rws:List Rw}{vs:List V}(s:Same H H')(h:RwsV H l rws vs):RwsV H' l rws vs:=⟨s _ _ h.hl,h.ln,λi v r hv hr=>by
 obtain ⟨a,e,q⟩:=h.at' i v r hv hr;exact ⟨a,e,q.keep s⟩⟩
theorem RwsV.get {H:Hp}{l:Addr}{rws:List Rw}{vs:List V}{i:Nat}{v:V}(h:RwsV H l rws vs)(hv:vs[i]?=some v):∃ rw' a,rws[i]?=some rw'/\v=.ref a/\RwV H a rw':=by
 obtain ⟨r,hr⟩:∃ r,rws[i]?=some r:=⟨_,Ac (by rw [<- h.ln];exact (Ae.mp hv).1)⟩;obtain ⟨a,e,q⟩:=h.at' i v r hv hr;exact ⟨r,a,hr,e,q⟩
def BS.rp {H:Hp}{b r q:Addr}{rs us:List V}{ps:List (Str×Str)}{rbs:List (Int×Int)}{ws:List Str}(h:BS H b r q rs us ps rbs ws):(∀ (i:Nat) rb,rbs[i]?=some rb->0<=rb.1)/\∀ (i:Nat) rb,rbs[i]?=some rb->0<=rb.2:=⟨λi rb hr=>by have:=(h.rm.at hr).1;omega,λi rb hr=>by have:=(h.rm.at hr).b1;omega⟩
structure WIn (H:Hp)(b r q ph rl:Addr)(rs us:List V)(ps:List (Str×Str))(rbs:List (Int×Int))(ws:List Str)(M:Int)(S:List PF)(β:Nat)(rws:List Rw)(rv:List V):Prop where
 on:OnIn H b r q ph rs us ps rbs ws M S β
 rw':RwsV H rl rws rv
 gd:GRs rbs.length ws rws
 l60:rws.length<=60
 bl:β+14*rws.length<=2400
def WIn.keep {H H':Hp}{b r q ph rl:Addr}{rs us:List V}{ps:List (Str×Str)}{rbs:List (Int×Int)}{ws:List Str}{M:Int}{S:List PF}{β:Nat}{rws:List Rw}{rv:List V}(s:Same H H')(h:WIn H b r q ph rl rs us ps rbs ws M S β rws rv):WIn H' b r q ph rl rs us ps rbs ws M S β rws rv:=⟨h.on.keep s,h.rw'.keep s,h.gd,h.l60,h.bl⟩
inductive spWalked (c0 c1 c2 c3 c4:Addr)(vs:List V)(H:Hp)(Q:VK)(E0:XK):Prop
 |mk (b r q ph rl rs us ps rbs ws M S β rws rv o:_) (e0:vs=[.ref b,.ref ph,.ref rl]) (e1:WIn H b r q ph rl rs us ps rbs ws M S β rws rv) (en:Ends us ps rbs ws M S rws o) (e2:∀ M' S',o=some (M',S')->∀ l' H',Same H H'->StV H' l' M' S'->Sok ws rbs M' S' (β+14*rws.length)->Q (.ref l') H') (e3:o=none->∀ f dx H',Same H H'->E0 (.ref (fcl c0 c1 c2 c3 c4 f)) (some dx) H'):spWalked c0 c1 c2 c3 c4 vs H Q E0
inductive spLeaves (vs:List V)(H:Hp)(Q:VK)(E0:XK):Prop
 |mk (b r q ph rl rs us ps rbs ws M S β rws rv o g M0 d0 wv:_) (e0:vs=[.ref b,.ref ph,.ref rl,.int ((g:Nat):Int),wv]) (e1:WIn H b r q ph rl rs us ps rbs ws M S β rws rv) (en:Ends us ps rbs ws M S rws o) (hw:PhA H M0 wv d0) (m0:0<M0) (hg:g<rbs.length) (kk:∀ (x:Bool) H',Same H H'->(x=true↔SvO g M0 d0 o)->Q (.bl x) H'):spLeaves vs H Q E0
def aB2 {rel:Nat->Prop}:∀ (ys:List V),(∀ (i:Nat) y,ys[i]?=some y->∃ b:Bool,y=.bl b/\(b=true↔rel i))->∃ bs:List Bool,ys=bs.map V.bl/\(bs.all id=true↔∀ i,i<ys.length->rel i):=by
 intro ys
 induction ys generalizing rel with
 |nil=>exact λ_=>⟨[],rfl,by simp⟩
 |cons y r ih=>
  intro h;obtain ⟨b,rfl,hb⟩:=h 0 y rfl;obtain ⟨bs,rfl,hs⟩:=ih (rel:=λi=>rel (i+1)) λi z hz=>h (i+1) z (by simpa using hz);refine ⟨b::bs,rfl,?_⟩;rw [List.all_cons,BU,hs];show (b=true/\_)↔_;rw [hb];constructor
  ·rintro ⟨h0,h1⟩ i hi
   cases i with
   |zero=>exact h0
   |succ i=>exact h1 i (by simpa using hi)
  ·intro h2
   exact ⟨h2 0 (by simp),λi hi=>h2 (i+1) (by simpa using hi)⟩
def tR {X:Cx}{K:Ab}(h:X.K=K):OpR X (Bl .In) (rIn K false):=h▸eT
def ndNm:(["name","wanted"]:List Str).Nodup:=by decide +kernel
section
variable {P:Av}{w:World}{K:Ab}{mg:Str->Option Value}{base:Heap}{cP c0 c1 c2 c3 c4 c5 f0 f1 f2 f3 f4:Addr}
def gD:FnScope ["bench","phials","rows","behind","place","row"] ["bench","phials","rows"] (aG oY):=fnScOk (by decide +kernel)
def xE {f:Addr}{fd:Az}(F:Fun K "walked" "walked" oY f fd)(T:Txt mg)(cD:Cal P w K mg base (CXg P w) 8 "done_at" ["bench","phials","row","place"] (spDoneAt K c0 c1 c2 c3 c4)):FnOk P w K mg base (CXg P w) 9 f fd ["bench","phials","rows"] (spWalked c0 c1 c2 c3 c4):=by
 refine F.okF gD (λvs H Q E h=>?_) (λcdv A outer s H vs Q E hr h=>?_)
 ·obtain ⟨_,_,_,_,_,_,_,_,_,_,_,_,_,_,_,_,rfl,_⟩:=h
  rfl
 ·obtain ⟨b,r,q,ph,rl,rs,us,ps,rbs,ws,M,S,β,rws,rv,o,rfl,wi,en,k,kb⟩:=h
  refine ⟨_,(aD (aL (i:=3) gD.nd rfl (Or.inl rfl) (aX bJ rfl T.list' dS (aA (pv 1) aC)))
   (aD (cJ BK.leaving rfl (aEk rfl T.enum' (aA (pv 2) aC)) (fO rfl (bE (aS (i:=4) gD.nd rfl (Or.inl rfl)) (bE (aS (i:=5) gD.nd rfl (Or.inl rfl)) eF)))
    (aE (aL (i:=3) gD.nd rfl (Or.inl rfl) (aJ cD hr rfl mZ (aA (pv 0) (aA (pv 3) (aA (pv 5) (aA (pv 4) aC))))))))
   (aE (aK (pv 3))))),?_⟩
  refine cut3 ?_
  intros
  obtain ⟨vs,hv,vl,va⟩:=wi.on.st.ex;have l60:=wi.l60;have bl:=wi.bl;have rp:=wi.on.bs.rp.2;have rsl:=wi.on.bs.rm.1;refine ⟨_,rfl,ph,_,rfl,.inl (SqL.of hv),λl nl=>?_⟩;have sl:=Same.upd (o:=.lst vs) nl;have st1:StV (upd H l (.lst vs)) l M S:=⟨vs,aB,vl,λi v d h1 h2=>(va i v d h1 h2).keep sl⟩;generalize upd H l (.lst vs)=H1 at sl st1 ⊢;refine ⟨_,rfl,rl,rfl,⟨_,SqL.of (wi.rw'.keep sl).hl⟩,?_⟩;refine aBw (ys:=rv) (λi σ H'=>∃ (l':Addr) (M':Int) (S':List PF) (v4 v5:Option V),σ=[some (.ref b),some (.ref ph),some (.ref rl),some (.ref l'),v4,v5]/\Same H H'/\StV H' l' M' S'/\Sok ws rbs M' S' (β+14*i)/\Ends us ps rbs ws M' S' (rws.drop i) o) ⟨l,M,S,none,none,rfl,sl,st1,wi.on.so,en⟩ (λi σ H' _ hh=>by obtain ⟨_,_,_,_,_,_,sm,_⟩:=hh;exact SqL.of (wi.rw'.keep sm).hl) ?_ ?_
  ·intro i y Tt σ H2 hy nT hh
   obtain ⟨l',M',S',v4,v5,rfl,s2,st2,so,ee⟩:=hh;have sT:=Same.upd (o:=.tup [.int (i:Nat),y]) nT;have s3:=s2.trans sT;obtain ⟨rw',a,hrw,rfl,rv3⟩:=(wi.rw'.keep s3).get hy;obtain ⟨il,ei⟩:=Ae.mp hrw;obtain ⟨a1,a2⟩:=wi.gd rw' (Al hrw);rw [Eb il,ei] at ee;refine ⟨Tt,_,rfl,SqT.of aB,rfl,_,_,rfl,_,_,rfl,rfl,?_⟩;have oi:OnIn (upd H2 Tt (.tup [.int (i:Nat),.ref a])) b r q l' rs us ps rbs ws M' S' (β+14*i):=⟨wi.on.bs.keep s3,st2.keep sT,so,by omega⟩;generalize upd H2 Tt (.tup [.int (i:Nat),.ref a])=H3 at sT s3 rv3 oi ⊢;cases ee with
   |bad ro=>exact ⟨_,rfl,_,rfl,_,rfl,_,rfl,b,r,q,l',a,rs,us,ps,rbs,ws,_,_,_,rw',i,rfl,by omega,oi,rv3,by rw [rsl];exact a1,ro.p (aB3 λdx H4 s4=>kb rfl _ dx H4 (s3.trans s4))⟩
   |step ro ee=>exact ⟨_,rfl,_,rfl,_,rfl,_,rfl,b,r,q,l',a,rs,us,ps,rbs,ws,_,_,_,rw',i,rfl,by omega,oi,rv3,by rw [rsl];exact a1,ro.p λl2 H4 s4 nl2 st4=>⟨l2,_,_,_,_,rfl,s3.trans s4,st4,RowO.sok so rp a1 (by omega) ro,ee⟩⟩
  ·intro σ H2 hh
   obtain ⟨l',M',S',v4,v5,rfl,s2,st2,so,ee⟩:=hh;rw [wi.rw'.ln] at so ee;rw [List.drop_length] at ee;cases ee;exact ⟨_,rfl,k _ _ rfl l' H2 s2 st2 so⟩
def rC:FnScope ["bench","phials","rows","goal","wanted","behind"] ["bench","phials","rows","goal","wanted"] (aG jC):=fnScOk (by decide +kernel)
def xO {f:Addr}{fd:Az}(F:Fun K "leaves_as" "leaves_as" jC f fd)(T:Txt mg)(R:ErB K mg cP c0 c1 c2 c3 c4 f0 f1 f2 f3 f4)(cW:Cal P w K mg base (CXg P w) 9 "walked" ["bench","phials","rows"] (spWalked c0 c1 c2 c3 c4)):FnOk P w K mg base CX0 10 f fd ["bench","phials","rows","goal","wanted"] spLeaves:=by
 refine F.ok rC (λvs H Q E h=>?_) (λcdv A outer s H vs Q E hr h=>?_)
 ·obtain ⟨_,_,_,_,_,_,_,_,_,_,_,_,_,_,_,_,_,_,_,_,rfl,_⟩:=h
  rfl
 ·obtain ⟨b,r,q,ph,rl,rs,us,ps,rbs,ws,M,S,β,rws,rv,o,g,M0,d0,wv,rfl,wi,en,hw,m0,hg,k⟩:=h
  refine ⟨_,(aD (aEg ⟨rfl,rfl,rfl⟩ rfl R.mP R.ct (λpins E' σ Ec hp=>aE (aL (i:=5) rC.nd rfl (Or.inl rfl) (aEp cW hr rfl hp (aA (pv 0) (aA (pv 1) (aA (pv 2) aC)))))) (λea=>aE (aK fP)))
   (aE (aK (iB (dB (aG7 hr.units) (bC cV (bC bB (pv 5) (pv 3) (λ_ _=>rfl)) aH (λ_ _=>rfl)) (pit 4 0) (aV _)) (gK (aU (jW rfl) rfl T.all' boot_all (aA (eC (N':=["name","wanted"]) (λσ=>[none,some 4].map λt=>t.bind λj=>(σ[j]?).join) rfl rfl (by decide +kernel) (by decide +kernel)
     (iG (sc:=aG jC) rfl (by decide +kernel)) (λ_ _ _=>eA (sc:=aG jC) (N:=["bench","phials","rows","goal","wanted","behind"]) [none,some 4] rfl rfl rfl rfl (by decide +kernel))
     (fY (bC cV (bC bB (pv 5) (pv 3) (λ_ _=>rfl)) aH (λ_ _=>rfl))) (λ_ _ _ _ _ _=>aS (i:=0) ndNm rfl (Or.inl rfl)) (λ_ _ _ _ _ _=>dM)
     (λ_ _ _ _ _ _=>dB (tR (K:=K) rfl) (pv 0) (bC (yH (K:=K) rfl) (pv 1) aH (λ_ _=>rfl)) rfl)) aC))))))),?_⟩
  refine ⟨rfl,_,rfl,_,rfl,_,rfl,b,r,q,ph,rl,rs,us,ps,rbs,ws,M,S,β,rws,rv,o,rfl,wi,en,?_,?_⟩
  ·intro M' S' eo l' H1 s1 st1 so1
   subst eo;have gl:g<S'.length:=by rw [so1.sl];exact hg
   obtain ⟨d,hd⟩:∃ d,S'[g]?=some d:=⟨_,Ac gl⟩;obtain ⟨vs,v,hl,vl,hv,a,m,n,us1,ys1,rfl,ha,hm,pr1,mx1,hn⟩:=st1.get hd;obtain ⟨a0,m1,n1,us0,ys0,rfl,ha0,hm0,pr0,mx0,hn0⟩:=hw.keep s1;have it:atI vs ((g:Nat):Int)=some (.ref a):=bA hv;have al:=oJ so1.m0 m0 mx1 mx0;refine ⟨_,rfl,_,rfl,l',vs,_,.ref a,rfl,rfl,SqL.of hl,it,a,_,_,.ref m,rfl,rfl,SqT.of ha,rfl,a0,_,_,rfl,SqT.of ha0,rfl,m,m1,us1,us0,ys1,ys0,rfl,rfl,SqT.of hm,SqT.of hm0,pr1,pr0,_,rfl,ite2 (λc=>?_) (λc=>?_)⟩
   ·have c1:=al.mp (of_decide_eq_true c)
    refine ⟨_,rfl,_,rfl,l',vs,_,.ref a,rfl,rfl,SqL.of hl,it,a,_,_,.ref n,rfl,rfl,SqT.of ha,rfl,n,rfl,⟨_,SqT.of hn⟩,λD hD=>?_⟩;refine eD (Ys.tup (SqT.of hn)) (λi _ y _=>∃ bb:Bool,y=.bl bb/\(bb=true↔∀ nm,d.2[i]?=some nm->nm∈d0.2)) (λ_ _ _ _ _ h _=>h) hD (by rw [Af];have okd:=so1.ok d (Al hd);have:=AU ((eQ okd.srt).length_le_of_subset okd.nin) wi.on.bs.ww.l;omega) (λi x H' R hx sm hR=>?_) (λys H' sm hD' yl hy=>?_)
    ·rw [Ao] at hx
     obtain ⟨nm,hnm,rfl⟩:=AO.mp hx;refine ⟨(Keep.refl _).set rfl,_,rfl,_,rfl,a0,_,_,.ref n1,rfl,rfl,SqT.of (sm _ _ ha0),rfl,n1,_,rfl,.inr (SqT.of (sm _ _ hn0)),rfl,eK _,hR _ _ (Same.refl _) ⟨_,rfl,dY.trans ⟨λh nm' e=>by rw [hnm] at e;cases e;exact h,λh=>h nm hnm⟩⟩⟩
    ·obtain ⟨bs,rfl,hb⟩:=aB2 ys λi y hyi=>by
      obtain ⟨x,hx⟩:∃ x,(d.2.map V.str)[i]?=some x:=⟨_,Ac (by have:=(Ae.mp hyi).1;omega)⟩;exact hy i x y hx hyi
     refine ⟨D,bs,rfl,SqL.of hD',k _ _ (s1.trans sm) (hb.trans ⟨λh=>⟨d,hd,c1,λnm hn'=>?_⟩,?_⟩)⟩
     ·obtain ⟨i,hi⟩:=Dr hn'
      refine h i ?_ nm hi;rw [yl,Af];exact (Ae.mp hi).1
     ·rintro ⟨d',hd',_,h2⟩ i _ nm hi
      rw [hd] at hd';cases hd';exact h2 nm (Al hi)
   ·refine k false _ s1 ⟨(λh=>nomatch h),?_⟩
    rintro ⟨d',hd',h1,h2⟩
    rw [hd] at hd';cases hd';exact (c (decide_eq_true (al.mpr h1))).elim
  ·intro eo f dx H1 s1
   subst eo;obtain ⟨sub,_,ck⟩:=R.ck f;exact ⟨fcl c0 c1 c2 c3 c4 f,rfl,ck.k,sub,k false _ s1 ⟨(λh=>nomatch h),λh=>h.elim⟩⟩
end
end K52
namespace L2
open PySem PySem.Spec PyProof.Rows
def uY (ta:TA):TE:=λσ H Q=>ta σ H λvs H1=>∃ j:Int,vs=[.int j]/\(-(2^62)<=j/\j<2^62)/\j.toNat<=1000/\∀ p,H1 p=none->Q (.ref p) (upd H1 p (.lst (rngV 0 j.toNat)))
def pN {X:Cx}{e2:Expr}{ta:TA}{p p' pos pos':Pos}(hc:X.calm=true)(hg:Gl X "list")(hm:X.mg "list" = none)(hg':Gl X "range")(hm':X.mg "range" = none)(ha:PA X [e2] ta)
  (hs:AQ [e2] X.env=[(false,eval e2 X.env)]:=by rfl)
  (hs3:AQ [Expr.Call (.Name "range" p') [e2] [] pos'] X.env=[(false,eval (.Call (.Name "range" p') [e2] [] pos') X.env)]:=by rfl) :
  PE X (.Call (.Name "list" p) [.Call (.Name "range" p') [e2] [] pos'] [] pos) (uY ta):=by
 intro pins s σ H Q I h;refine CQ (fS I hg hm dS (Bw ?_ hs3 rfl));rw [hs3];show wpAny _ _ (spliced ((false,eval (.Call (.Name "range" p') [e2] [] pos') X.env)::backTo pos [])) _ _ s;refine DF ?_;refine Call_ (fS I hg' hm' boot_range (Bw (thn (ha pos' pins s σ H _ I h) λus s1 ⟨vs,H1,I1,r1,q1⟩=>?_) hs rfl));obtain ⟨j,e,⟨q3,q4⟩,hn,q⟩:=q1;subst e;cases r1 with
 |cons r' rr=>
  cases rr;obtain ⟨t',rfl⟩:=r';refine call_range_1 (EC ?_);have I2:Inv X pins σ H1 { s1 with heap:=s1.heap.push { cls:=.type "range",data:=.fields #[.int 0 s1.toks,.int j t',.int 1 (s1.toks+1)] },toks:=s1.toks+1+1 }:=I1.kept λb o e=>Ad _ e;refine call_list_range (n:=j.toNat) (I2.ok.hd hc) (IsRange.new ..) (small_one (by decide) (by decide) q3 q4) (by rw [rangeSize_one];split<;>omega) (by omega) λh' tk acc' c' hk hS' hacc=>?_;refine ⟨.ref _,_,I2.laid (o:=.lst (rngV 0 j.toNat)) hk (Aj _) ?_,rfl,q _ (I2.hok.fresh (Aj _))⟩;exact ⟨by rw [dU];exact bV hn,acc'.toList,c',aAw hacc,hS'⟩
end L2
namespace K52
open PySem PySem.Spec PyProof.Rows L2 GM TM
def intL (ps:List Nat):List V:=ps.map λp=>.int ((p:Nat):Int)
theorem dW {ps:List Nat}:(intL ps).length=ps.length:=Af ..
def eR {ps:List Nat}{i:Nat}{v:V}(h:(intL ps)[i]?=some v):∃ p:Nat,ps[i]?=some p/\v=.int ((p:Nat):Int):=by
 unfold intL at h;rw [Ao] at h;obtain ⟨p,h1,h2⟩:=AO.mp h;exact ⟨p,h1,h2.symm⟩
theorem uE (n:Nat):rngV 0 n=intL (AF n):=by
 apply Ci
 intro i;unfold intL;rw [Ao]
 by_cases h:i<n
 ·rw [Ff h,Ac (by rw [dU];exact h)]
  obtain ⟨_,e⟩:=lJ (Ac (l:=rngV 0 n) (i:=i) (by rw [dU];exact h));rw [e];show some (V.int (0+(i:Int)))=some (V.int (i:Int));rw [Int.zero_add]
 ·rw [Ax (by rw [dU];omega),Ax (by rw [ED];omega)]
  rfl
theorem pY {ps:List Nat}{p:Nat}:(intL ps).filter (λv=>!decide (v=.int ((p:Nat):Int)))=intL (ps.filter λx=>!decide (x=p)):=by
 induction ps with
 |nil=>rfl
 |cons a r ih=>
  show (V.int ((a:Nat):Int)::intL r).filter _=_
  by_cases e:a=p
  ·subst e
   rw [Dh,if_neg (by simp),Dh,if_neg (by simp),ih]
  ·rw [Dh,if_pos (by simp;omega),Dh,if_pos (by simp [e]),ih]
   rfl
theorem aB6:∀ (xs ys:List Nat),((AF (min (intL xs).length (intL ys).length)).all (λj=>decide (xs[j]?=ys[j]?))&&(intL xs).length==(intL ys).length)=decide (xs=ys):=by
 intro xs ys;rw [dW,dW]
 by_cases e:xs=ys
 ·subst e
  simp
 ·rw [decide_eq_false e]
  by_cases l:xs.length=ys.length
  ·have:¬ ((AF (min xs.length ys.length)).all (λj=>decide (xs[j]?=ys[j]?)))=true:=by
    intro h;rw [Cf] at h;refine e (Ci λi=>?_)
    by_cases hi:i<xs.length
    ·exact of_decide_eq_true (h i (Cp.mpr (by omega)))
    ·rw [Ax (by omega),Ax (by omega)]
   rw [EL];exact .inl (by simpa using this)
  ·rw [EL]
   exact .inr (by simpa using l)
inductive rNeI (K:Ab)(x y:V)(H:Hp)(Q:VK):Prop
 |mk (a b:Addr) (xs ys:List Nat) (e1:x=.ref a) (e2:y=.ref b) (h1:SqL K H a (intL xs)) (h2:SqL K H b (intL ys)) (q:Q (.bl (!decide (xs=ys))) H):rNeI K x y H Q
def nG {X:Cx}(hu:X.A.units+64<cLine):OpR X (Bl .NotEq) (rNeI X.K):=by
 intro pins s σ H x y v u Q I rx ry h;obtain ⟨a,b,xs,ys,rfl,rfl,hx,hy,q⟩:=h;refine aCu hu pins s σ H _ _ v u Q I rx ry ⟨a,b,_,_,λj=>decide (xs[j]?=ys[j]?),rfl,rfl,hx,hy,λj u1 v1 h1 h2=>?_,?_⟩
 ·obtain ⟨p,hp,rfl⟩:=eR h1
  obtain ⟨p',hp',rfl⟩:=eR h2;show DEq X.K H 40 (.int ((p:Nat):Int)) (.int ((p':Nat):Int)) (decide (xs[j]?=ys[j]?));rw [hp,hp'];have d:DEq X.K H 40 (.int ((p:Nat):Int)) (.int ((p':Nat):Int)) (eqV (.int ((p:Nat):Int)) (.int ((p':Nat):Int))):=.flat rfl rfl;have e:eqV (.int ((p:Nat):Int)) (.int ((p':Nat):Int))=decide (some p=some p'):=by
   rw [CC];simp [eqV];omega
  rw [e] at d;exact d
 ·rw [aB6]
  exact q
def selV (rv:List V)(ps:List Nat):List V:=ps.map λp=>rv.getD p .non
theorem RwsV.sel {H H':Hp}{l l':Addr}{rws:List Rw}{rv:List V}{pl:List Nat}(h:RwsV H l rws rv)(s:Same H H')(lt:∀ p∈pl,p<rws.length)(hl:H' l'=some (.lst (selV rv pl))):RwsV H' l' (sel rws pl) (selV rv pl):=by
 refine ⟨hl,by unfold selV K52.sel;rw [Af,Af],λi v r hv hr=>?_⟩;unfold selV at hv;unfold K52.sel at hr;rw [Ao] at hv hr;obtain ⟨p,hp,rfl⟩:=AO.mp hv;rw [hp] at hr;cases hr;have hl:=lt p (Al hp);have hl2:p<rv.length:=by rw [h.ln];exact hl
 obtain ⟨a,e,q⟩:=h.at' p _ _ (Ac hl2) (Ac hl);refine ⟨a,?_,?_⟩
 ·show rv.getD p .non=_
  rw [BI,Ac hl2];exact e
 ·show RwV H' a (rws.getD p _)
  rw [BI,Ac hl];exact q.keep s
def oU {rv:List V}{pl:List Nat}{ys:List V}(yl:ys.length=(intL pl).length)(hy:∀ (i:Nat) x y,(intL pl)[i]?=some x->ys[i]?=some y->∃ p:Nat,pl[i]?=some p/\rv[p]?=some y):ys=selV rv pl:=by
 apply Ci
 intro i;unfold selV;rw [Ao]
 by_cases h:i<ys.length
 ·obtain ⟨p,hp,hr⟩:=hy i _ _ (Ac (by rw [<- yl];exact h)) (Ac h)
  rw [hp,Ac h];show _=some (rv.getD p .non);rw [BI,hr];rfl
 ·rw [Ax (by omega),Ax (by rw [dW] at yl;omega)]
  rfl
def ndOP:(["one","place"]:List Str).Nodup:=by decide +kernel
def ndOR:(["one","rows"]:List Str).Nodup:=by decide +kernel
def ndPR:(["place","rows"]:List Str).Nodup:=by decide +kernel
inductive spNeeded (vs:List V)(H:Hp)(Q:VK)(E0:XK):Prop
 |mk (b r q ph rl rs us ps rbs ws M S β rws rv g M0 d0 wv:_) (e0:vs=[.ref b,.ref ph,.ref rl,.int ((g:Nat):Int),wv]) (e1:WIn H b r q ph rl rs us ps rbs ws M S β rws rv) (hy:Yes us ps rbs ws M S g M0 d0 rws) (hw:PhA H M0 wv d0) (m0:0<M0) (hg:g<rbs.length) (kk:∀ pa pl H',Same H H'->H pa=none->H' pa=some (.lst (intL pl))->Plc rws.length pl->Yes us ps rbs ws M S g M0 d0 (sel rws pl)->Fix us ps rbs ws M S g M0 d0 rws pl->Q (.ref pa) H'):spNeeded vs H Q E0
section
variable {P:Av}{w:World}{K:Ab}{mg:Str->Option Value}{base:Heap}
abbrev aFt:List Str:=["bench","phials","rows","goal","wanted","places","before","place","others"]
def eZ:FnScope aFt ["bench","phials","rows","goal","wanted"] (aG gA):=fnScOk (by decide +kernel)
def xM {f:Addr}{fd:Az}(F:Fun K "places_needed" "places_needed" gA f fd)(T:Txt mg)(cL:Cal P w K mg base CX0 10 "leaves_as" ["bench","phials","rows","goal","wanted"] spLeaves):FnOk P w K mg base CX0 11 f fd ["bench","phials","rows","goal","wanted"] spNeeded:=by
 refine F.ok eZ (λvs H Q E h=>?_) (λcdv A outer s H vs Q E hr h=>?_)
 ·obtain ⟨_,_,_,_,_,_,_,_,_,_,_,_,_,_,_,_,_,_,_,rfl,_⟩:=h
  rfl
 ·obtain ⟨b,r,q,ph,rl,rs,us,ps,rbs,ws,M,S,β,rws,rv,g,M0,d0,wv,rfl,wi,hyes,hw,m0,hg,k⟩:=h
  refine ⟨_,(aD (aL (i:=5) eZ.nd rfl (Or.inl rfl) (pN rfl rfl T.list' rfl T.range (aA (aU aY rfl T.len Bu (aA (pv 2) aC)) aC)))
   (aD (aL (i:=6) eZ.nd rfl (Or.inl rfl) (dP aC))
   (aD (lM AJ (aM (nG hr.units) (pv 5) (pv 6) (aV _))
    (aD (aL (i:=6) eZ.nd rfl (Or.inl rfl) (pv 5))
    (aE (cJ AJ rfl (aEj rfl T.rev' (aA (pv 6) aC)) (aS (i:=7) eZ.nd rfl (Or.inr rfl))
     (aD (lN (iy:=8) (N':=["one","place"]) (λσ=>[none,some 7].map λt=>t.bind λj=>(σ[j]?).join) rfl rfl (by decide +kernel) (by decide +kernel)
      (iG (sc:=aG gA) rfl (by decide +kernel)) (λ_ _ _=>eA (sc:=aG gA) (N:=aFt) [none,some 7] rfl rfl rfl rfl (by decide +kernel))
      (fN (pv 5)) (λ_ _ _ _ _ _=>aS (i:=0) ndOP rfl (Or.inl rfl))
      (λ_ _ _ _ _ _=>lO (aM pP (pv 0) (pv 1) (aV _)))
      (λ_ _ _ _ _ _=>pv 0) eZ.nd rfl (Or.inl rfl) (Or.inr rfl) rfl)
     (aE (bF (dA (aJ cL hr rfl aR (aA (pv 0) (aA (pv 1) (aA (eC (N':=["one","rows"]) (λσ=>[none,some 2].map λt=>t.bind λj=>(σ[j]?).join) rfl rfl (by decide +kernel) (by decide +kernel)
       (iG (sc:=aG gA) rfl (by decide +kernel)) (λ_ _ _=>eA (sc:=aG gA) (N:=aFt) [none,some 2] rfl rfl rfl rfl (by decide +kernel))
       (fN (pv 8)) (λ_ _ _ _ _ _=>aS (i:=0) ndOR rfl (Or.inl rfl)) (λ_ _ _ _ _ _=>dM)
       (λ_ _ _ _ _ _=>bC (iM (K:=K) rfl) (pv 1) (pv 0) (λ_ _=>rfl))) (aA (pv 3) (aA (pv 4) aC)))))))
      (aE (aL (i:=5) eZ.nd rfl (Or.inl rfl) (pv 8)))
      aQ)))))))
   (aE (aK (pv 5)))))),?_⟩
  have l60:=wi.l60;have rln:=wi.rw'.ln;refine cut3 ?_
  intros
  refine ⟨_,rfl,rl,_,rfl,.inl (SqL.of wi.rw'.hl),_,rfl,by omega,by omega,λpa0 npa=>?_⟩;have s1:=Same.upd (o:=.lst (rngV 0 ((rv.length:Nat):Int).toNat)) npa;have hpa:upd H pa0 (.lst (rngV 0 ((rv.length:Nat):Int).toNat)) pa0=some (.lst (intL (AF rws.length))):=by
   rw [aB,Cm,uE,rln]
  generalize upd H pa0 (.lst (rngV 0 ((rv.length:Nat):Int).toNat))=H1 at s1 hpa ⊢;refine ⟨zLn0,λba0 nba=>?_⟩;have s2:=Same.upd (o:=.lst []) nba;have hba:upd H1 ba0 (.lst []) ba0=some (.lst (intL [])):=aB;generalize upd H1 ba0 (.lst [])=H2 at s2 hba ⊢;refine ⟨λm σ H'=>∃ (pa ba:Addr) (pl bs:List Nat) (v7 v8:Option V),σ=[some (.ref b),some (.ref ph),some (.ref rl),some (.int ((g:Nat):Int)),some wv,some (.ref pa),some (.ref ba),v7,v8]/\Same H H'/\H pa=none/\H' pa=some (.lst (intL pl))/\H' ba=some (.lst (intL bs))/\Plc rws.length pl/\Yes us ps rbs ws M S g M0 d0 (sel rws pl)/\(bs=pl->Fix us ps rbs ws M S g M0 d0 rws pl)/\m=if pl=bs then 0 else pl.length+1,
   ⟨_,pa0,ba0,_,[],none,none,rfl,s1.trans s2,npa,s2 _ _ hpa,hba,.range,by rw [aDu];exact hyes,(λe=>by rw [<- e];exact λk hk=>absurd hk (Nat.not_lt_zero k)),rfl⟩,?_⟩
  rintro m σ H3 ⟨pa,ba,pl,bs,v7,v8,rfl,s3,npa,hpa3,hba3,plc,yes,fx,rfl⟩
  refine ⟨_,rfl,_,rfl,pa,ba,pl,bs,rfl,rfl,SqL.of hpa3,SqL.of hba3,?_⟩
  by_cases e:pl=bs
  ·refine ⟨_,rfl,?_⟩
   rw [decide_eq_true e];exact iteF ⟨_,rfl,k pa pl H3 s3 npa hpa3 plc yes (fx e.symm)⟩
  refine ⟨_,rfl,?_⟩;rw [decide_eq_false e,if_neg e];refine iteT ⟨_,λ_ _ h=>h,_,rfl,?_⟩;have nl:=plc.len;refine ⟨_,rfl,pa,_,rfl,SqL.of hpa3,?_⟩;refine yU (xs:=intL pl) (λi σ H'=>∃ (ca:Addr) (cs:List Nat) (v7 v8:Option V),σ=[some (.ref b),some (.ref ph),some (.ref rl),some (.int ((g:Nat):Int)),some wv,some (.ref ca),some (.ref pa),v7,v8]/\Same H3 H'/\H ca=none/\H' ca=some (.lst (intL cs))/\Plc rws.length cs/\Yes us ps rbs ws M S g M0 d0 (sel rws cs)/\(cs=pl\/cs.length<pl.length)/\(cs=pl->∀ k,pl.length-i<=k->k<pl.length->No us ps rbs ws M S g M0 d0 (sel rws (pl.eraseIdx k))))
   ⟨pa,pl,v7,v8,rfl,Same.refl _,npa,hpa3,plc,yes,.inl rfl,λ_ k h1 h2=>by omega⟩ (λi σ H' _ hh=>by obtain ⟨_,_,_,_,_,sm,_⟩:=hh;exact SqL.of (sm _ _ hpa3)) ?_ ?_
  rotate_left
  ·intro σ H4 hh
   obtain ⟨ca,cs,v7,v8,rfl,s4,nca,hca,cpl,cyes,cl,cno⟩:=hh;refine ⟨if cs=pl then 0 else cs.length+1,?_,ca,pa,cs,pl,v7,v8,rfl,s3.trans s4,nca,hca,s4 _ _ hpa3,cpl,cyes,λe k hk=>?_,rfl⟩
   ·split
    ·omega
    ·have:=cl.resolve_left (by assumption)
     omega
   ·subst e
    rw [dW] at cno;exact cno rfl k (by omega) hk
  intro i x σ H4 D' hN hi hx hh;obtain ⟨ca,cs,v7,v8,rfl,s4,nca,hca,cpl,cyes,cl,cno⟩:=hh;rw [dW] at hi hx;obtain ⟨p,hp,rfl⟩:=eR hx;dsimp only [gName];have cn:=cpl.len;refine ⟨_,rfl,ca,rfl,⟨_,SqL.of hca⟩,λD hD=>?_⟩;refine jV (Ys.list (SqL.of hca)) (λv=>!decide (v=.int ((p:Nat):Int))) (λx y _=>y=x) (λ_ _ _ _ h _=>h) hD (by rw [dW];omega) (λi' v H' R1 R2 hv' sm r1 r2=>?_) (λys H5 s5 hD5 yl hy=>?_)
  ·obtain ⟨p',hp',rfl⟩:=eR hv'
   refine ⟨(Keep.refl _).set rfl,_,rfl,_,rfl,rfl,_,rfl,ite2 (λh1=>?_) (λh1=>?_)⟩
   ·exact ⟨_,rfl,r1 h1 _ _ (Same.refl _) rfl⟩
   ·exact r2 (by simpa using h1) _ (Same.refl _)
  have ey:ys=intL (cs.filter λx=>!decide (x=p)):=by
   rw [<- pY]
   apply Ci
   intro j
   by_cases hj:j<ys.length
   ·have h1:=Ac hj
    have h2:=Ac (l:=(intL cs).filter (λv=>!decide (v=.int ((p:Nat):Int)))) (i:=j) (by rw [<- yl];exact hj);rw [h1,h2,hy j _ _ h2 h1]
   ·rw [Ax (by omega),Ax (by omega)]
  have nD:H D=none:=sm0 (s3.trans s4) hD;have opl:Plc rws.length (cs.filter λx=>!decide (x=p)):=cpl.filter;have pm:p∈pl:=Al hp;have ol:(cs.filter λx=>!decide (x=p)).length<pl.length:=by
   rcases cl with e|e
   ·subst e
    rw [fT cpl.nd hp,List.length_eraseIdx,if_pos (by omega)];omega
   ·exact Dl (List.length_filter_le ..) e
  have on:=opl.len;have oe:cs=pl->(cs.filter λx=>!decide (x=p))=pl.eraseIdx (pl.length-1-i):=λe=>by
   subst e;exact fT cpl.nd hp
  subst ey;generalize (cs.filter λx=>!decide (x=p))=os at hD5 opl ol on oe yl hy;have s35:=s4.trans s5;have s05:=s3.trans s35;refine ⟨_,rfl,_,rfl,_,rfl,D,rfl,⟨_,SqL.of hD5⟩,λD2 hD2=>?_⟩;refine eD (Ys.list (SqL.of hD5)) (λi _ y _=>∃ p:Nat,os[i]?=some p/\rv[p]?=some y) (λ_ _ _ _ _ h _=>h) hD2 (by rw [dW];omega) (λi' v H' R hv' sm hR=>?_) (λzs H6 s6 hD6 zl hz=>?_)
  ·obtain ⟨p',hp',rfl⟩:=eR hv'
   have lt:p'<rv.length:=by rw [rln];exact opl.lt p' (Al hp')
   exact ⟨(Keep.refl _).set rfl,_,rfl,_,rfl,rl,rv,_,_,rfl,rfl,SqL.of (((s05.trans sm)) _ _ wi.rw'.hl),bA (Ac lt),hR _ _ (Same.refl _) ⟨p',hp',Ac lt⟩⟩
  have ez:=oU zl hz;subst ez;have s06:=s05.trans s6;have w6:WIn H6 b r q ph D2 rs us ps rbs ws M S β (sel rws os) (selV rv os):=⟨wi.on.keep s06,wi.rw'.sel s06 opl.lt hD6,aCi wi.gd opl.lt,by unfold sel;rw [Af];omega,by unfold sel;rw [Af];have:=wi.bl;omega⟩;obtain ⟨o,en⟩:=Ends.ex (H:=H6) w6.on.bs.bn.pt w6.on.bs.rp.2 w6.on.so w6.gd;refine ⟨_,rfl,_,rfl,b,r,q,ph,D2,rs,us,ps,rbs,ws,M,S,β,_,_,o,g,M0,d0,wv,rfl,w6,en,hw.keep s06,m0,hg,λx H7 s7 hx=>⟨_,rfl,?_⟩⟩;have s37:=(s35.trans s6).trans s7;have c7:∀ {c:Addr} {o:HO},H5 c=some o->H7 c=some o:=λh=>(s6.trans s7) _ _ h;cases x with
  |true=>exact iteT ⟨_,rfl,hN _ _ ⟨D,os,_,_,rfl,s37,nD,c7 hD5,opl,⟨o,en,hx.mp rfl⟩,.inr ol,λe=>by rw [e] at ol;omega⟩⟩
  |false=>
   refine iteF (hN _ _ ⟨ca,cs,_,_,rfl,s37,nca,c7 (s5 _ _ hca),cpl,cyes,cl,λe k h1 h2=>?_⟩)
   by_cases ek:k=pl.length-1-i
   ·rw [ek,<- oe e]
    exact ⟨o,en,λh=>by have:=hx.mpr h;cases this⟩
   ·exact cno e k (by omega) h2
end
end K52
namespace K52
open PySem PySem.Spec PyProof.Rows L2 GM TM TR
def aG3 {P:Av}{w:World}{X:Cx}:gU (CXg P w) X E0:=λ_ _ _ _ _ _ _ h=>by
 obtain ⟨_,_,_,_,_,_,h⟩:=h;exact h.elim
def RwV.tk {H H':Hp}{a:Addr}{r:Rw}(s:Tk H H')(h:RwV H a r):RwV H' a r:=by
 cases r with
 |draw i x t b=>obtain ⟨q,h1,h2⟩:=h;exact ⟨q,s _ _ h1,s _ _ h2⟩
 |fill i x t b=>obtain ⟨q,h1,h2⟩:=h;exact ⟨q,s _ _ h1,s _ _ h2⟩
 |pour i j t b=>obtain ⟨q,h1,h2⟩:=h;exact ⟨q,s _ _ h1,s _ _ h2⟩
 |empty i=>exact s _ _ h
 |rinse i=>exact s _ _ h
def StV.tk {H H':Hp}{l:Addr}{M:Int}{S:List PF}(h:StV H l M S)(t:Tk H H')(hl:∀ o,H l=some o->H' l=some o):StV H' l M S:=by
 obtain ⟨vs,h1,h2,h3⟩:=h;exact ⟨vs,hl _ h1,h2,λi v d hv hd=>by
  obtain ⟨a,m,n,us,ys,e,p1,p2,p3,p4,p5⟩:=h3 i v d hv hd;exact ⟨a,m,n,us,ys,e,t _ _ p1,t _ _ p2,p3.keep t,p4,t _ _ p5⟩⟩
def RwsV.push {H:Hp}{l z:Addr}{rws:List Rw}{rv:List V}{r:Rw}(h:RwsV H l rws rv)(hz:RwV H z r):RwsV (upd H l (.lst (rv++[.ref z]))) l (rws++[r]) (rv++[.ref z]):=by
 have tk:Tk H (upd H l (.lst (rv++[.ref z]))):=Tk.lst h.hl;refine ⟨aB,by rw [Ay,Ay,h.ln];rfl,λi v r' hv hr=>?_⟩
 by_cases hi:i<rv.length
 ·rw [Cb hi] at hv
  rw [Cb (by rw [<- h.ln];exact hi)] at hr;obtain ⟨a,e,q⟩:=h.at' i v r' hv hr;exact ⟨a,e,q.tk tk⟩
 ·rw [BH (by omega)] at hv
  rw [BH (by rw [<- h.ln];omega),<- h.ln] at hr;obtain ⟨hl,e⟩:=Ae.mp hv;simp at hl;rw [hl] at hv hr;cases hv;cases hr;exact ⟨z,rfl,hz.tk tk⟩
inductive spThinned (vs:List V)(H:Hp)(Q:VK)(E0:XK):Prop
 |mk (b r q ph rl rs us ps rbs ws M S β rws rv g M1 S1 d1:_) (e0:vs=[.ref b,.ref ph,.ref rl,.int ((g:Nat):Int)]) (e1:WIn H b r q ph rl rs us ps rbs ws M S β rws rv) (en:Ends us ps rbs ws M S rws (some (M1,S1))) (hd:S1[g]?=some d1) (m1:0<M1) (kk:∀ t xa pa pl H',Same H H'->H xa=none->H pa=none->xa≠pa->H' t=some (.tup [.ref xa,.ref pa])->RwsV H' xa (sel rws pl) (selV rv pl)->H' pa=some (.lst (intL pl))->Plc rws.length pl->Yes us ps rbs ws M S g M1 d1 (sel rws pl)->Fix us ps rbs ws M S g M1 d1 rws pl->Q (.ref t) H'):spThinned vs H Q E0
inductive spGoes (K:Ab)(vs:List V)(H:Hp)(Q:VK)(E0:XK):Prop
 |mk (sc b wl l r q rs us ps rbs ws M S β:_) (ns:List Int) (st la mo:Nat) (e0:vs=[.ref sc,.ref b,.ref wl,.ref l,.int ((st:Nat):Int),.int ((la:Nat):Int),.int ((mo:Nat):Int)]) (hS:SqL K H sc (ns.map V.int)) (n63:ns.length<=63) (o:OnIn H b r q l rs us ps rbs ws M S β) (wv:WsV H wl ws) (sl:st<=la) (l63:la<=63) (m40:mo<=40) (bb:β+14*mo+14<=2400) (k:∀ t rl l' rws rv M' S' H',Same H H'->H rl=none->H' t=some (.tup [.ref rl,.ref l'])->RwsV H' rl rws rv->rws.length<=mo->GRs rbs.length ws rws->Ends us ps rbs ws M S rws (some (M',S'))->StV H' l' M' S'->l'≠rl->Sok ws rbs M' S' (β+14*rws.length)->Q (.ref t) H'):spGoes K vs H Q E0
section
variable {P:Av}{w:World}{K:Ab}{mg:Str->Option Value}{base:Heap}{c0 c1 c2 c3 c4:Addr}
abbrev aIa:List Str:=["bench","phials","rows","goal","places"]
def mJ:FnScope aIa ["bench","phials","rows","goal"] (aG gG):=fnScOk (by decide +kernel)
def tT {f:Addr}{fd:Az}(F:Fun K "thinned" "thinned" gG f fd)(cW:Cal P w K mg base (CXg P w) 11 "walked" ["bench","phials","rows"] (spWalked c0 c1 c2 c3 c4))(cN:Cal P w K mg base CX0 11 "places_needed" ["bench","phials","rows","goal","wanted"] spNeeded):FnOk P w K mg base CX0 12 f fd ["bench","phials","rows","goal"] spThinned:=by
 refine F.ok mJ (λvs H Q E h=>?_) (λcdv A outer s H vs Q E hr h=>?_)
 ·obtain ⟨_,_,_,_,_,_,_,_,_,_,_,_,_,_,_,_,_,_,_,rfl,_⟩:=h
  rfl
 ·obtain ⟨b,r,q,ph,rl,rs,us,ps,rbs,ws,M,S,β,rws,rv,g,M1,S1,d1,rfl,wi,en,hd,m1,k⟩:=h
  refine ⟨_,(aD (aL (i:=4) mJ.nd rfl (Or.inl rfl) (aJ cN hr rfl aR (aA (pv 0) (aA (pv 1) (aA (pv 2) (aA (pv 3) (aA (bC bB (aJ cW hr rfl aG3 (aA (pv 0) (aA (pv 1) (aA (pv 2) aC)))) (pv 3) (λ_ _=>rfl)) aC)))))))
   (aE (aK (aW (aA (eC (N':=["place","rows"]) (λσ=>[none,some 2].map λt=>t.bind λj=>(σ[j]?).join) rfl rfl (by decide +kernel) (by decide +kernel)
       (iG (sc:=aG gG) rfl (by decide +kernel)) (λ_ _ _=>eA (sc:=aG gG) (N:=aIa) [none,some 2] rfl rfl rfl rfl (by decide +kernel))
       (fN (pv 4)) (λ_ _ _ _ _ _=>aS (i:=0) ndPR rfl (Or.inl rfl)) (λ_ _ _ _ _ _=>dM)
       (λ_ _ _ _ _ _=>bC (iM (K:=K) rfl) (pv 1) (pv 0) (λ_ _=>rfl))) (aA (pv 4) aC)))))),?_⟩
  have l60:=wi.l60;have rln:=wi.rw'.ln;have gl:g<rbs.length:=by
   have:=Ends.sok wi.on.bs.rp.2 en wi.on.so wi.gd M1 S1 rfl;rw [<- this.sl];exact (Ae.mp hd).1
  refine ⟨_,rfl,_,rfl,_,rfl,_,rfl,_,rfl,_,rfl,_,rfl,b,r,q,ph,rl,rs,us,ps,rbs,ws,M,S,β,rws,rv,_,rfl,wi,en,?_,(λe=>nomatch e)⟩;intro M' S' e l1 H1 s1 st1 so1;cases e;obtain ⟨vs,v,hl,vl,hv,pa1⟩:=st1.get hd;refine ⟨_,rfl,l1,vs,_,v,rfl,rfl,SqL.of hl,bA hv,?_⟩;refine ⟨b,r,q,ph,rl,rs,us,ps,rbs,ws,M,S,β,rws,rv,g,M1,d1,v,rfl,wi.keep s1,⟨_,en,d1,hd,λy=>rfl,λn h=>h⟩,pa1,m1,gl,λpa pl H2 s2 npa hpa plc yes fx=>?_⟩;have s02:=s1.trans s2;have npl:=plc.len;refine ⟨_,rfl,pa,rfl,⟨_,SqL.of hpa⟩,λD hD=>?_⟩;refine eD (Ys.list (SqL.of hpa)) (λi _ y _=>∃ p:Nat,pl[i]?=some p/\rv[p]?=some y) (λ_ _ _ _ _ h _=>h) hD (by rw [dW];omega) (λi' v H' R hv' sm hR=>?_) (λzs H3 s3 hD3 zl hz=>?_)
  ·obtain ⟨p',hp',rfl⟩:=eR hv'
   have lt:p'<rv.length:=by rw [rln];exact plc.lt p' (Al hp')
   exact ⟨(Keep.refl _).set rfl,_,rfl,_,rfl,rl,rv,_,_,rfl,rfl,SqL.of ((s02.trans sm) _ _ wi.rw'.hl),bA (Ac lt),hR _ _ (Same.refl _) ⟨p',hp',Ac lt⟩⟩
  have ez:=oU zl hz;subst ez;have s03:=s02.trans s3;refine ⟨_,rfl,zLn2,λt nt=>?_⟩;have s4:=Same.upd (o:=.tup [.ref D,.ref pa]) nt;exact k t D pa pl _ (s03.trans s4) (sm0 s02 hD) (sm0 s1 npa) (λe=>by rw [e,hpa] at hD;cases hD) aB (wi.rw'.sel (s03.trans s4) plc.lt (s4 _ _ hD3)) ((s3.trans s4) _ _ hpa) plc yes fx
abbrev aJo:List Str:=["_law_script","_law_bench","_law_wares_here","_law_state","_law_start","_law_last","_law_most","_law_rows","_law_k","_law_row_here","_law_refusal","_law_found"]
def iW:FnScope aJo ["_law_script","_law_bench","_law_wares_here","_law_state","_law_start","_law_last","_law_most"] (aG pG):=fnScOk (by decide +kernel)
def aE4 {f:Addr}{fd:Az}(F:Fun K "_law_goes_on" "_law_goes_on" pG f fd)(T:Txt mg)(cA:Cal P w K mg base CX0 6 "_law_after" ["_law_bench","_law_state","_law_row_here"] (spAfter K))(cR:Cal P w K mg base CX0 6 "_law_row" ["_law_bench","_law_wares_here","_law_script","_law_k"] (aGg K)):FnOk P w K mg base CX0 7 f fd ["_law_script","_law_bench","_law_wares_here","_law_state","_law_start","_law_last","_law_most"] (spGoes K):=by
 refine F.ok iW (λvs H Q E h=>?_) (λcdv A outer s H vs Q E hr h=>?_)
 ·obtain ⟨_,_,_,_,_,_,_,_,_,_,_,_,_,_,_,_,_,_,rfl,_⟩:=h
  rfl
 ·obtain ⟨sc,b,wl,l,r,q,rs,us,ps,rbs,ws,M,S,β,ns,st,la,mo,rfl,hS,n63,on,wv,sl,l63,m40,bb,k⟩:=h
  refine ⟨_,(aD (aL (i:=7) iW.nd rfl (Or.inl rfl) (dP aC))
   (aD (cJ AJ rfl (jG rfl T.range (aA (pv 4) (aA (aU (zO rfl) rfl T.min' boot_min (aA (aU aY rfl T.len Bu (aA (pv 0) aC)) (aA (pv 5) aC))) aC))) (aS (i:=8) iW.nd rfl (Or.inl rfl))
    (aD (aL (i:=9) iW.nd rfl (Or.inl rfl) (aJ cR hr rfl aR (aA (pv 1) (aA (pv 2) (aA (pv 0) (aA (pv 8) aC))))))
    (aD (gI (aJ cA hr rfl aR (aA (pv 1) (aA (pv 3) (aA (pv 9) aC)))) (fO rfl (bE (aS (i:=10) iW.nd rfl (Or.inl rfl)) (bE (aS (i:=11) iW.nd rfl (Or.inl rfl)) eF))))
    (aE (bF (PW.pt (kJ (aM wW (pv 10) dO (aV _)) (hV (aM wV (aU aY rfl T.len Bu (aA (pv 7) aC)) (pv 6) (aV _)))))
     (aD (aL (i:=3) iW.nd rfl (Or.inl rfl) (pv 11))
     (aE (dJ (lQ BG BD BC cQ (pv 7) (aA (pv 9) aC)))))
     aQ)))))
   (aE (aK (aW (aA (pv 7) (aA (pv 3) aC))))))),?_⟩
  refine cut3 ?_
  intros
  have bs:=on.bs;have l16:=bs.bn.l16;have rl':=bs.rm.1;have rp:=bs.rp.2;refine ⟨zLn0,λrl nrl=>?_⟩;have s1:=Same.upd (o:=.lst []) nrl;have hrl:upd H rl (.lst []) rl=some (.lst []):=aB;generalize upd H rl (.lst [])=H1 at s1 hrl ⊢;obtain ⟨vs0,hl0,_⟩:=on.st.ex;have lr:l≠rl:=aZ hl0 nrl;refine ⟨_,rfl,_,rfl,sc,_,rfl,.inl (s1.seq hS),_,rfl,_,_,rfl,_,_,rfl,⟨by omega,by omega,by split<;>omega,by split<;>omega⟩,?_⟩;have sm:∀ {H':Hp},(∀ c o,c≠rl->H1 c=some o->H' c=some o)->Same H H':=λfx c o h=>fx c o (aZ h nrl) (s1 _ _ h);refine eV (λi σ H'=>∃ (l':Addr) (rws:List Rw) (rv:List V) (M':Int) (S':List PF) (v8 v9 v10 v11:Option V),σ=[some (.ref sc),some (.ref b),some (.ref wl),some (.ref l'),some (.int ((st:Nat):Int)),some (.int ((la:Nat):Int)),some (.int ((mo:Nat):Int)),some (.ref rl),v8,v9,v10,v11]/\(∀ c o,c≠rl->H1 c=some o->H' c=some o)/\StV H' l' M' S'/\l'≠rl/\RwsV H' rl rws rv/\rws.length<=mo/\GRs rbs.length ws rws/\Ends us ps rbs ws M S rws (some (M',S'))/\Sok ws rbs M' S' (β+14*rws.length)) ⟨l,[],[],M,S,none,none,none,none,rfl,λ_ _ _ h=>h,on.st.keep s1,lr,⟨hrl,rfl,λi v r h=>by simp at h⟩,Bi _,(λr hr=>nomatch hr),.nil,on.so⟩ ?_ ?_
  rotate_left
  ·intro σ H4 hh
   obtain ⟨l',rws,rv,M',S',v8,v9,v10,v11,rfl,fx,st4,ne,rw4,rm,gr,en,so⟩:=hh;refine ⟨_,rfl,_,rfl,zLn2,λt nt=>?_⟩;have s5:=Same.upd (o:=.tup [.ref rl,.ref l']) nt;exact k t rl l' rws rv M' S' _ ((sm fx).trans s5) nrl aB (rw4.keep s5) rm gr en (st4.keep s5) ne so
  intro i σ H4 D' hN hi hh;obtain ⟨l',rws,rv,M',S',v8,v9,v10,v11,rfl,fx,st4,ne,rw4,rm,gr,en,so⟩:=hh;have ki:st+i<ns.length/\st+i<la:=by
   have h2:i<((if ((la:Nat):Int)<(((ns.map V.int).length:Nat):Int) then ((la:Nat):Int) else (((ns.map V.int).length:Nat):Int))-((st:Nat):Int)).toNat:=hi;rw [Af] at h2;split at h2<;>omega
  have ek:((st:Nat):Int)+(i:Int)=((st+i:Nat):Int):=by omega
  rw [ek];have s4:=sm fx;have bn:BnV H4 b rs.length:=⟨r,_,rs,s4 _ _ bs.bn.hp,s4 _ _ bs.bn.hr,rfl⟩;refine ⟨_,rfl,_,rfl,_,rfl,_,rfl,b,wl,sc,rs.length,ws,ns,st+i,rfl,bn,bs.bn.l1,l16,⟨s4 _ _ wv.1,wv.2⟩,s4.seq hS,ki.1,by omega,λz H5 s5 gr5=>?_⟩;obtain ⟨rw',rvz,gd,l100⟩:=gr5.good;have s05:=s4.trans s5;have bs5:=bs.keep s05;have o5:OnIn H5 b r q l' rs us ps rbs ws M' S' (β+14*rws.length):=⟨bs5,st4.keep s5,so,by omega⟩;obtain ⟨o,ro⟩:=aCo (H:=H5) (us:=us) (ps:=ps) (rbs:=rbs) (ws:=ws) (M:=M') (S:=S') bs5.bn.pt (by rw [so.sl,<- rl']) (by omega) gd;refine ⟨_,rfl,_,rfl,_,rfl,b,r,q,l',z,rs,us,ps,rbs,ws,M',S',_,rw',rfl,o5,rvz,gd,ro.l ?_⟩;have nxt:∀ {H6:Hp},Same H5 H6->∀ v8 v9 v10 v11,D'.nx [some (.ref sc),some (.ref b),some (.ref wl),some (.ref l'),some (.int ((st:Nat):Int)),some (.int ((la:Nat):Int)),some (.int ((mo:Nat):Int)),some (.ref rl),v8,v9,v10,v11] H6:=λs6 v8 v9 v10 v11=>hN _ _ ⟨l',rws,rv,M',S',v8,v9,v10,v11,rfl,λc o a h=>(s5.trans s6) _ _ (fx c o a h),(st4.keep s5).keep s6,ne,(rw4.keep s5).keep s6,rm,gr,en,so⟩;cases o with
  |inl f=>
   intro zz t3 H6 s6 hz _;exact ⟨zz,_,rfl,SqT.of hz,rfl,_,_,rfl,_,_,rfl,rfl,_,rfl,rfl,_,rfl,iteF (nxt s6 ..)⟩
  |inr S2=>
   intro zz l2 H6 s6 nl2 hz st6;have rw6:=(rw4.keep s5).keep s6;refine ⟨zz,_,rfl,SqT.of hz,rfl,_,_,rfl,_,_,rfl,rfl,_,rfl,rfl,_,rfl,iteT ⟨_,rfl,rl,_,rfl,.inl (SqL.of rw6.hl),_,rfl,_,_,rfl,rfl,_,rfl,ite2 (λhc=>?_) (λ_=>nxt s6 ..)⟩⟩;have hm:rws.length<mo:=by
    have:((rv.length:Nat):Int)<((mo:Nat):Int):=of_decide_eq_true hc;have:=rw4.ln;omega
   refine ⟨_,rfl,_,rfl,.inl ⟨rfl,_,SqL.of rw6.hl⟩,_,rfl,rl,rv,_,rfl,rfl,rw6.hl,bV (by have:=rw4.ln;omega),?_⟩;have l2r:l2≠rl:=λe=>by rw [e] at nl2;have:=(rw4.keep s5).hl;rw [nl2] at this;cases this
   have tk:Tk H6 (upd H6 rl (.lst (rv++[.ref z]))):=Tk.lst rw6.hl;refine hN _ _ ⟨l2,rws++[rw'],rv++[.ref z],_,S2,_,_,_,_,rfl,λc o a h=>by rw [aI a];exact (s5.trans s6) _ _ (fx c o a h),st6.tk tk λo h=>by rw [aI l2r];exact h,l2r,rw6.push (rvz.keep s6),by rw [Ay];exact hm,λx hx=>?_,en.snoc rfl ro,?_⟩
   ·rcases Bh.mp hx with h|h
    ·exact gr x h
    ·rw [AE.mp h]
     exact ⟨by rw [<- rl'];exact gd,l100⟩
   ·have:=RowO.sok so rp gd (by omega) ro
    rw [Ay,DM,show β+14*(rws.length+1)=β+14*rws.length+14 by omega];exact this
end
def wQ {X:Cx}{K:Ab}(h:X.K=K):OpR X (Bl .NotIn) (rIn K true):=h▸nE
def aJa:(["_law_name","_law_due","_law_goal"]:List Str).Nodup:=by decide +kernel
inductive spEnd (vs:List V)(H:Hp)(Q:VK)(E0:XK):Prop
 |mk (b r q ph rl rs us ps rbs ws M S β rws rv o:_) (e0:vs=[.ref b,.ref ph,.ref rl]) (e1:WIn H b r q ph rl rs us ps rbs ws M S β rws rv) (en:Ends us ps rbs ws M S rws o) (e2:∀ M' S',o=some (M',S')->∀ l' H',Same H H'->StV H' l' M' S'->Sok ws rbs M' S' (β+14*rws.length)->Q (.ref l') H') (e3:o=none->∀ H',Same H H'->Q .non H'):spEnd vs H Q E0
inductive spServes (K:Ab)(vs:List V)(H:Hp)(Q:VK)(E0:XK):Prop
 |mk (b r q ph rl dl rs us ps rbs ws M S β rws rv o g M0 S0 d0:_) (e0:vs=[.ref b,.ref ph,.ref dl,.ref rl,.int ((g:Nat):Int)]) (e1:WIn H b r q ph rl rs us ps rbs ws M S β rws rv) (en:Ends us ps rbs ws M S rws o) (hw:StV H dl M0 S0) (hd:S0[g]?=some d0) (m0:0<M0) (hg:g<rbs.length) (kk:∀ (x:Bool) H',Same H H'->(x=true↔SvO g M0 d0 o)->Q (.bl x) H'):spServes K vs H Q E0
inductive spArePl (vs:List V)(H:Hp)(Q:VK)(E0:XK):Prop
 |mk (pa:Addr) (n:Nat) (pl:List Nat) (e0:vs=[.ref pa,.int ((n:Nat):Int)]) (hp:H pa=some (.lst (intL pl))) (plc:Plc n pl) (kk:∀ H',Same H H'->Q (.bl true) H'):spArePl vs H Q E0
section
variable {P:Av}{w:World}{K:Ab}{mg:Str->Option Value}{base:Heap}
def aAs:FnScope ["_law_bench","_law_state","_law_rows","_law_row_here","_law_refusal"] ["_law_bench","_law_state","_law_rows"] (aG sEnd):=fnScOk (by decide +kernel)
def aHg {f:Addr}{fd:Az}(F:Fun K "_law_end" "_law_end" sEnd f fd)(cA:Cal P w K mg base CX0 6 "_law_after" ["_law_bench","_law_state","_law_row_here"] (spAfter K)):FnOk P w K mg base CX0 7 f fd ["_law_bench","_law_state","_law_rows"] spEnd:=by
 refine F.ok aAs (λvs H Q E h=>?_) (λcdv A outer s H vs Q E hr h=>?_)
 ·obtain ⟨_,_,_,_,_,_,_,_,_,_,_,_,_,_,_,_,rfl,_⟩:=h
  rfl
 ·obtain ⟨b,r,q,ph,rl,rs,us,ps,rbs,ws,M,S,β,rws,rv,o,rfl,wi,en,k,kb⟩:=h
  refine ⟨_,(aD (cJ AJ rfl (fN (pv 2)) (aS (i:=3) aAs.nd rfl (Or.inl rfl))
    (aD (gI (aJ cA hr rfl aR (aA (pv 0) (aA (pv 1) (aA (pv 3) aC)))) (fO rfl (bE (aS (i:=4) aAs.nd rfl (Or.inl rfl)) (bE (aS (i:=1) aAs.nd rfl (Or.inl rfl)) eF))))
    (aE (bF (aM wO (pv 4) dO (aV _)) (aE (aK dO)) aQ))))
   (aE (aK (pv 1)))),?_⟩
  have l60:=wi.l60;have bl:=wi.bl;have rp:=wi.on.bs.rp.2;have rsl:=wi.on.bs.rm.1;refine ⟨_,rfl,rl,rfl,⟨_,SqL.of wi.rw'.hl⟩,?_⟩;refine lT (xs:=rv) (λi σ H'=>∃ (l':Addr) (M':Int) (S':List PF) (v3 v4:Option V),σ=[some (.ref b),some (.ref l'),some (.ref rl),v3,v4]/\Same H H'/\StV H' l' M' S'/\Sok ws rbs M' S' (β+14*i)/\Ends us ps rbs ws M' S' (rws.drop i) o) ⟨ph,M,S,none,none,rfl,Same.refl _,wi.on.st,wi.on.so,en⟩ (λi σ H' _ hh=>by obtain ⟨_,_,_,_,_,_,sm,_⟩:=hh;exact SqL.of (wi.rw'.keep sm).hl) ?_ ?_
  ·intro i y σ H2 hy hh
   obtain ⟨l',M',S',v3,v4,rfl,s2,st2,so,ee⟩:=hh;obtain ⟨rw',a,hrw,rfl,rv3⟩:=(wi.rw'.keep s2).get hy;obtain ⟨il,ei⟩:=Ae.mp hrw;obtain ⟨a1,a2⟩:=wi.gd rw' (Al hrw);rw [Eb il,ei] at ee;have oi:OnIn H2 b r q l' rs us ps rbs ws M' S' (β+14*i):=⟨wi.on.bs.keep s2,st2,so,by omega⟩;refine ⟨_,rfl,_,rfl,_,rfl,b,r,q,l',a,rs,us,ps,rbs,ws,_,_,_,rw',rfl,oi,rv3,by rw [rsl];exact a1,?_⟩;cases ee with
   |bad ro=>
    refine ro.l ?_;intro zz t3 H6 s6 hz _;exact ⟨zz,_,rfl,SqT.of hz,rfl,_,_,rfl,_,_,rfl,rfl,_,rfl,rfl,_,rfl,iteT (kb rfl _ (s2.trans s6))⟩
   |step ro ee=>
    refine ro.l ?_;intro zz l2 H6 s6 nl2 hz st6;exact ⟨zz,_,rfl,SqT.of hz,rfl,_,_,rfl,_,_,rfl,rfl,_,rfl,rfl,_,rfl,iteF ⟨l2,_,_,_,_,rfl,s2.trans s6,st6,RowO.sok so rp a1 (by omega) ro,ee⟩⟩
  ·intro σ H2 hh
   obtain ⟨l',M',S',v3,v4,rfl,s2,st2,so,ee⟩:=hh;rw [wi.rw'.ln] at so ee;rw [List.drop_length] at ee;cases ee;exact ⟨_,rfl,k _ _ rfl l' H2 s2 st2 so⟩
abbrev Nsrv:List Str:=["_law_bench","_law_state","_law_due","_law_rows","_law_goal","_law_found"]
def rA:FnScope Nsrv ["_law_bench","_law_state","_law_due","_law_rows","_law_goal"] (aG jA):=fnScOk (by decide +kernel)
def xF {f:Addr}{fd:Az}(F:Fun K "_law_serves" "_law_serves" jA f fd)(cE:Cal P w K mg base CX0 7 "_law_end" ["_law_bench","_law_state","_law_rows"] spEnd):FnOk P w K mg base CX0 8 f fd ["_law_bench","_law_state","_law_due","_law_rows","_law_goal"] (spServes K):=by
 refine F.ok rA (λvs H Q E h=>?_) (λcdv A outer s H vs Q E hr h=>?_)
 ·obtain ⟨_,_,_,_,_,_,_,_,_,_,_,_,_,_,_,_,_,_,_,_,_,rfl,_⟩:=h
  rfl
 ·obtain ⟨b,r,q,ph,rl,dl,rs,us,ps,rbs,ws,M,S,β,rws,rv,o,g,M0,S0,d0,rfl,wi,en,hw,hd0,m0,hg,k⟩:=h
  refine ⟨_,(aD (aL (i:=5) rA.nd rfl (Or.inl rfl) (aJ cE hr rfl aR (aA (pv 0) (aA (pv 1) (aA (pv 3) aC)))))
   (aD (bF (PW.pt (hU (aM wW (pv 5) dO (aV _)) (fX (aM (aG5 hr.units) (bC cV (bC bB (pv 5) (pv 4) (λ_ _=>rfl)) aH (λ_ _=>rfl)) (bC cV (bC bB (pv 2) (pv 4) (λ_ _=>rfl)) aH (λ_ _=>rfl)) (aV _))))) (aE (aK fP)) aQ)
   (aE (aK (dB (aG9 hr.units) (eC (N':=["_law_name","_law_due","_law_goal"]) (λσ=>[none,some 2,some 4].map λt=>t.bind λj=>(σ[j]?).join) rfl rfl (by decide +kernel) (by decide +kernel)
     (iG (sc:=aG jA) rfl (by decide +kernel)) (λ_ _ _=>eA (sc:=aG jA) (N:=Nsrv) [none,some 2,some 4] rfl rfl rfl rfl (by decide +kernel))
     (fY (bC cV (bC bB (pv 5) (pv 4) (λ_ _=>rfl)) aH (λ_ _=>rfl))) (λ_ _ _ _ _ _=>aS (i:=0) aJa rfl (Or.inl rfl))
     (λ_ _ _ _ _ _=>lO (aM (wQ (K:=K) rfl) (pv 0) (bC (yH (K:=K) rfl) (bC (iM (K:=K) rfl) (pv 1) (pv 2) (λ_ _=>rfl)) aH (λ_ _=>rfl)) rfl))
     (λ_ _ _ _ _ _=>pv 0)) (dP aC) (aV _)))))),?_⟩
  refine ⟨_,rfl,_,rfl,_,rfl,b,r,q,ph,rl,rs,us,ps,rbs,ws,M,S,β,rws,rv,o,rfl,wi,en,?_,?_⟩
  rotate_left
  ·intro eo H1 s1
   subst eo;exact ⟨_,rfl,rfl,_,rfl,iteT (k false _ s1 ⟨(λh=>nomatch h),λh=>h.elim⟩)⟩
  intro M' S' eo l' H1 s1 st1 so1;subst eo;have gl:g<S'.length:=by rw [so1.sl];exact hg
  obtain ⟨d,hd⟩:∃ d,S'[g]?=some d:=⟨_,Ac gl⟩;obtain ⟨vs,v,hl,vl,hv,a,m,n,us1,ys1,rfl,ha,hm,pr1,mx1,hn⟩:=st1.get hd;obtain ⟨vd,v0,hdl,vdl,hv0,a0,m1,n1,us0,ys0,rfl,ha0,hm0,pr0,mx0,hn0⟩:=(hw.keep s1).get hd0;have it:atI vs ((g:Nat):Int)=some (.ref a):=bA hv;have it0:atI vd ((g:Nat):Int)=some (.ref a0):=bA hv0;have al:=oJ so1.m0 m0 mx1 mx0;refine ⟨_,rfl,rfl,_,rfl,iteF ⟨_,rfl,_,rfl,l',vs,_,.ref a,rfl,rfl,SqL.of hl,it,a,_,_,.ref m,rfl,rfl,SqT.of ha,rfl,_,rfl,_,rfl,dl,vd,_,.ref a0,rfl,rfl,SqL.of hdl,it0,a0,_,_,.ref m1,rfl,rfl,SqT.of ha0,rfl,m,m1,us1,us0,ys1,ys0,rfl,rfl,SqT.of hm,SqT.of hm0,pr1,pr0,_,rfl,ite2 (λc=>?_) (λc=>?_)⟩⟩
  ·refine k false _ s1 ⟨(λh=>nomatch h),?_⟩
   rintro ⟨d',hd',h1,h2⟩
   rw [hd] at hd';cases hd';have e:=al.mpr h1;rw [decide_eq_true e] at c;exact (Bool.noConfusion c)
  ·have c0:ys1=ys0:=by
    by_cases e:ys1=ys0
    ·exact e
    ·rw [decide_eq_false e] at c
     exact absurd rfl c
   have c1:=al.mp c0;refine ⟨_,rfl,_,rfl,l',vs,_,.ref a,rfl,rfl,SqL.of hl,it,a,_,_,.ref n,rfl,rfl,SqT.of ha,rfl,n,rfl,⟨_,SqT.of hn⟩,λD hD=>?_⟩;refine jV (Ys.tup (SqT.of hn)) (λv=>!inV v (d0.2.map V.str)) (λx y _=>y=x) (λ_ _ _ _ h _=>h) hD (by rw [Af];have okd:=so1.ok d (Al hd);have:=AU ((eQ okd.srt).length_le_of_subset okd.nin) wi.on.bs.ww.l;omega) (λi' x H' R1 R2 hx sm r1 r2=>?_) (λys H2 s2 hD2 yl hy=>?_)
   ·rw [Ao] at hx
    obtain ⟨nm,hnm,rfl⟩:=AO.mp hx;refine ⟨(Keep.refl _).set rfl,_,rfl,_,rfl,_,rfl,dl,vd,_,.ref a0,rfl,rfl,SqL.of (sm _ _ hdl),it0,a0,_,_,.ref n1,rfl,rfl,SqT.of (sm _ _ ha0),rfl,n1,_,rfl,.inr (SqT.of (sm _ _ hn0)),rfl,eK _,_,rfl,ite2 (λh1=>?_) (λh1=>?_)⟩
    ·exact ⟨_,rfl,r1 h1 _ _ (Same.refl _) rfl⟩
    ·exact r2 (by simpa using h1) _ (Same.refl _)
   ·refine ⟨zLn0,λe ne=>?_⟩
    have s3:=Same.upd (o:=.lst []) ne;refine ⟨D,e,ys,rfl,rfl,SqL.of (s3 _ _ hD2),SqL.of aB,k _ _ ((s1.trans s2).trans s3) ?_⟩;have hin:∀ nm:Str,(inV (V.str nm) (d0.2.map V.str)=true)↔nm∈d0.2:=λnm=>dY;constructor
    ·intro h
     have y0:ys=[]:=List.isEmpty_iff.mp h;rw [y0] at yl;have f0:=List.eq_nil_of_length_eq_zero yl.symm;refine ⟨d,hd,c1,λnm hn'=>?_⟩
     by_cases z:nm∈d0.2
     ·exact z
     ·have:V.str nm∈(d.2.map V.str).filter (λv=>!inV v (d0.2.map V.str)):=Eo.mpr ⟨BQ hn',by
       cases e:inV (V.str nm) (d0.2.map V.str) with
       |true=>exact absurd ((hin nm).mp e) z
       |false=>rfl⟩
      rw [f0] at this;cases this
    ·rintro ⟨d',hd',_,h2⟩
     rw [hd] at hd';cases hd';have f0:(d.2.map V.str).filter (λv=>!inV v (d0.2.map V.str))=[]:=by
      rw [List.filter_eq_nil_iff];intro x hx;obtain ⟨nm,hn',rfl⟩:=AH.mp hx;rw [(hin nm).mpr (h2 nm hn')];exact Bool.noConfusion
     rw [f0] at yl;rw [List.eq_nil_of_length_eq_zero yl];rfl
def aDv:FnScope ["_law_found"] ["_law_found"] (aG vL):=fnScOk (by decide +kernel)
def aA5 {f:Addr}{fd:Az}(F:Fun K "_law_whole" "_law_whole" vL f fd)(T:Txt mg):FnOk P w K mg base CX0 1 f fd ["_law_found"] spWh:=by
 refine F.ok aDv (λvs H Q E h=>?_) (λcdv A outer s H vs Q E hr h=>?_)
 ·obtain ⟨_,rfl,_⟩:=h
  rfl
 ·obtain ⟨n,rfl,k⟩:=h
  exact ⟨_,aE (aK (iB (aU dX rfl T.isi CL (aA (pv 0) (aA (eS (v:=.ty "int") rfl T.int' zR rfl) aC)))
   (gK (wI (aU dX rfl T.isi CL (aA (pv 0) (aA (eS (v:=.ty "bool") rfl T.bool' zU rfl) aC))))))),_,rfl,_,"int",true,rfl,.int_int,_,rfl,iteT ⟨_,rfl,_,"bool",false,rfl,.int_bool,_,rfl,k⟩⟩
def lH:FnScope ["_law_places","_law_many","_law_last","_law_place"] ["_law_places","_law_many"] (aG vX):=fnScOk (by decide +kernel)
def aBl {f:Addr}{fd:Az}(F:Fun K "_law_are_places" "_law_are_places" vX f fd)(T:Txt mg)(cW:Cal P w K mg base CX0 1 "_law_whole" ["_law_found"] spWh):FnOk P w K mg base CX0 2 f fd ["_law_places","_law_many"] spArePl:=by
 refine F.ok lH (λvs H Q E h=>?_) (λcdv A outer s H vs Q E hr h=>?_)
 ·obtain ⟨_,_,_,rfl,_⟩:=h
  rfl
 ·obtain ⟨pa,n,pl,rfl,hp,plc,k⟩:=h
  refine ⟨_,(aD (bF (eB (dA (aU dX rfl T.isi CL (aA (pv 0) (aA (eS (v:=.ty "list") rfl T.list' dS rfl) aC))))) (aE (aK fP)) aQ)
   (aD (aL (i:=2) lH.nd rfl (Or.inl rfl) (aI2 aF1 aH))
   (aD (cJ AJ rfl (fN (pv 0)) (aS (i:=3) lH.nd rfl (Or.inl rfl))
    (aD (bF (PW.pt (hU (eB (dA (aJ cW hr rfl aR (aA (pv 3) aC)))) (hU (aM aA2 (pv 3) (pv 2) (aV _)) (fX (aM aEt (pv 3) (pv 1) (aV _)))))) (aE (aK fP)) aQ)
    (aE (aL (i:=2) lH.nd rfl (Or.inl rfl) (pv 3)))))
   (aE (aK fP))))),?_⟩
  have l:=plc.len;refine ⟨_,rfl,_,"list",true,rfl,.lst_list (SqL.of hp),_,rfl,iteF ⟨1,rfl,?_⟩⟩;refine ⟨_,rfl,pa,rfl,⟨_,SqL.of hp⟩,?_⟩;refine lT (xs:=intL pl) (λi σ H'=>∃ (la:Int) (v3:Option V),σ=[some (.ref pa),some (.int ((n:Nat):Int)),some (.int la),v3]/\H'=H/\∀ j p,i<=j->pl[j]?=some p->la<((p:Nat):Int)) ⟨-1,none,rfl,rfl,λj p _ _=>by omega⟩ (λi σ H' _ hh=>by obtain ⟨_,_,_,rfl,_⟩:=hh;exact SqL.of hp) ?_ ?_
  ·intro i x σ H2 hx hh
   obtain ⟨la,v3,rfl,rfl,lt⟩:=hh;obtain ⟨p,hp',rfl⟩:=eR hx;have h1:=lt i p (Aj _) hp';have h2:=plc.lt p (Al hp');refine ⟨_,rfl,_,rfl,_,rfl,iteF ⟨_,rfl,_,rfl,_,_,rfl,rfl,_,rfl,iteN (decide_eq_false (by omega)) ⟨_,rfl,_,rfl,_,_,rfl,rfl,_,rfl,iteN (decide_eq_false (by omega)) ⟨_,rfl,_,_,rfl,rfl,λj p' hj hp2=>?_⟩⟩⟩⟩;obtain ⟨li,ei⟩:=Ae.mp hp';obtain ⟨lj,ej⟩:=Ae.mp hp2;have:=Cy.mp plc.up i j li lj (by omega);rw [ei,ej] at this;omega
  ·intro σ H2 hh
   obtain ⟨la,v3,rfl,rfl,lt⟩:=hh;exact k _ (Same.refl _)
end
end K52
namespace L2
open PySem PySem.Spec PyProof.Rows
def zB {K:Ab}{H:Hp}{n:Nat}{a b:Addr}{xs:List V}(h1:SqL K H a xs)(h2:SqL K H b xs)(hs:∀ v∈xs,Sf v):DEq K H (n+1) (.ref a) (.ref b) true:=by
 by_cases ne:a=b
 ·subst ne
  exact .same
 ·have q:=DEq.lst (n:=n) (e:=λ_=>true) ne h1 h2 λj x y hx hy=>by
   rw [hx] at hy;cases hy;exact DEq.self (hs x (Al hx))
  rw [all_true _ _ rfl] at q;exact q
end L2
namespace K52
open PySem PySem.Spec PyProof.Rows L2 GM TM TR
def spLaw (K:Ab):Sp:=λvs H Q _=>∃ (a:Addr) (ns:List Int),vs=[.ref a]/\SqL K H a (ns.map V.int)/\ns.length<=63/\∀ H',Q (.bl true) H'
def StV.copy {H H':Hp}{l l':Addr}{M:Int}{S:List PF}{vs:List V}(h:StV H l M S)(hl:H l=some (.lst vs))(s:Same H H')(hl':H' l'=some (.lst vs)):StV H' l' M S:=by
 obtain ⟨vs',h1,h2,h3⟩:=h;rw [hl] at h1;cases h1;exact ⟨vs,hl',h2,λi v d hv hd=>(h3 i v d hv hd).keep s⟩
def aGe {H:Hp}{ph:Addr}{rs ys:List V}{n:Nat}(rl:rs.length=n)(hph:H ph=some (.lst ys))(yl:ys.length=rs.length)(hy:∀ (i:Nat) x y,rs[i]?=some x->ys[i]?=some y->PhA H 1 y (λ_=>0,[])):StV H ph 1 (Co n (λ_=>0,[])):=⟨ys,hph,by rw [List.length_replicate];omega,λi v d hv hd=>by
 obtain ⟨x,hx⟩:∃ x,rs[i]?=some x:=⟨_,Ac (by have:=(Ae.mp hv).1;omega)⟩;rw [(List.mem_replicate.mp (Al hd)).2];exact hy i x v hx hv⟩
theorem aH7 {xs:List V}{j:Nat}(h:j<=xs.length):cutV xs none (some (j:Int))=xs.take j:=by
 unfold cutV;rw [HT.sIx_nat,HT.sIx_none,Nat.min_eq_left h];rfl
def aHm:(["_law_room"]:List Str).Nodup:=by decide +kernel
def ndPL:(["_law_place","_law_rows"]:List Str).Nodup:=by decide +kernel
inductive rTL (res:Bool)(K:Ab)(x y:V)(H:Hp)(Q:VK):Prop
 |mk (a b p1 p2 q1 q2:Addr) (xs ys:List V) (e1:x=.ref a) (e2:y=.ref b) (h1:SqT K H a [.ref p1,.ref p2]) (h2:SqT K H b [.ref q1,.ref q2]) (g1:SqL K H p1 xs) (g2:SqL K H q1 xs) (g3:SqL K H p2 ys) (g4:SqL K H q2 ys) (f1:∀ v∈xs,Sf v) (f2:∀ v∈ys,Sf v) (q:Q (.bl res) H):rTL res K x y H Q
def aCb {K:Ab}{H:Hp}{p1 p2 q1 q2:Addr}{xs ys:List V}(g1:SqL K H p1 xs)(g2:SqL K H q1 xs)(g3:SqL K H p2 ys)(g4:SqL K H q2 ys)(f1:∀ v∈xs,Sf v)(f2:∀ v∈ys,Sf v):∀ (j:Nat) x y,[V.ref p1,.ref p2][j]?=some x->[V.ref q1,.ref q2][j]?=some y->DEq K H 40 x y true:=λj x y hx hy=>by
 match j,hx,hy with
 |0,hx,hy=>cases hx;cases hy;exact zB (n:=39) g1 g2 f1
 |1,hx,hy=>cases hx;cases hy;exact zB (n:=39) g3 g4 f2
 |j+2,hx,_=>simp at hx
def aEq {X:Cx}(hu:X.A.units+64<cLine):OpR X (Bl .NotEq) (rTL false X.K):=by
 intro pins s σ H x y v u Q I rx ry h;obtain ⟨a,b,p1,p2,q1,q2,xs,ys,rfl,rfl,h1,h2,g1,g2,g3,g4,f1,f2,q⟩:=h;refine wU hu pins s σ H _ _ v u Q I rx ry ⟨a,b,_,_,λ_=>true,rfl,rfl,h1,h2,aCb g1 g2 g3 g4 f1 f2,?_⟩;exact q
def aEu {X:Cx}(hu:X.A.units+64<cLine):OpR X (Bl .Eq) (rTL true X.K):=by
 intro pins s σ H x y v u Q I rx ry h;obtain ⟨a,b,p1,p2,q1,q2,xs,ys,rfl,rfl,h1,h2,g1,g2,g3,g4,f1,f2,q⟩:=h;refine wZ hu pins s σ H _ _ v u Q I rx ry ⟨a,b,_,_,λ_=>true,rfl,rfl,h1,h2,aCb g1 g2 g3 g4 f1 f2,?_⟩;exact q
def StV.sf {H:Hp}{l:Addr}{M:Int}{S:List PF}{vs:List V}(h:StV H l M S)(hl:H l=some (.lst vs)):∀ v∈vs,Sf v:=λv hv=>by
 obtain ⟨vs',h1,h2,h3⟩:=h;rw [hl] at h1;cases h1;obtain ⟨i,hi⟩:=Dr hv;have li:=(Ae.mp hi).1;obtain ⟨a,_,_,_,_,e,_⟩:=h3 i v _ hi (Ac (by omega));exact .inr ⟨a,e⟩
def RwsV.sf {H:Hp}{l:Addr}{rws:List Rw}{rv:List V}(h:RwsV H l rws rv):∀ v∈rv,Sf v:=λv hv=>by
 obtain ⟨i,hi⟩:=Dr hv;obtain ⟨_,a,_,e,_⟩:=h.get hi;exact .inr ⟨a,e⟩
def RwsV.copy {H H':Hp}{l l':Addr}{rws:List Rw}{rv:List V}(h:RwsV H l rws rv)(s:Same H H')(hl:H' l'=some (.lst rv)):RwsV H' l' rws rv:=⟨hl,h.ln,(h.keep s).at'⟩
theorem take_drop {rv:List V}{pl:List Nat}{k:Nat}:(selV rv pl).take k++(selV rv pl).drop (k+1)=selV rv (pl.eraseIdx k):=by
 rw [<- List.eraseIdx_eq_take_drop_succ];unfold selV
 induction pl generalizing k with
 |nil=>rfl
 |cons a r ih=>
  cases k with
  |zero=>rfl
  |succ k=>
   show _::(List.map _ r).eraseIdx k=_::List.map _ (r.eraseIdx k);rw [ih]
section
variable {us:List V}{ps:List (Str×Str)}{rbs:List (Int×Int)}{ws:List Str}
def aDr (rp:∀ (i:Nat) rb,rbs[i]?=some rb->0<=rb.1):Sok ws rbs 1 (Co rbs.length (λ_=>0,[])) 1:=by
 refine ⟨by decide,dZ 1 (c:=2) (by decide) (by decide),List.length_replicate ..,λd hd=>?_,λi d rb hd hr=>?_⟩
 ·rw [(List.mem_replicate.mp hd).2]
  exact ⟨λ_=>DC _,(λy hy=>by cases hy),.nil,λy hy=>absurd rfl hy⟩
 ·rw [(List.mem_replicate.mp (Al hd)).2]
  show tot ws (λ_=>0)*rb.2<=rb.1*1;rw [qR,Br,Int.mul_one];exact rp i rb hr
end
section
variable {P:Av}{w:World}{K:Ab}{mg:Str->Option Value}{base:Heap}
abbrev Nlaw:List Str:=["_law_script","_law_wares_here","_law_bench","_law_state","_law_rows","_law_due","_law_goal","_law_handed","_law_found","_law_k"]
def iU:FnScope Nlaw ["_law_script"] (aG sLaw):=fnScOk (by decide +kernel)
def aHd {f:Addr}{fd:Az}(F:Fun K "law" "law" sLaw f fd)(T:Txt mg)
  (cC:Cal P w K mg base CX0 12 "_law_cell_at" ["_law_script","_law_k"] (mG K)) (cM:Cal P w K mg base CX0 12 "_law_mixed" ["_law_cell","_law_k"] iS) (cWs:Cal P w K mg base CX0 12 "_law_wares" ["_law_cell"] vD) (cB:Cal P w K mg base CX0 12 "_law_small" ["_law_script","_law_wares_here"] (spBench K)) (cG:Cal P w K mg base CX0 12 "_law_goes_on" ["_law_script","_law_bench","_law_wares_here","_law_state","_law_start","_law_last","_law_most"] (spGoes K)) (cT:Cal P w K mg base CX0 12 "thinned" ["bench","phials","rows","goal"] spThinned) (cP:Cal P w K mg base CX0 12 "_law_are_places" ["_law_places","_law_many"] spArePl) (cSv:Cal P w K mg base CX0 12 "_law_serves" ["_law_bench","_law_state","_law_due","_law_rows","_law_goal"] (spServes K)):FnOk P w K mg base CX0 13 f fd ["_law_script"] (spLaw K):=by
 refine F.ok iU (λvs H Q E h=>?_) (λcdv A outer s H vs Q E hr h=>?_)
 ·obtain ⟨_,_,rfl,_⟩:=h
  rfl
 ·obtain ⟨sc,ns,rfl,hS,hlen,k⟩:=h
  refine ⟨_,(aD (aL (i:=1) iU.nd rfl (Or.inl rfl) (aJ cWs hr rfl aR (aA (aJ cC hr rfl aR (aA (pv 0) (aA aH aC))) aC)))
   (aD (aL (i:=2) iU.nd rfl (Or.inl rfl) (aJ cB hr rfl aR (aA (pv 0) (aA (pv 1) aC))))
   (aD (aL (i:=3) iU.nd rfl (Or.inl rfl) (bC cV (aJ cG hr rfl aR (aA (pv 0) (aA (pv 2) (aA (pv 1) (aA (pO (N':=["_law_room"]) (cl:=[]) (g:=L2.gName 0) (λ_=>[none]) rfl rfl (by decide +kernel) (by decide +kernel) (kR (by decide +kernel)) (λ_ _=>oB) (fY (pit 2 0)) (λ_ _ _ _ _=>aS (i:=0) aHm rfl (Or.inl rfl) (Or.inr rfl)) (λ_ _ _ _ _=>dM) (λ_ _ _ _ _=>aW (aA (aW aC) (aA (aW aC) aC)))) (aA aH (aA aH (aA aH aC)))))))) aH (λ_ _=>rfl)))
   (aD (gI (aJ cG hr rfl aR (aA (pv 0) (aA (pv 2) (aA (pv 1) (aA (pv 3) (aA aH (aA aH (aA aH aC)))))))) (fO rfl (bE (aS (i:=4) iU.nd rfl (Or.inr rfl)) (bE (aS (i:=5) iU.nd rfl (Or.inl rfl)) eF))))
   (aD (aL (i:=6) iU.nd rfl (Or.inl rfl) (aP bQ (aJ cM hr rfl aR (aA (aJ cC hr rfl aR (aA (pv 0) (aA aH aC))) (aA aH aC))) (aU aY rfl T.len Bu (aA (pit 2 0) aC))))
   (aD (bF (aM dD (aP bQ (aJ cC hr rfl aR (aA (pv 0) (aA aH aC))) aH) aH (aV _)) (aE (aL (i:=6) iU.nd rfl (Or.inl rfl) (aP bQ (aP bK (aU gR rfl T.abs' nX (aA (aJ cC hr rfl aR (aA (pv 0) (aA aH aC))) aC)) aH) (aU aY rfl T.len Bu (aA (pit 2 0) aC))))) aQ)
   (aD (aL (i:=7) iU.nd rfl (Or.inl rfl) (aW (aA (aX bJ rfl T.list' dS (aA (pv 3) aC)) (aA (aX bJ rfl T.list' dS (aA (pv 4) aC)) aC))))
   (aD (aL (i:=8) iU.nd rfl (Or.inl rfl) (aJ cT hr rfl aR (aA (pv 2) (aA (pit 7 0) (aA (pit 7 1) (aA (pv 6) aC))))))
   (aD (bF (PW.pt (hU (aM (aEq hr.units) (pv 7) (aW (aA (pv 3) (aA (pv 4) aC))) (aV _)) (hU (eB (dA (aU dX rfl T.isi CL (aA (pv 8) (aA (eS (v:=.ty "tuple") rfl T.tup' cY rfl) aC))))) (fX (aM pP (aU aY rfl T.len Bu (aA (pv 8) aC)) aH (aV _)))))) (aE (aK fP)) aQ)
   (aD (bF (PW.pt (hU (eB (dA (aJ cP hr rfl aR (aA (pit 8 1) (aA (aU aY rfl T.len Bu (aA (pv 4) aC)) aC))))) (fX (aM (aEr hr.units) (pit 8 0) (eC (N':=["_law_place","_law_rows"]) (λσ=>[none,some 4].map λt=>t.bind λj=>(σ[j]?).join) rfl rfl (by decide +kernel) (by decide +kernel)
       (iG (sc:=aG sLaw) rfl (by decide +kernel)) (λ_ _ _=>eA (sc:=aG sLaw) (N:=Nlaw) [none,some 4] rfl rfl rfl rfl (by decide +kernel))
       (fN (pit 8 1)) (λ_ _ _ _ _ _=>aS (i:=0) ndPL rfl (Or.inl rfl)) (λ_ _ _ _ _ _=>dM)
       (λ_ _ _ _ _ _=>bC (iM (K:=K) rfl) (pv 1) (pv 0) (λ_ _=>rfl))) (aV _))))) (aE (aK fP)) aQ)
   (aD (bF (eB (dA (aJ cSv hr rfl aR (aA (pv 2) (aA (pv 3) (aA (pv 5) (aA (pit 8 0) (aA (pv 6) aC)))))))) (aE (aK fP)) aQ)
   (aD (cJ AJ rfl (dN rfl T.range (aA (aU aY rfl T.len Bu (aA (pit 8 0) aC)) aC)) (aS (i:=9) iU.nd rfl (Or.inl rfl)) (aE (bF (dA (aJ cSv hr rfl aR (aA (pv 2) (aA (pv 3) (aA (pv 5) (aA (aP xA (lP vF (pit 8 0) pM (pL (pv 9))) (lP vF (pit 8 0) (pL (aP bP (pv 9) aH)) pM)) (aA (pv 6) aC))))))) (aE (aK fP)) aQ)))
   (aD (dJ (lQ BG BD BC cQ (pit 8 0) (aA dO aC)))
   (aD (dJ (lQ BG BD BC cQ (pit 8 1) (aA dO aC)))
   (aE (aK (dB (aEu hr.units) (pv 7) (aW (aA (pv 3) (aA (pv 4) aC))) (aV _)))))))))))))))))),?_⟩
  refine ⟨_,rfl,sc,ns,0,rfl,hS,by decide,λc00=>⟨c00,rfl,λws wl H1 wlen wnd wwr s1 nwl hwl=>?_⟩⟩;refine ⟨_,rfl,_,rfl,sc,ns,wl,ws,rfl,s1.seq hS,SqL.of hwl,⟨wlen,wnd,wwr⟩,λb r q rs us ps H2 s2 bn2=>?_⟩;obtain ⟨rbs,rml⟩:=bn2.rm.list;have bs2:BS H2 b r q rs us ps rbs ws:=⟨bn2,rml,⟨wnd,by omega,wwr⟩⟩;have s02:=s1.trans s2;have n16:=bn2.l16;have n1:=bn2.l1;have rsl:=bs2.rm.1;have rp:=bs2.rp;have wv2:WsV H2 wl ws:=⟨s2 _ _ hwl,wlen,wwr⟩;refine ⟨_,rfl,_,rfl,_,rfl,b,_,_,rfl,SqT.of bs2.bn.hp,rfl,r,rfl,⟨_,SqT.of bs2.bn.hr⟩,λph nph=>?_⟩;refine eD (Ys.tup (SqT.of bs2.bn.hr)) (λ_ _ y H'=>PhA H' 1 y (λ_=>0,[])) (λ_ _ _ _ _ h t=>by obtain ⟨a,m,n,us,ys,e,h1,h2,h3,h4,h5⟩:=h;exact ⟨a,m,n,us,ys,e,t _ _ h1,t _ _ h2,h3.keep t,h4,t _ _ h5⟩) nph (by omega) (λi x H' R hx sm hR=>?_) (λys H3 s3 hph yl hy=>?_)
  ·refine ⟨(Keep.refl _).set rfl,zLn0,λe1 ne1=>⟨zLn0,λe2 ne2=>⟨zLn2,λz nz=>?_⟩⟩⟩
   have t1:=Same.upd (o:=.tup []) ne1;have t2:=Same.upd (o:=.tup []) ne2;have t3:=Same.upd (o:=.tup [.ref e1,.ref e2]) nz;exact hR _ _ ((t1.trans t2).trans t3) ⟨z,e1,e2,[],[],rfl,aB,(t2.trans t3) _ _ aB,.nil,kM,t3 _ _ aB⟩
  have st3:StV H3 ph 1 (Co rbs.length (λ_=>0,[])):=aGe bs2.rm.1 hph yl hy;have o3:OnIn H3 b r q ph rs us ps rbs ws 1 (Co rbs.length (λ_=>0,[])) 1:=⟨bs2.keep s3,st3,aDr rp.1,by decide⟩;have s03:=s02.trans s3;refine ⟨sc,b,wl,ph,r,q,rs,us,ps,rbs,ws,1,_,1,ns,3,9,6,rfl,s03.seq hS,hlen,o3,⟨s3 _ _ wv2.1,wv2.2⟩,by decide,by decide,by decide,by decide,λt0 rl0 l1 rws0 rv0 M1 S1 H4 s4 _ ht0 _ m6 _ _ st4 _ so4=>?_⟩;refine ⟨t0,_,_,.ref l1,rfl,rfl,SqT.of ht0,rfl,?_⟩;have s24:=s3.trans s4;have b1l:1+14*rws0.length<=85:=by omega
  generalize 1+14*rws0.length=β at so4 b1l;have o4:OnIn H4 b r q l1 rs us ps rbs ws M1 S1 β:=⟨bs2.keep s24,st4,so4,by omega⟩;have s04:=s02.trans s24;refine ⟨_,rfl,_,rfl,_,rfl,_,rfl,sc,b,wl,l1,r,q,rs,us,ps,rbs,ws,M1,S1,β,ns,9,63,12,rfl,s04.seq hS,hlen,o4,⟨s24 _ _ wv2.1,wv2.2⟩,by decide,by decide,by decide,by omega,λt1 rl l2 rws rv M2 S2 H5 s5 nrl ht1 rw5 r12 grs en st5 _ so5=>?_⟩;refine ⟨t1,_,rfl,SqT.of ht1,rfl,_,_,rfl,_,_,rfl,rfl,?_⟩;have s25:=s24.trans s5;have s05:=s02.trans s25;have o5:=o4.keep s5;have wi5:WIn H5 b r q l1 rl rs us ps rbs ws M1 S1 β rws rv:=⟨o5,rw5,grs,by omega,by omega⟩;have rln:=rw5.ln;have nbp:(0:Int)<((rs.length:Nat):Int):=by omega
  refine ⟨_,rfl,sc,ns,2,rfl,s05.seq hS,by decide,λc2=>⟨c2,90,rfl,by decide,by decide,λnm nm0 nml=>?_⟩⟩;refine ⟨b,_,_,rfl,SqT.of o5.bs.bn.hp,rfl,r,_,rfl,.inr (SqT.of o5.bs.bn.hr),_,_,rfl,rfl,nbp,?_⟩;dsimp only [gName];refine aCh (λσ' H'=>∃ g:Nat,g<rbs.length/\σ'=[some (.ref sc),some (.ref wl),some (.ref b),some (.ref l1),some (.ref rl),some (.ref l2),some (.int ((g:Nat):Int)),none,none,none]/\H'=H5) ?_ (λN hN2=>?_)
  rotate_left
  ·refine ⟨_,rfl,sc,ns,0,rfl,s05.seq hS,by decide,λc01=>⟨_,_,rfl,rfl,(by show (0:Int)<2;decide),rfl,_,rfl,ite2 (λ_=>?_) (λ_=>?_)⟩⟩
   ·refine ⟨_,rfl,sc,ns,2,rfl,s05.seq hS,by decide,λc3=>⟨c3,rfl,_,_,rfl,rfl,⟨by decide,b9⟩,b,_,_,rfl,SqT.of o5.bs.bn.hp,rfl,r,_,rfl,.inr (SqT.of o5.bs.bn.hr),_,_,rfl,rfl,nbp,hN2 _ _ ?_⟩⟩
    obtain ⟨g0,gl⟩:=bR ((if c3<0 then -c3 else c3)/32768) nbp;obtain ⟨g,hg⟩:=Bb g0;exact ⟨g,by omega,by rw [hg];rfl,rfl⟩
   ·obtain ⟨g0,gl⟩:=bR nm nbp
    obtain ⟨g,hg⟩:=Bb g0;exact hN2 _ _ ⟨g,by omega,by rw [hg];rfl,rfl⟩
  intro σ' H' hh;obtain ⟨g,hg,rfl,rfl⟩:=hh;obtain ⟨d2,hd2⟩:∃ d,S2[g]?=some d:=⟨_,Ac (by rw [so5.sl];exact hg)⟩;obtain ⟨vs1,hl1,_⟩:=o5.st.ex;refine ⟨_,rfl,l1,_,rfl,.inl (SqL.of hl1),λh1 nh1=>?_⟩;have t6:=Same.upd (o:=.lst vs1) nh1;have hh1:upd H' h1 (.lst vs1) h1=some (.lst vs1):=aB;generalize upd H' h1 (.lst vs1)=H6 at t6 hh1 ⊢;refine ⟨_,rfl,rl,_,rfl,.inl (SqL.of (t6 _ _ rw5.hl)),λh2 nh2=>?_⟩;have t7:=Same.upd (o:=.lst rv) nh2;have hh2:upd H6 h2 (.lst rv) h2=some (.lst rv):=aB;have hh1:=t7 _ _ hh1;generalize upd H6 h2 (.lst rv)=H7 at t7 hh1 hh2 ⊢;refine ⟨zLn2,λth nth=>?_⟩;have t8:=Same.upd (o:=.tup [.ref h1,.ref h2]) nth;have hth:upd H7 th (.tup [.ref h1,.ref h2]) th=some (.tup [.ref h1,.ref h2]):=aB;have hh1:=t8 _ _ hh1;have hh2:=t8 _ _ hh2;have s8:=(t6.trans t7).trans t8;generalize upd H7 th (.tup [.ref h1,.ref h2])=H8 at t8 hh1 hh2 hth s8 ⊢;have wi8:WIn H8 b r q h1 h2 rs us ps rbs ws M1 S1 β rws rv:=⟨⟨o5.bs.keep s8,o5.st.copy hl1 s8 hh1,o5.so,o5.b24⟩,rw5.copy s8 hh2,grs,by omega,by omega⟩;refine ⟨_,rfl,th,_,_,rfl,SqT.of hth,rfl,th,_,_,rfl,SqT.of hth,rfl,_,rfl,b,r,q,h1,h2,rs,us,ps,rbs,ws,M1,S1,β,rws,rv,g,M2,S2,d2,rfl,wi8,en,hd2,so5.m0,λt xa pa pl H9 s9 nxa npa nxp ht rwx hpa plc yes fx=>?_⟩;have s59:=s8.trans s9;have hl1':=s8 _ _ hl1;have hrl':=s8 _ _ rw5.hl;have sf1:=o5.st.sf hl1;have sf2:=rw5.sf;have npl:=plc.len;refine ⟨_,rfl,_,rfl,_,rfl,zLn2,λu nu=>?_⟩;have t10:=Same.upd (o:=.tup [.ref l1,.ref rl]) nu;have hu:upd H9 u (.tup [.ref l1,.ref rl]) u=some (.tup [.ref l1,.ref rl]):=aB;generalize upd H9 u (.tup [.ref l1,.ref rl])=HA at t10 hu ⊢;have s8A:=s9.trans t10;refine ⟨th,u,h1,h2,l1,rl,vs1,rv,rfl,rfl,SqT.of (s8A _ _ hth),SqT.of hu,SqL.of (s8A _ _ hh1),SqL.of (s8A _ _ hl1'),SqL.of (s8A _ _ hh2),SqL.of (s8A _ _ hrl'),sf1,sf2,_,rfl,iteF ?_⟩;refine ⟨_,rfl,_,"tuple",true,rfl,.tup_tuple (SqT.of (t10 _ _ ht)),_,rfl,iteF ⟨_,rfl,t,_,rfl,.inr (SqT.of (t10 _ _ ht)),rfl,_,rfl,iteN (by rw [decide_eq_true (by rfl)];rfl) ?_⟩⟩;have ht:=t10 _ _ ht;have rwx:=rwx.keep t10;have hpa:=t10 _ _ hpa;have s5A:=s8.trans s8A;have hrlA:=s8A _ _ hrl';refine ⟨t,_,_,rfl,SqT.of ht,rfl,_,rfl,rl,_,rfl,.inl (SqL.of hrlA),pa,rv.length,pl,rfl,hpa,by rw [rln];exact plc,λHB sB=>⟨_,rfl,iteF ?_⟩⟩;have ht:=sB _ _ ht;have rwx:=rwx.keep sB;have hpa:=sB _ _ hpa;have s8B:=s8A.trans sB;refine ⟨t,_,_,rfl,SqT.of ht,rfl,t,_,_,rfl,SqT.of ht,rfl,pa,rfl,⟨_,SqL.of hpa⟩,λD hD=>?_⟩;refine eD (Ys.list (SqL.of hpa)) (λi _ y _=>∃ p:Nat,pl[i]?=some p/\rv[p]?=some y) (λ_ _ _ _ _ h _=>h) hD (by rw [dW];omega) (λi' v H' R hv' sm hR=>?_) (λzs HC sC hDC zl hz=>?_)
  ·obtain ⟨p',hp',rfl⟩:=eR hv'
   have lt:p'<rv.length:=by rw [rln];exact plc.lt p' (Al hp')
   exact ⟨(Keep.refl _).set rfl,_,rfl,_,rfl,rl,rv,_,_,rfl,rfl,SqL.of ((s8B.trans sm) _ _ hrl'),bA (Ac lt),hR _ _ (Same.refl _) ⟨p',hp',Ac lt⟩⟩
  have ez:=oU zl hz;subst ez;have ht:=sC _ _ ht;have rwx:=rwx.keep sC;have hpa:=sC _ _ hpa;have s8C:=s8B.trans sC;refine ⟨xa,D,_,rfl,rfl,SqL.of rwx.hl,SqL.of hDC,rwx.sf,_,rfl,iteF ?_⟩;have sll:(sel rws pl).length=pl.length:=by unfold sel;rw [Af]
  have wi:∀ {H':Hp} {xl:Addr} {pl':List Nat},Same H8 H'->RwsV H' xl (sel rws pl') (selV rv pl')->(∀ p∈pl',p<rws.length)->pl'.length<=12->WIn H' b r q l1 xl rs us ps rbs ws M1 S1 β (sel rws pl') (selV rv pl'):=λs x lt l12=>⟨o5.keep (s8.trans s),x,aCi grs lt,by unfold sel;rw [Af];omega,by unfold sel;rw [Af];omega⟩;obtain ⟨o,en2,sv⟩:=yes;refine ⟨_,rfl,_,rfl,_,rfl,t,_,_,rfl,SqT.of ht,rfl,_,rfl,b,r,q,l1,xa,l2,rs,us,ps,rbs,ws,M1,S1,β,_,_,o,g,M2,S2,d2,rfl,wi s8C rwx plc.lt (by omega),en2,st5.keep (s8.trans s8C),hd2,so5.m0,hg,λx HD sD hx=>?_⟩;have hx':x=true:=hx.mpr sv;subst hx';refine ⟨_,rfl,iteF ?_⟩;have ht:=sD _ _ ht;have rwx:=rwx.keep sD;have hpa:=sD _ _ hpa;have s8D:=s8C.trans sD;have svl:(selV rv pl).length=pl.length:=by unfold selV;rw [Af]
  refine ⟨t,_,_,rfl,SqT.of ht,rfl,xa,_,rfl,.inl (SqL.of rwx.hl),_,rfl,by omega,by omega,?_⟩;refine eV (λi σ H'=>∃ v9:Option V,σ=[some (.ref sc),some (.ref wl),some (.ref b),some (.ref l1),some (.ref rl),some (.ref l2),some (.int ((g:Nat):Int)),some (.ref th),some (.ref t),v9]/\Same HD H') ⟨none,rfl,Same.refl _⟩ ?_ ?_
  ·intro i σ HE D' hN hi hh
   obtain ⟨v9,rfl,sE⟩:=hh;have il:i<pl.length:=by
    have:i<(((selV rv pl).length:Nat):Int).toNat:=hi;omega
   have e0:(0:Int)+(i:Int)=((i:Nat):Int):=by omega
   rw [e0];dsimp only [gName];have ht:=sE _ _ ht;have rwx:=rwx.keep sE;refine ⟨_,rfl,_,rfl,_,rfl,t,_,_,rfl,SqT.of ht,rfl,_,rfl,_,rfl,xa,_,rfl,SqL.of rwx.hl,λp1 np1=>?_⟩;rw [aH7 (by omega)];have u1:=Same.upd (o:=.lst ((selV rv pl).take i)) np1;have hp1:upd HE p1 (.lst ((selV rv pl).take i)) p1=some (.lst ((selV rv pl).take i)):=aB;generalize upd HE p1 (.lst ((selV rv pl).take i))=HF at u1 hp1 ⊢;refine ⟨t,_,_,rfl,SqT.of (u1 _ _ ht),rfl,_,rfl,_,_,rfl,rfl,_,rfl,xa,_,rfl,SqL.of (u1 _ _ rwx.hl),λp2 np2=>?_⟩;rw [show ((i:Nat):Int)+1=((i+1:Nat):Int) by omega,sU (by omega)];have u2:=Same.upd (o:=.lst ((selV rv pl).drop (i+1))) np2;have hp2:upd HF p2 (.lst ((selV rv pl).drop (i+1))) p2=some (.lst ((selV rv pl).drop (i+1))):=aB;have hp1:=u2 _ _ hp1;generalize upd HF p2 (.lst ((selV rv pl).drop (i+1)))=HG at u2 hp1 hp2 ⊢;refine ⟨p1,p2,_,_,rfl,rfl,hp1,hp2,bV (by rw [DD,List.length_drop];omega),λp3 np3=>?_⟩;rw [take_drop];have u3:=Same.upd (o:=.lst (selV rv (pl.eraseIdx i))) np3;have hp3:upd HG p3 (.lst (selV rv (pl.eraseIdx i))) p3=some (.lst (selV rv (pl.eraseIdx i))):=aB;generalize upd HG p3 (.lst (selV rv (pl.eraseIdx i)))=HI at u3 hp3 ⊢;have sEI:=(u1.trans u2).trans u3;have s8I:=(s8D.trans sE).trans sEI;have lt:∀ p∈pl.eraseIdx i,p<rws.length:=λp hp=>plc.lt p (List.mem_of_mem_eraseIdx hp);obtain ⟨o',en3,ns⟩:=fx i il;have le:=List.length_eraseIdx_le pl i;refine ⟨_,rfl,b,r,q,l1,p3,l2,rs,us,ps,rbs,ws,M1,S1,β,_,_,o',g,M2,S2,d2,rfl,wi s8I (rw5.sel (s8.trans s8I) lt hp3) lt (by omega),en3,st5.keep (s8.trans s8I),hd2,so5.m0,hg,λx HJ sJ hx=>?_⟩;cases x with
   |true=>exact absurd (hx.mp rfl) ns
   |false=>exact ⟨_,rfl,iteF (hN _ _ ⟨_,rfl,(sE.trans sEI).trans sJ⟩)⟩
  ·intro σ HE hh
   obtain ⟨v9,rfl,sE⟩:=hh;have ht:=sE _ _ ht;have hxa:=sE _ _ rwx.hl;have hpa:=sE _ _ hpa;have s8E:=s8D.trans sE;have tx:t≠xa:=λe=>by rw [e,hxa] at ht;cases ht
   have tp:t≠pa:=λe=>by rw [e,hpa] at ht;cases ht
   refine ⟨t,_,_,rfl,SqT.of ht,rfl,.inl ⟨rfl,_,SqL.of hxa⟩,xa,_,_,rfl,rfl,hxa,bV (by omega),?_⟩;have ht':upd HE xa (.lst (selV rv pl++[.non])) t=some (.tup [.ref xa,.ref pa]):=by rw [aI tx];exact ht
   have hpa':upd HE xa (.lst (selV rv pl++[.non])) pa=some (.lst (intL pl)):=by rw [aI (Bg nxp)];exact hpa
   refine ⟨t,_,_,rfl,SqT.of ht',rfl,.inl ⟨rfl,_,SqL.of hpa'⟩,pa,_,_,rfl,rfl,hpa',bV (by rw [dW];omega),?_⟩;have fixd:∀ {c:Addr} {o:HO},H8 c=some o->upd (upd HE xa (.lst (selV rv pl++[.non]))) pa (.lst (intL pl++[.non])) c=some o:=λh=>by
    rw [aI (aZ h npa),aI (aZ h nxa)];exact s8E _ _ h
   generalize upd (upd HE xa (.lst (selV rv pl++[.non]))) pa (.lst (intL pl++[.non]))=HF at fixd ⊢;refine ⟨_,rfl,_,rfl,_,rfl,zLn2,λu nu=>?_⟩;have v1:=Same.upd (o:=.tup [.ref l1,.ref rl]) nu;exact ⟨th,u,h1,h2,l1,rl,vs1,rv,rfl,rfl,SqT.of (v1 _ _ (fixd hth)),SqT.of aB,SqL.of (v1 _ _ (fixd hh1)),SqL.of (v1 _ _ (fixd hl1')),SqL.of (v1 _ _ (fixd hh2)),SqL.of (v1 _ _ (fixd hrl')),sf1,sf2,k _⟩
end
end K52
namespace L2
open PySem PySem.Spec PyProof.Rows
def AllN:Nat->(List Value->Prop)->Prop
 |0,p=>p []
 |n+1,p=>∀ a,AllN n λus=>p (a::us)
theorem allN:∀ {n:Nat} {p:List Value->Prop},AllN n p->∀ us:List Value,us.length=n->p us
 |0,_,h,[],_=>h
 |_+1,_,h,a::us,e=>allN (h a) us (Nat.succ.inj e)
def allS {x:Str}{xs:List Str}{p:List Value->Prop}(h:∀ a,AllN xs.length λus=>p (a::us)):AllN (x::xs).length p:=h
def allZ {p:List Value->Prop}(h:p []):AllN ([]:List Str).length p:=h
def noMem {α:Type}{p:α->Prop}:∀ x∈([]:List α),p x:=λ_ h=>nomatch h
section
variable {P:Av}{w:World}{K:Ab}{mg:Str->Option Value}{base h:Heap}{CX:CXT}{k:Nat}{C f:Addr}{x q:Str}{st:Stmt}{ps:List Str}{sp:Sp}{oc kV doc pm cdv ct:Value}{od an:Option Addr}{osl:Array (Option Value)}
structure FnB (K:Ab)(x q:Str)(st:Stmt)(ps:List Str)(f:Addr):Prop where
 ex:∃ fd:Az,Fun K x q st f fd/\∀ us:List Value,us.length=ps.length->bindArgs fd ⟨us,[]⟩=pure (ps.zip us)
def fnB (l:K.lookup f=some ⟨oc,od,.func (Da x q (fD st) (eL st) (aG st) .none kV doc pm an cdv ct),osl⟩)(c:EA K cdv q=true)(k:CN K (.ref f)=true)
  (hb:AllN ps.length λus=>bindArgs (Da x q (fD st) (eL st) (aG st) .none kV doc pm an cdv ct) ⟨us,[]⟩=pure (ps.zip us)):FnB K x q st ps f:=
 ⟨_,aHy (st:=st) l c k,allN hb⟩
def FnB.ok (D:FnB K x q st ps f):∃ fd:Az,Fun K x q st f fd/\Binds K fd ps []:=by
 obtain ⟨fd,F,b⟩:=D.ex;exact ⟨fd,F,.all b⟩
structure Dn (K:Ab)(x:Str)(st:Stmt)(ps:List Str):Prop where
 ex:∃ f:Addr,AL K AD x=some (some (.ref f))/\FnB K x x st ps f
def dnB (a:AL K AD x=some (some (.ref f)))(l:K.lookup f=some ⟨oc,od,.func (Da x x (fD st) (eL st) (aG st) .none kV doc pm an cdv ct),osl⟩)(c:EA K cdv x=true)(k:CN K (.ref f)=true)
  (hb:AllN ps.length λus=>bindArgs (Da x x (fD st) (eL st) (aG st) .none kV doc pm an cdv ct) ⟨us,[]⟩=pure (ps.zip us)):Dn K x st ps:=⟨f,a,fnB l c k hb⟩
def Dn.cal (D:Dn K x st ps)(X:K.In h)(G:h.Ns AD mg)(ok:∀ {f:Addr} {fd:Az},Fun K x x st f fd->FnOk P w K mg base CX k f fd ps sp):Cal P w K mg base CX k x ps sp:=by
 obtain ⟨f,a,D⟩:=D.ex;obtain ⟨fd,F,b⟩:=D.ok;exact ⟨f,fd,Bc X G a,F.kp,b,ok F⟩
structure MDn (K:Ab)(C:Addr)(m q:Str)(st:Stmt)(ps:List Str):Prop where
 ex:∃ f:Addr,Meth K C m f/\FnB K m q st ps f
def mdnB (a:BP K (.ref C) x=some (some (.ref f)))(i:PySem.W.isFn K (.ref f)=true)(l:K.lookup f=some ⟨oc,od,.func (Da x q (fD st) (eL st) (aG st) .none kV doc pm an cdv ct),osl⟩)(c:EA K cdv q=true)(k:CN K (.ref f)=true)
  (hb:AllN ps.length λus=>bindArgs (Da x q (fD st) (eL st) (aG st) .none kV doc pm an cdv ct) ⟨us,[]⟩=pure (ps.zip us)):MDn K C x q st ps:=⟨f,⟨a,i,k⟩,fnB l c k hb⟩
def MDn.cal (D:MDn K C x q st ps)(ok:∀ {f:Addr} {fd:Az},Fun K x q st f fd->FnOk P w K mg base CX k f fd ps sp):MCal P w K mg base CX k C x ps sp:=by
 obtain ⟨f,hm,D⟩:=D.ex;obtain ⟨fd,F,b⟩:=D.ok;exact ⟨f,fd,hm,b,ok F⟩
def TopT (K:Ab)(x:Str)(i j:Int)(a:Addr):Prop:=AL K AD x=some (some (.ref a))/\∀ H:Hp,SqT K H a [.int i,.int j]
def aJb {fa:Addr}(X:K.In h)(G:h.Ns AD mg)(hfa:mg x=some (.ref fa))(D:Dn K x st ["_law_script"])(ok:∀ {f:Addr} {fd:Az} {base:Heap},Fun K x x st f fd->FnOk P w K mg base CX k f fd ["_law_script"] sp) :
  ∃ fd:Az,(∀ (s:Shared) (v:Value),BindsTo s fd ⟨[v],[]⟩ [("_law_script",v)])/\∀ base:Heap,K.In base->base.Ns AD mg->FnOk P w K mg base CX k fa fd ["_law_script"] sp:=by
 obtain ⟨f,a,fd,F,b⟩:=D.ex;have e:=hfa.symm.trans (Bc X G a);cases e;exact ⟨fd,λs v=>.of_eq (b [v] rfl),λbase _ _=>ok F⟩
def topS {a:Addr}{its:Array Value}{n:Nat}{xs:List V}(l:K.lookup a=some ⟨.type "tuple",od,.seq its n,osl⟩)(hl:its.size<=9/\Vals xs its.toList):∀ H:Hp,SqT K H a xs:=
 λ_=>.inr ⟨_,_,_,l,rfl,rfl,AU hl.1 (by decide),hl.2⟩
def ClsB (K:Ab)(nm:Str)(fs:List Str)(qI qO:Str)(sI sO:Stmt)(ps:List Str)(C:Addr):Prop:=
 AL K AD nm=some (some (.ref C))/\(∀ f∈fs,NoAttr K C f)/\Cls K C/\PySem.W.makesIn K C=true/\CN K (.ref C)=true/\MDn K C "__init__" qI sI ps/\MDn K C "onto_at" qO sO ["self","bench","phials","place"]
def ErC (K:Ab)(cP c f:Addr)(nm q:Str)(st:Stmt)(fs:List Str):Prop:=
 AL K AD nm=some (some (.ref c))/\(∃ (od:Option Addr) (cd:ClassData) (sl:Array (Option Value)),K.lookup c=some ⟨.type "type",od,.cls cd,sl⟩/\AL K cd.ns "__init__" = some (some (.ref f))) /\
  (∀ x∈fs,ExF K c cP f x)/\PySem.W.subIn K (.ref c) (.ref cP)=some true/\FnB K "__init__" q st ("self" :: fs) f
def exC {c f:Addr}{sl:Array (Option Value)}{cd:ClassData}(l:K.lookup c=some ⟨.type "type",od,.cls cd,sl⟩)(n:AL K cd.ns "__init__" = some (some (.ref f))) :
  ∃ (od:Option Addr) (cd:ClassData) (sl:Array (Option Value)),K.lookup c=some ⟨.type "type",od,.cls cd,sl⟩/\AL K cd.ns "__init__" = some (some (.ref f)):=⟨_,_,_,l,n⟩
def refOf:Value->Option Addr
 |.ref a=>some a
 |_=>none
def aJc {a:Addr}{es:Array DictEntry}{n:Nat}(lo:(a==DB)=false)(l:K.lookup a=some ⟨.type "dict",none,.dict es n,#[]⟩)(k:PySem.W.KeysLit w.params es.toList)(r:∀ e∈es.toList,(refOf e.val).isSome=true) :
  KDict w K a λx=>(findBy EX es x).bind refOf:=by
 refine ⟨lo,es,n,l,k,λx=>?_⟩;cases e:findBy EX es x with
 |none=>rfl
 |some v=>
  unfold findBy at e;obtain ⟨d,hd,rfl⟩:=AO.mp e;have:=r d (Array.mem_toList_iff.mpr (Array.mem_of_find?_eq_some hd));show some d.val=(refOf d.val).map AC;cases hv:d.val<;>rw [hv] at this<;>first|rfl|exact absurd this (by simp [refOf])
end
end L2
namespace K52
open PySem PySem.Spec PyProof.Rows L2 GM TM
inductive AllD (w:World)(K:Ab)(aN aO cP c0 c1 c2 c3 c4 f0 f1 f2 f3 f4 aF a0 a1 a2 a3 a4 CD CF CP CE CR:Addr)(h0 h1 h2 h3 h4:Int)(t0 t1 t2 t3 t4 tM tL:Tok)(sz:Nat):Prop
 |mk (d:Dn K "law" sLaw ["_law_script"])
  (d0:Dn K "common_divisor" sGcd ["one","other"])
  (d1:Dn K "_law_cell_at" aEa ["_law_script","_law_k"])
  (d2:Dn K "_law_mixed" vR ["_law_cell","_law_k"])
  (d3:Dn K "_law_lowest" pE ["_law_top","_law_bottom"])
  (d4:Dn K "_law_digit" vV ["_law_left","_law_many"])
  (d5:Dn K "_law_few" aD4 ["_law_number"])
  (d6:Dn K "_law_names" vQ ["_law_left"])
  (d7:Dn K "_law_wares" iY ["_law_cell"])
  (d8:Dn K "_law_free_bench" aD9 ["_law_script","_law_wares_here"])
  (d9:Dn K "_law_small" vW ["_law_script","_law_wares_here"])
  (d10:Dn K "is_ware" pF ["thing"])
  (d11:Dn K "lowest_terms" sLow ["top","bottom"])
  (d12:Dn K "plus" aD3 ["one","other"])
  (d13:Dn K "whole" oX ["one"])
  (d14:Dn K "mixture" gH ["pairs"])
  (d15:Dn K "times" vN ["one","other"])
  (d16:Dn K "together" iZ ["one","other"])
  (d17:Dn K "less" aD5 ["one","other"])
  (d18:Dn K "minus" vS ["one","other"])
  (d19:Dn K "_law_add" sAdd ["_law_one","_law_other"])
  (d20:Dn K "_law_take" aD2 ["_law_one","_law_other"])
  (d21:Dn K "_law_by" sBy ["_law_one","_law_other"])
  (d22:Dn K "_law_under" vM ["_law_one","_law_other"])
  (d23:Dn K "pair_in" pA ["bench","names"])
  (d24:Dn K "is_whole_number" aD6 ["thing"])
  (d25:Dn K "is_amount" aD7 ["thing"])
  (d26:Dn K "is_of_kind" pB ["bench","kind","thing"])
  (d27:Dn K "is_row" mR ["bench","row"])
  (d28:Dn K "deed_at" pI ["bench","row","place"])
  (d29:Dn K "with_phial" oW ["phials","phial","holds","names"])
  (d30:Dn K "with_more" iX ["bench","phials","phial","comes","names","place"])
  (d31:Dn K "_law_sum" sSum ["_law_held"])
  (d32:Dn K "_law_into" aD8 ["_law_bench","_law_state","_law_phial","_law_more","_law_names_here"])
  (d33:Dn K "_law_poured" oZ ["_law_bench","_law_state","_law_row_here"])
  (d34:Dn K "_law_after" vY ["_law_bench","_law_state","_law_row_here"])
  (d35:Dn K "done_at" pH ["bench","phials","row","place"])
  (d36:Dn K "_law_free_row" lI ["_law_bench","_law_wares_here","_law_left"])
  (d37:Dn K "_law_row" sRow ["_law_bench","_law_wares_here","_law_script","_law_k"])
  (d38:Dn K "walked" oY ["bench","phials","rows"])
  (d39:Dn K "leaves_as" jC ["bench","phials","rows","goal","wanted"])
  (d40:Dn K "places_needed" gA ["bench","phials","rows","goal","wanted"])
  (d41:Dn K "thinned" gG ["bench","phials","rows","goal"])
  (d42:Dn K "_law_goes_on" pG ["_law_script","_law_bench","_law_wares_here","_law_state","_law_start","_law_last","_law_most"])
  (d43:Dn K "_law_end" sEnd ["_law_bench","_law_state","_law_rows"])
  (d44:Dn K "_law_serves" jA ["_law_bench","_law_state","_law_due","_law_rows","_law_goal"])
  (d45:Dn K "_law_whole" vL ["_law_found"])
  (d46:Dn K "_law_are_places" vX ["_law_places","_law_many"])
  (d47:Dn K "law" sLaw ["_law_script"])
  (z0:AL K AD "isinstance" = some none)
  (z1:AL K AD "int" = some none)
  (z2:AL K AD "bool" = some none)
  (z3:AL K AD "tuple" = some none)
  (z4:AL K AD "str" = some none)
  (z5:AL K AD "len" = some none)
  (z6:AL K AD "range" = some none)
  (z7:AL K AD "min" = some none)
  (z8:AL K AD "max" = some none)
  (z9:AL K AD "abs" = some none)
  (z10:AL K AD "list" = some none)
  (z11:AL K AD "sorted" = some none)
  (z12:AL K AD "zip" = some none)
  (z13:AL K AD "set" = some none)
  (z14:AL K AD "all" = some none)
  (z15:AL K AD "enumerate" = some none)
  (z16:AL K AD "ValueError" = some none)
  (z17:AL K AD "dict" = some none)
  (z18:AL K AD "reversed" = some none)
  (tN:TopT K "NOUGHT" 0 1 aN)
  (tO:TopT K "ONE" 1 1 aO)
  (nP:AL K AD "PhialError" = some (some (.ref cP)))
  (ct:CtK K cP)
  (bi:BaseI K cP)
  (yn0:ErC K cP c0 f0 "Dry" "Dry.__init__" sE0 ["place","phial"])
  (yn1:ErC K cP c1 f1 "Low" "Low.__init__" sE1 ["place","phial"])
  (yn2:ErC K cP c2 f2 "Wet" "Wet.__init__" sE2 ["place","phial"])
  (yn3:ErC K cP c3 f3 "Spilt" "Spilt.__init__" sE3 ["place","phial","over"])
  (yn4:ErC K cP c4 f4 "Touch" "Touch.__init__" sE4 ["place","phial","pair"])
  (nF:AL K AD "FORMS" = some (some (.ref aF)))
  (lF:(aF==DB)=false)
  (dF:K.lookup aF=some ⟨.type "dict",none,.dict #[⟨h0,.str "draw" t0,.ref a0⟩,⟨h1,.str "fill" t1,.ref a1⟩,⟨h2,.str "pour" t2,.ref a2⟩,⟨h3,.str "empty" t3,.ref a3⟩,⟨h4,.str "rinse" t4,.ref a4⟩] sz,#[]⟩)
  (kF:PySem.W.KeysLit w.params ([⟨h0,.str "draw" t0,.ref a0⟩,⟨h1,.str "fill" t1,.ref a1⟩,⟨h2,.str "pour" t2,.ref a2⟩,⟨h3,.str "empty" t3,.ref a3⟩,⟨h4,.str "rinse" t4,.ref a4⟩]:List DictEntry))
  (sF0:∀ H:Hp,SqT K H a0 [.str "phial",.str "ware",.str "amount"])
  (sF1:∀ H:Hp,SqT K H a1 [.str "phial",.str "ware",.str "level"])
  (sF2:∀ H:Hp,SqT K H a2 [.str "phial",.str "phial",.str "part"])
  (sF3:∀ H:Hp,SqT K H a3 [.str "phial"])
  (sF4:∀ H:Hp,SqT K H a4 [.str "phial"])
  (ynCD:ClsB K "Draw" ["phial","ware","amount"] "Draw.__init__" "Draw.onto_at" aCm vP ["self","phial","ware","amount"] CD)
  (ynCF:ClsB K "Fill" ["phial","ware","level"] "Fill.__init__" "Fill.onto_at" aCl vO ["self","phial","ware","level"] CF)
  (ynCP:ClsB K "Pour" ["one","other","part"] "Pour.__init__" "Pour.onto_at" aCk jB ["self","one","other","part"] CP)
  (ynCE:ClsB K "Empty" ["phial"] "Empty.__init__" "Empty.onto_at" vU pD ["self","phial"] CE)
  (ynCR:ClsB K "Rinse" ["phial"] "Rinse.__init__" "Rinse.onto_at" vT pC ["self","phial"] CR)
  (mM:AL K AD "MOST_LETTERS" = some (some (.int 8 tM)))
  (mL:AL K AD "LETTERS" = some (some (.str LET tL))):AllD w K aN aO cP c0 c1 c2 c3 c4 f0 f1 f2 f3 f4 aF a0 a1 a2 a3 a4 CD CF CP CE CR h0 h1 h2 h3 h4 t0 t1 t2 t3 t4 tM tL sz
def aHt {P:Av}{w:World}{K:Ab}{mg:Str->Option Value}{base h:Heap}{f:Addr}{fd:Az}{aN aO cP c0 c1 c2 c3 c4 f0 f1 f2 f3 f4 aF a0 a1 a2 a3 a4 CD CF CP CE CR:Addr}{h0 h1 h2 h3 h4:Int}{t0 t1 t2 t3 t4 tM tL:Tok}{sz:Nat}(X:K.In h)(G:h.Ns AD mg)(A:AllD w K aN aO cP c0 c1 c2 c3 c4 f0 f1 f2 f3 f4 aF a0 a1 a2 a3 a4 CD CF CP CE CR h0 h1 h2 h3 h4 t0 t1 t2 t3 t4 tM tL sz)(F:Fun K "law" "law" sLaw f fd):FnOk P w K mg base CX0 13 f fd ["_law_script"] (spLaw K):=by
 obtain ⟨_,d0,d1,d2,d3,d4,d5,d6,d7,d8,d9,d10,d11,d12,d13,d14,d15,d16,d17,d18,d19,d20,d21,d22,d23,d24,d25,d26,d27,d28,d29,d30,d31,d32,d33,d34,d35,d36,d37,d38,d39,d40,d41,d42,d43,d44,d45,d46,d47,z0,z1,z2,z3,z4,z5,z6,z7,z8,z9,z10,z11,z12,z13,z14,z15,z16,z17,z18,tN,tO,nP,ct,bi,⟨n0,_,x0,s0,g0⟩,⟨n1,_,x1,s1,g1⟩,⟨n2,_,x2,s2,g2⟩,⟨n3,_,x3,s3,g3⟩,⟨n4,_,x4,s4,g4⟩,nF,lF,dF,kF,sF0,sF1,sF2,sF3,sF4,⟨nCD,aCD,lCD,kCD,pCD,iCD,oCD⟩,⟨nCF,aCF,lCF,kCF,pCF,iCF,oCF⟩,⟨nCP,aCP,lCP,kCP,pCP,iCP,oCP⟩,⟨nCE,aCE,lCE,kCE,pCE,iCE,oCE⟩,⟨nCR,aCR,lCR,kCR,pCR,iCR,oCR⟩,mM,mL⟩:=A;have T:Txt mg:=⟨AM X G z0,AM X G z1,AM X G z2,AM X G z3,AM X G z4,AM X G z5,AM X G z6,AM X G z7,AM X G z8,AM X G z9,AM X G z10,AM X G z11,AM X G z12,AM X G z13,AM X G z14,AM X G z15,AM X G z16,AM X G z17,AM X G z18⟩;have R:ErB K mg cP c0 c1 c2 c3 c4 f0 f1 f2 f3 f4:=⟨ct,bi,(Bc X G nP),⟨x0,s0⟩,⟨x1,s1⟩,⟨x2,s2⟩,⟨x3,s3⟩,⟨x4,s4⟩,(Bc X G n0),(Bc X G n1),(Bc X G n2),(Bc X G n3),(Bc X G n4)⟩;obtain ⟨fd0,F0,b0⟩:=g0.ok;have e0:=aI7 (P:=P) (w:=w) (base:=base) F0 R;obtain ⟨fd1,F1,b1⟩:=g1.ok;have e1:=aI6 (P:=P) (w:=w) (base:=base) F1 R;obtain ⟨fd2,F2,b2⟩:=g2.ok;have e2:=aI5 (P:=P) (w:=w) (base:=base) F2 R;obtain ⟨fd3,F3,b3⟩:=g3.ok;have e3:=aI4 (P:=P) (w:=w) (base:=base) F3 R;obtain ⟨fd4,F4,b4⟩:=g4.ok;have e4:=aI3 (P:=P) (w:=w) (base:=base) F4 R;have FK:FormsK w K mg aF _:=⟨aJc lF dF kF (by simp [refOf]),(Bc X G nF),BE.mpr ⟨⟨a0,rfl,sF0⟩,BE.mpr ⟨⟨a1,rfl,sF1⟩,BE.mpr ⟨⟨a2,rfl,sF2⟩,BE.mpr ⟨⟨a3,rfl,sF3⟩,BE.mpr ⟨⟨a4,rfl,sF4⟩,λ_ h=>nomatch h⟩⟩⟩⟩⟩⟩;have C:∀ {CX:CXT} {k:Nat} {x:Str} {st:Stmt} {ps:List Str} {sp:Sp},Dn K x st ps->(∀ {f:Addr} {fd:Az},Fun K x x st f fd->FnOk P w K mg base CX k f fd ps sp)->Cal P w K mg base CX k x ps sp:=λD ok=>D.cal X G ok;have k0:=C d0 aHe;have k1:=C d1 λF=>aE6 F T;have k2:=C d2 aBe;have k3:=C d3 xN;have k4:=C d4 aBk;have k5:=C d5 λF=>aHf F k3;have k6:=C d6 λF=>aBd F T k4;have k7:=C d7 λF=>aA6 F T k6 (k2.mono (by decide));have k8:=C d8 λF=>aE5 F T k1 k4 k3;have k9:=C d9 λF=>aA9 F T (k1.mono (by decide)) k8 (k2.mono (by decide));have k10:=C d10 λF=>xP F T (Bc X G mM) (Bc X G mL);have k11:=C d11 λF=>aHc F k0;have k12:=C d12 λF=>aEy F (Bc X G tN.1) tN.2 k11;have k13:=C d13 λF=>xD F (Bc X G tN.1) tN.2 k12;have k14:=C d14 λF=>tU F T (Bc X G tN.1) tN.2 k12;have k15:=C d15 λF=>aA8 F k11;have k16:=C d16 λF=>pQ F T k14;have k17:=C d17 aE0;have k18:=C d18 λF=>aBf F (k17.mono (by decide)) k11;have k19:=C d19 λF=>aHh F k3;have k20:=C d20 λF=>aEx F k3;have k21:=C d21 λF=>aI8 F k3;have k22:=C d22 aA7;have k23:=C d23 xH;have k24:=C d24 λF=>aE1 F T;have k25:=C d25 λF=>aE2 F T k24 k0;have k26:=C d26 λF=>xJ F T (Bc X G tN.1) tN.2 (Bc X G tO.1) tO.2 (k24.mono (by decide)) (k10.mono (by decide)) k25 (k17.mono (by decide));have k27:=C d27 λF=>aBg F T FK k26;obtain ⟨fICD,mICD,DICD⟩:=iCD.ex;obtain ⟨dICD,FICD,bICD⟩:=DICD.ok;have MCD:MkD P w K mg base CD "Draw" ["self","phial","ware","amount"] (kA CD "phial" "ware" "amount"):=⟨_,_,⟨kCD,mICD.at_,mICD.fn,pCD⟩,(aBj FICD ⟨lCD,aCD⟩).mono (by decide),bICD,(Bc X G nCD)⟩;obtain ⟨fICF,mICF,DICF⟩:=iCF.ex;obtain ⟨dICF,FICF,bICF⟩:=DICF.ok;have MCF:MkD P w K mg base CF "Fill" ["self","phial","ware","level"] (kA CF "phial" "ware" "level"):=⟨_,_,⟨kCF,mICF.at_,mICF.fn,pCF⟩,(aBi FICF ⟨lCF,aCF⟩).mono (by decide),bICF,(Bc X G nCF)⟩;obtain ⟨fICP,mICP,DICP⟩:=iCP.ex;obtain ⟨dICP,FICP,bICP⟩:=DICP.ok;have MCP:MkD P w K mg base CP "Pour" ["self","one","other","part"] (kA CP "one" "other" "part"):=⟨_,_,⟨kCP,mICP.at_,mICP.fn,pCP⟩,(aBh FICP ⟨lCP,aCP⟩).mono (by decide),bICP,(Bc X G nCP)⟩;obtain ⟨fICE,mICE,DICE⟩:=iCE.ex;obtain ⟨dICE,FICE,bICE⟩:=DICE.ok;have MCE:MkD P w K mg base CE "Empty" ["self","phial"] (oR CE "phial"):=⟨_,_,⟨kCE,mICE.at_,mICE.fn,pCE⟩,(xR FICE ⟨lCE,aCE⟩).mono (by decide),bICE,(Bc X G nCE)⟩;obtain ⟨fICR,mICR,DICR⟩:=iCR.ex;obtain ⟨dICR,FICR,bICR⟩:=DICR.ok;have MCR:MkD P w K mg base CR "Rinse" ["self","phial"] (oR CR "phial"):=⟨_,_,⟨kCR,mICR.at_,mICR.fn,pCR⟩,(xQ FICR ⟨lCR,aCR⟩).mono (by decide),bICR,(Bc X G nCR)⟩;have k28:=C d28 λF=>xT F (k27.mono (by decide)) MCD MCF MCP MCE MCR;have k29:=C d29 λF=>aEw F T;have k30:=C d30 λF=>aEz F T R e3 b3 e4 b4 k16 (k13.mono (by decide)) (k17.mono (by decide)) (k18.mono (by decide)) (k23.mono (by decide)) (k29.mono (by decide));have k31:=C d31 λF=>aHa F k19;have k32:=C d32 λF=>aE3 F T (k19.mono (by decide)) k31 (k22.mono (by decide)) (k20.mono (by decide));have k33:=C d33 λF=>xG F T (k21.mono (by decide)) (k20.mono (by decide)) k32;have k34:=C d34 λF=>aBm F T (k32.mono (by decide)) k33 (k31.mono (by decide)) (k22.mono (by decide)) (k20.mono (by decide));have hT:∀ c∈aCv CD CF CP CE CR c0 c1 c2 c3 c4,Cls K c.1/\MCal P w K mg base (CXg P w) 7 c.1 "onto_at" Non c.2:=BE.mpr ⟨⟨lCD,oCD.cal λF=>aBc F ⟨lCD,aCD⟩ k30⟩,BE.mpr ⟨⟨lCF,oCF.cal λF=>aBb F ⟨lCF,aCF⟩ R e1 b1 (k13.mono (by decide)) (k17.mono (by decide)) (k18.mono (by decide)) k30⟩,BE.mpr ⟨⟨lCP,oCP.cal λF=>aBa F T ⟨lCP,aCP⟩ (Bc X G tO.1) tO.2 R e0 b0 (k15.mono (by decide)) (k18.mono (by decide)) (k14.mono (by decide)) (k29.mono (by decide)) k30⟩,BE.mpr ⟨⟨lCE,oCE.cal λF=>xK F ⟨lCE,aCE⟩ (k29.mono (by decide))⟩,BE.mpr ⟨⟨lCR,oCR.cal λF=>xI F ⟨lCR,aCR⟩ R e2 b2 (k29.mono (by decide))⟩,λ_ h=>nomatch h⟩⟩⟩⟩⟩;have k35:=C d35 λF=>xS F (k28.mono (by decide)) hT;have k36:=C d36 λF=>tV F T k4 k3;have k37:=C d37 λF=>aHb F T (k1.mono (by decide)) (k2.mono (by decide)) k36 k5 (k3.mono (by decide));have k38:=C d38 λF=>xE F T k35;have k39:=C d39 λF=>xO F T R k38;have k40:=C d40 λF=>xM F T k39;have k41:=C d41 λF=>tT F (k38.mono (by decide)) k40;have k42:=C d42 λF=>aE4 F T k34 (k37.mono (by decide));have k43:=C d43 λF=>aHg F k34;have k44:=C d44 λF=>xF F k43;have k45:=C d45 λF=>aA5 F T;have k46:=C d46 λF=>aBl F T k45;exact aHd F T (k1.mono (by decide)) (k2.mono (by decide)) (k7.mono (by decide)) (k9.mono (by decide)) (k42.mono (by decide)) k41 (k46.mono (by decide)) (k44.mono (by decide))
def all_mk {P:Av}{w:World}{K:Ab}{mg:Str->Option Value}{h:Heap}{fa:Addr}{aN aO cP c0 c1 c2 c3 c4 f0 f1 f2 f3 f4 aF a0 a1 a2 a3 a4 CD CF CP CE CR:Addr}{h0 h1 h2 h3 h4:Int}{t0 t1 t2 t3 t4 tM tL:Tok}{sz:Nat}(X:K.In h)(G:h.Ns AD mg)(hfa:mg "law" = some (.ref fa))(A:AllD w K aN aO cP c0 c1 c2 c3 c4 f0 f1 f2 f3 f4 aF a0 a1 a2 a3 a4 CD CF CP CE CR h0 h1 h2 h3 h4 t0 t1 t2 t3 t4 tM tL sz) :
  ∃ fd:Az,(∀ (s:Shared) (v:Value),BindsTo s fd ⟨[v],[]⟩ [("_law_script",v)])/\∀ base:Heap,K.In base->base.Ns AD mg->FnOk P w K mg base CX0 13 fa fd ["_law_script"] (spLaw K):=
 aJb X G hfa (by cases A;assumption) λF=>aHt X G A F
end K52
namespace PySem.W.Fast
theorem tw7636411981739855536:0=0:=rfl
theorem tw12494846478707925179:0=0:=rfl
theorem tw5976433773707708891:0=0:=rfl
theorem tw16974710199208117352:0=0:=rfl
theorem tw7343919330643996817:0=0:=rfl
theorem tw6262524847782088495:0=0:=rfl
theorem tw11955750719710045206:0=0:=rfl
theorem tw16457506467672022503:0=0:=rfl
theorem tw12905263725000306426:0=0:=rfl
theorem tw1348029072765084407:0=0:=rfl
theorem tw10614012213912687901:0=0:=rfl
theorem tw6117542870014895445:0=0:=rfl
theorem tw5959274920823980830:0=0:=rfl
theorem tw1352090888410831133:0=0:=rfl
theorem tw3049407426526891378:0=0:=rfl
theorem tw825538553711028390:0=0:=rfl
theorem tw17856296842486456594:0=0:=rfl
theorem tw9888493479356127119:0=0:=rfl
theorem tw15792754338356154756:0=0:=rfl
theorem tw1399480603915883164:0=0:=rfl
theorem tw7206113679604150338:0=0:=rfl
theorem tw5519656307099009042:0=0:=rfl
theorem tw728065028798552140:0=0:=rfl
theorem tw6904591305170318020:0=0:=rfl
theorem tw1853532443015341892:0=0:=rfl
theorem tw4618517927226696808:0=0:=rfl
theorem tw819926439540483701:0=0:=rfl
theorem tw2872505106230338889:0=0:=rfl
theorem tw4058195705749704837:0=0:=rfl
theorem tw2144267303666578160:0=0:=rfl
theorem tw11079909777412589704:0=0:=rfl
theorem tw14833668670027338058:0=0:=rfl
theorem tw13624655673587439685:0=0:=rfl
theorem tw13682533419883706340:0=0:=rfl
theorem tw6955700837107094200:0=0:=rfl
theorem tw883861466314726842:0=0:=rfl
theorem tw15746127309988439636:0=0:=rfl
theorem tw18418868161356870579:0=0:=rfl
theorem tw3821048887384249783:0=0:=rfl
theorem tw11898697297480441624:0=0:=rfl
theorem tw12919966461871896614:0=0:=rfl
theorem tw384906605233998457:0=0:=rfl
theorem tw3112046526011472943:0=0:=rfl
theorem tw10672537439694063222:0=0:=rfl
theorem tw7353869379539686886:0=0:=rfl
theorem tw9448384784059394337:0=0:=rfl
theorem tw7021668962229126138:0=0:=rfl
theorem tw1118661740606839348:0=0:=rfl
theorem tw1963158246776205617:0=0:=rfl
theorem tw17454290534163329852:0=0:=rfl
theorem tw5800087658897563346:0=0:=rfl
theorem tw435834354189191629:0=0:=rfl
theorem tw2164238714683638847:0=0:=rfl
theorem tw13890930343684496165:0=0:=rfl
theorem tw4310208707502556204:0=0:=rfl
theorem tw5069009663571000894:0=0:=rfl
theorem tw7446161717985253575:0=0:=rfl
theorem tw14086591833254658705:0=0:=rfl
theorem tw10471525805799835420:0=0:=rfl
theorem tw2918337404841903812:0=0:=rfl
theorem tw10971970188886318065:0=0:=rfl
theorem tw14742347994825966758:0=0:=rfl
theorem tw427485679200039394:0=0:=rfl
theorem tw6991465286033091401:0=0:=rfl
theorem tw334216230599514529:0=0:=rfl
theorem tw13250235617573580974:0=0:=rfl
theorem tw17437888841501982813:0=0:=rfl
theorem tw17281993474729369289:0=0:=rfl
theorem tw14787739572832108731:0=0:=rfl
theorem tw11565316249668914760:0=0:=rfl
theorem tw14069803666051664714:0=0:=rfl
theorem tw9708056726715717053:0=0:=rfl
theorem tw3841438195449545459:0=0:=rfl
theorem tw1146781002156948682:0=0:=rfl
theorem tw9007878941496635109:0=0:=rfl
theorem tw16518453018030083341:0=0:=rfl
theorem tw12317141709194907582:0=0:=rfl
theorem tw14235734214502292793:0=0:=rfl
theorem tw366411616972548273:0=0:=rfl
theorem tw5887308901142401100:0=0:=rfl
theorem tw16475556064704514002:0=0:=rfl
theorem tw7109263453595315868:0=0:=rfl
theorem tw560709739333675224:0=0:=rfl
theorem tw13107878259509556531:0=0:=rfl
theorem tw14495628698971119378:0=0:=rfl
theorem tw3766112023241825292:0=0:=rfl
theorem tw15334411725560971428:0=0:=rfl
theorem tw10144301061522793721:0=0:=rfl
theorem tw16934419068255902098:0=0:=rfl
theorem tw3604586833314589690:0=0:=rfl
theorem tw7200683500475489827:0=0:=rfl
theorem tw16699175687495937020:0=0:=rfl
theorem tw9692220440217672001:0=0:=rfl
theorem tw2132272319039552902:0=0:=rfl
theorem tw11462103556106110824:0=0:=rfl
theorem tw18446575377021647167:0=0:=rfl
theorem tw7364804900034006040:0=0:=rfl
theorem tw15716593697646821381:0=0:=rfl
theorem tw7084944405289346654:0=0:=rfl
theorem tw3166223407864456708:0=0:=rfl
theorem tw4961347659015176883:0=0:=rfl
theorem tw5318720015399321158:0=0:=rfl
theorem tw6636592414126779999:0=0:=rfl
theorem tw3297817088059298170:0=0:=rfl
theorem tw16854297752191199923:0=0:=rfl
theorem tw6343857485444836558:0=0:=rfl
theorem tw12415792050576467097:0=0:=rfl
theorem tw9642405232724807089:0=0:=rfl
theorem tw8481171049538358891:0=0:=rfl
theorem tw5758708505970350119:0=0:=rfl
theorem tw10266156902989272499:0=0:=rfl
theorem tw4377563115957902813:0=0:=rfl
theorem tw962607856223396603:0=0:=rfl
theorem tw4935994379477808382:0=0:=rfl
theorem tw998358709168880353:0=0:=rfl
theorem tw10002217193878085298:0=0:=rfl
theorem tw18195678722062299611:0=0:=rfl
theorem tw2494984277952892454:0=0:=rfl
theorem tw11974943432219572950:0=0:=rfl
theorem tw15848388967695850116:0=0:=rfl
theorem tw5976915230056482094:0=0:=rfl
theorem tw6738814858152324166:0=0:=rfl
theorem tw1128141946098007723:0=0:=rfl
theorem tw601585532763211063:0=0:=rfl
theorem tw5537796359531220958:0=0:=rfl
theorem tw13642899100235692969:0=0:=rfl
theorem tw5507922554543201255:0=0:=rfl
theorem tw10527918134427707224:0=0:=rfl
theorem tw17199487465405885844:0=0:=rfl
theorem tw1411970373066079494:0=0:=rfl
theorem tw5624870055004728031:0=0:=rfl
theorem tw14829325925723032346:0=0:=rfl
theorem tw9815306021339786247:0=0:=rfl
theorem tw9188816884376799520:0=0:=rfl
theorem tw3042066839653449779:0=0:=rfl
theorem tw7371592068031682839:0=0:=rfl
theorem tw16098328929052679898:0=0:=rfl
theorem tw14871902760959751024:0=0:=rfl
theorem tw14485756819914359986:0=0:=rfl
theorem tw9671191626886276123:0=0:=rfl
theorem tw13933860713273961774:0=0:=rfl
theorem tw17360497142740394163:0=0:=rfl
theorem tw4536745385284085645:0=0:=rfl
theorem tw9158237188550424106:0=0:=rfl
theorem tw10078872172660412690:0=0:=rfl
theorem tw14019627012705346685:0=0:=rfl
theorem tw1328048669598762034:0=0:=rfl
theorem tw17630480116065689561:0=0:=rfl
theorem tw1664245976787704180:0=0:=rfl
theorem tw7080642838334178512:0=0:=rfl
theorem tw2041403093993526728:0=0:=rfl
theorem tw12982986896786124562:0=0:=rfl
theorem tw3555404840360123639:0=0:=rfl
theorem tw922993064643146120:0=0:=rfl
theorem tw4359563850710035646:0=0:=rfl
theorem tw13064609349742453729:0=0:=rfl
theorem tw18051219095464389644:0=0:=rfl
theorem tw11549672847957332489:0=0:=rfl
theorem tw4773734817389328684:0=0:=rfl
theorem tw17674432307009120489:0=0:=rfl
theorem tw10481177737887724482:0=0:=rfl
theorem tw2864167771667913095:0=0:=rfl
theorem tw2047104027251452491:0=0:=rfl
theorem tw17883693853335563421:0=0:=rfl
theorem tw7543504030197394594:0=0:=rfl
theorem tw3061812803999026442:0=0:=rfl
theorem tw7033553591149198926:0=0:=rfl
theorem tw16489229443925915459:0=0:=rfl
theorem tw17940667520456690472:0=0:=rfl
theorem tw11119399794351504417:0=0:=rfl
theorem tw1177261669372274696:0=0:=rfl
theorem tw15577935704681315877:0=0:=rfl
theorem tw1929993705235472027:0=0:=rfl
theorem tw15195912791506007462:0=0:=rfl
theorem tw18294266750850635154:0=0:=rfl
theorem tw18421113245239544099:0=0:=rfl
theorem tw6341229045099133103:0=0:=rfl
theorem tw3797761008225930280:0=0:=rfl
theorem tw4869583520376292112:0=0:=rfl
theorem tw999775988390104639:0=0:=rfl
theorem tw2879923503003109332:0=0:=rfl
theorem tw15848168843271473745:0=0:=rfl
theorem tw2866991034733653703:0=0:=rfl
theorem tw18413129631961950711:0=0:=rfl
theorem tw6044132867585332934:0=0:=rfl
theorem tw7226659566912179072:0=0:=rfl
theorem tw5621783518347044302:0=0:=rfl
theorem tw11119917555341145435:0=0:=rfl
theorem tw5646290582080060951:0=0:=rfl
theorem tw10517302431895046274:0=0:=rfl
end PySem.W.Fast
open PySem PySem.W PyProof.Rows
set_option maxRecDepth 100000 in
set_option maxHeartbeats 0 in
theorem PySem.Challenge.cw_phialhouse_k52_thinned_holds : PySem.Challenge.rw_phialhouse_k52_thinned.Holds := by
  w_on;o_law;k_head;(case hw=>w_witness2)
  k_fill
  refine L2.walk_ofK (l:=PySem.Challenge.rw_phialhouse_k52_thinned) (n:=63) (k:=13) (x:="_law_script") (CX:=L2.CX0) (sp:=λK=>K52.spLaw K) rfl (by decide) rfl ⟨rfl,by decide,by decide,rfl⟩ (λw h Y=>PySem.W.kIn_of Y) ?F (λ_ _ a ns hl _ hS=>⟨a,ns,rfl,hS,hl,λ_=>rfl⟩) λ_ _ _ _ z=>z
  case F=>
    intro w mg fa h KX G hmg
    refine' K52.all_mk KX G hmg ?A
    case A=>
      constructor
      repeat' first
        |refine And.intro ?_ ?_
        |refine BE.mpr ⟨?_,?_⟩
        |exact L2.noMem
        |(refine' L2.dnB ?a ?l ?c ?k ?b;(case a=>k_is);(case l=>k_is);(case c=>k_is);(case k=>k_is);(case b=>repeat' first|refine L2.allS λ_=>?_|exact L2.allZ rfl))
        |(refine' L2.fnB ?l ?c ?k ?b;(case l=>k_is);(case c=>k_is);(case k=>k_is);(case b=>repeat' first|refine L2.allS λ_=>?_|exact L2.allZ rfl))
        |(refine' L2.mdnB ?a ?i ?l ?c ?k ?b;(case a=>k_is);(case i=>k_is);(case l=>k_is);(case c=>k_is);(case k=>k_is);(case b=>repeat' first|refine L2.allS λ_=>?_|exact L2.allZ rfl))
        |(refine' L2.topS ?l ?h;(case l=>k_is);(case h=>exact ⟨by decide,by repeat' first|exact .nil|refine .cons ⟨_,rfl⟩ ?_⟩))
        |(refine' L2.exC ?l ?n;(case l=>k_is);(case n=>k_is))
        |refine' L2.ExF.mk ?_ ?_ ?_|refine' L2.ExI.mk ?_ ?_ ?_ ?_|refine' L2.ExK.mk ?_ ?_ ?_ ?_ ?_ ?_|refine' L2.CtK.mk ?_ ?_ ?_|refine' L2.BaseI.mk ?_ ?_ ?_|refine' L2.Cls.mk ?_ ?_ ?_ ?_
        |k_is|kit_is|(show PySem.W.isClsIn _ _=true;k_is)|(show BP _ _ _=_;k_is)|exact ⟨_,_,rfl,rfl⟩|exact Ds|kernel_rfl|rfl|decide|decide +kernel
